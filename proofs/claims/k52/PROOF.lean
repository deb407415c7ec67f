import PyProof.Rows.All
import Wide.All
import OpenK.AllK
import Wide.FinOn
import Lean
import PyProof.EqAt
import PyProof.EqKinds
import PyProof.TupleCall
import PySem.Challenge.RW_flaglocker_k52_books_read_or_not
set_option Elab.async false
set_option compiler.extract_closed false
set_option linter.all false
set_option maxRecDepth 100000
namespace L2
open PySem PySem.Spec PyProof.Rows
abbrev Key:=Sum Int Str
def keyIs:Key → Value → Bool
  | .inl k,v => Value.isInt k v
  | .inr x,v => Value.isStrOf x v
def keyH (w:World):Key → Int
  | .inl k => hashInt k
  | .inr x => hashStr w x
theorem keyIs_shape:∀ {k:Key} {v:Value},keyIs k v = true → (∃ i t,k = Sum.inl i ∧ v = Value.int i t) ∨ (∃ x t,k = Sum.inr x ∧ v = Value.str x t)
  | .inl i,v,h => by
    obtain ⟨t,e⟩:=Value.isInt_shape (k:=i) (v:=v) h
    exact .inl ⟨i,t,rfl,e⟩
  | .inr x,v,h => by
    obtain ⟨t,e⟩:=Value.isStrOf_shape (x:=x) (v:=v) h
    exact .inr ⟨x,t,rfl,e⟩
theorem key_ll (a b:Int):decide ((Sum.inl a:Key) = Sum.inl b) = (a == b):=by
  by_cases e:a = b
  · subst e; simp
  · have h:¬ (Sum.inl a:Key) = Sum.inl b:=fun q => e (Sum.inl.inj q)
    rw [decide_eq_false h]
    exact (beq_eq_false_iff_ne.mpr e).symm
theorem key_rr (a b:Str):decide ((Sum.inr a:Key) = Sum.inr b) = decide (a = b):=by
  by_cases e:a = b
  · subst e; simp
  · have h:¬ (Sum.inr a:Key) = Sum.inr b:=fun q => e (Sum.inr.inj q)
    rw [decide_eq_false h,decide_eq_false e]
theorem key_lr (a:Int) (b:Str):decide ((Sum.inl a:Key) = Sum.inr b) = false:=decide_eq_false (fun q => nomatch q)
theorem key_rl (a:Str) (b:Int):decide ((Sum.inr a:Key) = Sum.inl b) = false:=decide_eq_false (fun q => nomatch q)
def mixKind (prog:Program) (w:World):PySem.KeyKind prog w Key where
  is:=keyIs
  hash:=keyH w
  inj:=fun v a b ha hb => by
    rcases keyIs_shape ha with ⟨i,t,rfl,rfl⟩ | ⟨x,t,rfl,rfl⟩
    · rcases keyIs_shape hb with ⟨j,u,rfl,e⟩ | ⟨y,u,rfl,e⟩
      · injection e with e1 _; rw [e1]
      · exact nomatch e
    · rcases keyIs_shape hb with ⟨j,u,rfl,e⟩ | ⟨y,u,rfl,e⟩
      · exact nomatch e
      · injection e with e1 _; rw [e1]
  byValue:=fun k v h => by
    rcases keyIs_shape h with ⟨i,t,rfl,rfl⟩ | ⟨x,t,rfl,rfl⟩ <;> rfl
  pyHash:=fun hv h => by
    rcases keyIs_shape hv with ⟨i,t,rfl,rfl⟩ | ⟨x,t,rfl,rfl⟩
    · exact wpAny_pyHash_int h
    · exact wpAny_pyHash_str h
  eqBool:=fun hu hv h => by
    rcases keyIs_shape hu with ⟨i,t,rfl,rfl⟩ | ⟨x,t,rfl,rfl⟩
    · rcases keyIs_shape hv with ⟨j,u,rfl,rfl⟩ | ⟨y,u,rfl,rfl⟩
      · rw [key_ll] at h; exact wpAny_eqBool_int h
      · rw [key_lr] at h; exact SeqAt.EqAt.int_str i t y u _ _ _ _ h
    · rcases keyIs_shape hv with ⟨j,u,rfl,rfl⟩ | ⟨y,u,rfl,rfl⟩
      · rw [key_rl] at h; exact SeqAt.EqAt.str_int x t j u _ _ _ _ h
      · rw [key_rr] at h; exact wpAny_eqBool_str h
  «strs» := fun k x t v h => by
    rcases keyIs_shape h with ⟨i,u,rfl,e⟩ | ⟨y,u,rfl,e⟩
    · exact nomatch e
    · injection e with e1 _
      subst e1
      cases v <;> rfl
end L2
namespace L2
open PySem PySem.Spec PyProof.Rows
inductive V where
  | non | bl (b:Bool) | int (i:Int) | str (x:Str) | byt (b:Array UInt8) | flt (b:UInt64) | ref (a:Addr) | ty (n:String)
  deriving DecidableEq
def RelV:V → Value → Prop
  | .non,u => u = Value.none
  | .bl b,u => u = Value.bool b
  | .int i,u => ∃ t,u = Value.int i t
  | .str x,u => ∃ t,u = Value.str x t
  | .byt b,u => ∃ t,u = Value.bytes b t
  | .flt b,u => ∃ t,u = Value.float b t
  | .ref a,u => u = Value.ref a
  | .ty n,u => u = Value.type n
abbrev Vals:List V → List Value → Prop:=Paired RelV
theorem Vals.length {xs:List V} {us:List Value} (r:Vals xs us):xs.length = us.length:=Paired.length r
theorem Vals.get:∀ {xs:List V} {us:List Value} {i:Nat} {x:V},Vals xs us → xs[i]? = some x → ∃ u,us[i]? = some u ∧ RelV x u
  | _,_,_,_,.nil,e => by simp at e
  | _,_,0,_,.cons r _,e => by simp at e; subst e; exact ⟨_,rfl,r⟩
  | _,_,i + 1,x,.cons _ t,e => by
    obtain ⟨u,h1,h2⟩:=Vals.get (i:=i) (x:=x) t (by simpa using e)
    exact ⟨u,by simpa using h1,h2⟩
theorem Vals.set {x:V} {u:Value} (r:RelV x u):∀ {xs:List V} {us:List Value} (i:Nat),Vals xs us → Vals (xs.set i x) (us.set i u)
  | _,_,_,.nil => .nil
  | _,_,0,.cons _ t => .cons r t
  | _,_,i + 1,.cons q t => .cons q (Vals.set r i t)
theorem Vals.append:∀ {xs ys:List V} {us ws:List Value},Vals xs us → Vals ys ws → Vals (xs ++ ys) (us ++ ws)
  | _,_,_,_,.nil,s => s
  | _,_,_,_,.cons r t,s => .cons r (Vals.append t s)
theorem Vals.take:∀ {xs:List V} {us:List Value} (n:Nat),Vals xs us → Vals (xs.take n) (us.take n)
  | _,_,0,_ => .nil
  | _,_,_ + 1,.nil => .nil
  | _,_,n + 1,.cons r t => .cons r (Vals.take n t)
theorem Vals.drop:∀ {xs:List V} {us:List Value} (n:Nat),Vals xs us → Vals (xs.drop n) (us.drop n)
  | _,_,0,r => r
  | _,_,_ + 1,.nil => .nil
  | _,_,n + 1,.cons _ t => Vals.drop n t
theorem Vals.none_of:∀ {xs:List V} {us:List Value} {i:Nat},Vals xs us → xs[i]? = none → us[i]? = none:=fun {xs us i} r e => by
  have h1:=r.length
  have h2:xs.length ≤ i:=List.getElem?_eq_none_iff.mp e
  exact List.getElem?_eq_none_iff.mpr (by omega)
def RelO:Option V → Option Value → Prop
  | some v,some u => RelV v u
  | none,none => True
  | _,_ => False
def KV {κ:Type}:List (κ × V) → List (κ × Value) → Prop:=Paired fun (p:κ × V) (q:κ × Value) => p.1 = q.1 ∧ RelV p.2 q.2
def kV:Key → V
  | .inl i => .int i
  | .inr x => .str x
inductive HO where
    | lst (xs:List V)
    | tup (xs:List V)
    | dK (kvs:List (Key × V)) | dT (kvs:List (List Key × V))
    | set (S:Int → Bool) (n:Nat)
    | ins (C dx:Addr) (fs:List (Str × V))
    | own (x:Addr)
    | xd (fs:List (Str × V))
    | met (f x:Addr)
    | rng (lo hi:Int)
    | frz (o:Obj) (u:HO)
    | tbl (ps:Array Value)
    | ext (φ:Heap → Prop)
abbrev Hp:=Addr → Option HO
def upd (H:Hp) (a:Addr) (o:HO):Hp:=fun b => if b = a then some o else H b
theorem upd_same {H:Hp} {a:Addr} {o:HO}:upd H a o a = some o:=by unfold upd; rw [if_pos rfl]
theorem upd_ne {H:Hp} {a b:Addr} {o:HO} (h:b ≠ a):upd H a o b = H b:=by unfold upd; rw [if_neg h]
theorem upd_upd {H:Hp} {a:Addr} {o u:HO}:upd (upd H a o) a u = upd H a u:=by
  funext b; unfold upd; split <;> rfl
theorem ne_of_none {H:Hp} {a b:Addr} {o:HO} (h:H a = some o) (h':H b = none):a ≠ b:=by
  intro e; subst e; rw [h] at h'; cases h'
section
variable (P:Program) (w:World)
def ObjOk (H:Hp) (h:Heap) (a:Addr):HO → Prop
  | .lst xs => xs.length ≤ sizeLine ∧ ∃ (its:List Value) (n:Nat),Vals xs its ∧ h.get? a = some { cls:=.type "list",data:=.seq its.toArray n }
  | .tup xs => xs.length ≤ sizeLine ∧ ∃ its:List Value,Vals xs its ∧ IsTup h a its.toArray
  | .dK kvs => kvs.length ≤ sizeLine ∧ (a == sysModules) = false ∧ ∃ vs,KV kvs vs ∧ h.DictOf (mixKind P w) a vs
  | .dT kvs => kvs.length ≤ sizeLine ∧ (a == sysModules) = false ∧ ∃ xs:List (List Key × Addr × Value),
      Paired (fun (p:List Key × V) (q:List Key × Addr × Value) => p.1 = q.1 ∧ H q.2.1 = some (.tup (p.1.map kV)) ∧ RelV p.2 q.2.2) kvs xs ∧
      ∃ o es ep,h.get? a = some o ∧ o.ExactDict ∧ o.data = .dict es ep ∧ es.toList = xs.map (entryOfKey (tupleKind (mixKind P w))) ∧ (xs.map (·.1)).Nodup
  | .set S n => h.SetOf (intKind P w) a S n
  | .ins C dx fs => H dx = some (.own a) ∧ fs.length ≤ 1000 ∧ dx ≠ a ∧ h.get? a = some (PySem.W.instObj C dx) ∧
      ∃ mA,h.Ns1 dx mA ∧ (∀ f,RelO (fs.lookup f) (mA f)) ∧ PySem.Within mA (fs.map (·.1))
  | .own _ => ∃ o,h.get? a = some o
  | .xd fs => ∃ mA,h.Ns1 a mA ∧ ∀ f,RelO (fs.lookup f) (mA f)
  | .rng lo hi => ∃ t u v,h.get? a = some { cls:=.type "range",data:=.fields #[.int lo t,.int hi u,.int 1 v] }
  | .frz o u => h.get? a = some o ∧ ObjOk H h a u
  | .tbl ps => h.get? a = some { cls:=.none,data:=.fields ps }
  | .met f x => h.get? a = some (PySem.W.methodObj (.ref f) (.ref x))
  | .ext φ => φ h ∧ (∃ o,h.get? a = some o) ∧ ∀ h1 h2:Heap,φ h1 → (∀ o,h1.get? a = some o → h2.get? a = some o) → φ h2
def HOk (H:Hp) (h:Heap):Prop:=∀ a o,H a = some o → ObjOk P w H h a o
end
section
variable {P:Program} {w:World} {H H':Hp} {h h':Heap} {a:Addr} {o:HO}
theorem ObjOk.lt (x:ObjOk P w H h a o):a < h.objs.size:=by
  cases o with
  | lst xs => obtain ⟨_,_,_,_,e⟩:=x; exact Heap.lt_size e
  | tup xs => obtain ⟨_,_,_,p⟩:=x; exact p.lt
  | dK kvs => obtain ⟨_,_,_,_,o,_,_,e,_⟩:=x; exact Heap.lt_size e
  | dT kvs => obtain ⟨_,_,_,_,o,_,_,e,_⟩:=x; exact Heap.lt_size e
  | set S n => obtain ⟨o,_,_,_,e,_⟩:=x; exact Heap.lt_size e
  | ins C dx fs => obtain ⟨_,_,_,e,_⟩:=x; exact Heap.lt_size e
  | own y => obtain ⟨_,e⟩:=x; exact Heap.lt_size e
  | xd fs => obtain ⟨_,⟨_,_,_,e,_⟩,_⟩:=x; exact Heap.lt_size e
  | rng lo hi => obtain ⟨_,_,_,e⟩:=x; exact Heap.lt_size e
  | frz ob u => obtain ⟨e,_⟩:=x; exact Heap.lt_size e
  | tbl ps => exact Heap.lt_size (show h.get? a = some _ from x)
  | met f y => exact Heap.lt_size (show h.get? a = some _ from x)
  | ext φ => obtain ⟨_,⟨_,e⟩,_⟩:=x; exact Heap.lt_size e
theorem Paired.mapP {α β:Type} {F G:α → β → Prop}:∀ {l₁:List α} {l₂:List β},Paired F l₁ l₂ → (∀ a b,F a b → G a b) → Paired G l₁ l₂
  | _,_,.nil,_ => .nil
  | _,_,.cons r t,f => .cons (f _ _ r) (Paired.mapP t f)
theorem ObjOk.stay (x:ObjOk P w H h a o) (k:∀ b u,(b = a ∨ H b = some (.own a)) → h.get? b = some u → h'.get? b = some u)
    (ho:∀ b,H b = some (.own a) → H' b = some (.own a)) (ht:∀ b xs,H b = some (.tup xs) → H' b = some (.tup xs)):ObjOk P w H' h' a o:=by
  induction o with
  | lst xs => obtain ⟨z,its,n,r,e⟩:=x; exact ⟨z,its,n,r,k _ _ (.inl rfl) e⟩
  | tup xs => obtain ⟨z,its,r,ob,e,c⟩:=x; exact ⟨z,its,r,ob,k _ _ (.inl rfl) e,c⟩
  | dK kvs => obtain ⟨z,y,vs,r,ob,es,ep,e,c⟩:=x; exact ⟨z,y,vs,r,ob,es,ep,k _ _ (.inl rfl) e,c⟩
  | dT kvs =>
    obtain ⟨z,y,xs,r,ob,es,ep,e,c⟩:=x
    exact ⟨z,y,xs,Paired.mapP r fun p q z => ⟨z.1,ht _ _ z.2.1,z.2.2⟩,ob,es,ep,k _ _ (.inl rfl) e,c⟩
  | set S n => obtain ⟨ob,es,ep,t,e,c⟩:=x; exact ⟨ob,es,ep,t,k _ _ (.inl rfl) e,c⟩
  | ins C dx fs =>
    obtain ⟨d,z,ne,e,mA,⟨od,es,ep,e2,c⟩,r⟩:=x
    exact ⟨ho _ d,z,ne,k _ _ (.inl rfl) e,mA,⟨od,es,ep,k _ _ (.inr d) e2,c⟩,r⟩
  | own y => obtain ⟨ob,e⟩:=x; exact ⟨ob,k _ _ (.inl rfl) e⟩
  | xd fs => obtain ⟨mA,⟨od,es,ep,e,c⟩,r⟩:=x; exact ⟨mA,⟨od,es,ep,k _ _ (.inl rfl) e,c⟩,r⟩
  | rng lo hi => obtain ⟨t,u,v,e⟩:=x; exact ⟨t,u,v,k _ _ (.inl rfl) e⟩
  | frz ob u ih => obtain ⟨e,q⟩:=x; exact ⟨k _ _ (.inl rfl) e,ih q⟩
  | tbl ps =>
    have e:h.get? a = some { cls:=.none,data:=.fields ps }:=x
    show h'.get? a = some { cls:=.none,data:=.fields ps }
    exact k a _ (.inl rfl) e
  | met f y =>
    have e:h.get? a = some (PySem.W.methodObj (.ref f) (.ref y)):=x
    show h'.get? a = some (PySem.W.methodObj (.ref f) (.ref y))
    exact k a _ (.inl rfl) e
  | ext φ => obtain ⟨p,⟨o,e⟩,st⟩:=x; exact ⟨st _ _ p fun o q => k _ _ (.inl rfl) q,⟨o,k _ _ (.inl rfl) e⟩,st⟩
theorem HOk.lt (x:HOk P w H h) (e:H a = some o):a < h.objs.size:=(x a o e).lt
theorem HOk.fresh (x:HOk P w H h) (e:h.objs.size ≤ a):H a = none:=by
  cases q:H a with
  | none => rfl
  | some u => exact absurd (Nat.lt_of_lt_of_le (x.lt q) e) (Nat.lt_irrefl _)
theorem HOk.kept (x:HOk P w H h) (k:∀ b u,h.get? b = some u → h'.get? b = some u):HOk P w H h':=fun a o e =>
  (x a o e).stay (fun b u _ q => k b u q) (fun _ q => q) fun _ _ q => q
theorem HOk.laid (x:HOk P w H h) (k:∀ b u,h.get? b = some u → h'.get? b = some u) (hp:h.objs.size ≤ a) (new:ObjOk P w (upd H a o) h' a o):HOk P w (upd H a o) h':=fun b u e => by
  have hn:=x.fresh hp
  by_cases hb:b = a
  · subst hb; rw [upd_same] at e; cases e; exact new
  · rw [upd_ne hb] at e
    exact (x b u e).stay (fun c v _ q => k c v q) (fun c q => by rw [upd_ne (ne_of_none q hn)]; exact q) fun c xs q => by rw [upd_ne (ne_of_none q hn)]; exact q
end
def Rd (H:Hp) (a:Addr) (u:HO):Prop:=H a = some u ∨ ∃ o,H a = some (.frz o u)
theorem Rd.of {H:Hp} {a:Addr} {u:HO} (h:H a = some u):Rd H a u:=.inl h
theorem Rd.ok {P:Program} {w:World} {H:Hp} {h:Heap} {a:Addr} {u:HO} (r:Rd H a u) (x:HOk P w H h):ObjOk P w H h a u:=by
  rcases r with r | ⟨o,r⟩
  · exact x a u r
  · obtain ⟨_,q⟩:=x a _ r
    exact q
def Mut:Option HO → Prop
  | some (.lst _) => True
  | some (.dK _) => True
  | some (.dT _) => True
  | some (.set _ _) => True
  | some (.ins _ _ _) => True
  | some (.ext _) => True
  | _ => False
section
variable {P:Program} {w:World} {H:Hp} {h h':Heap} {x e:Addr} {o':HO}
theorem HOk.write (ok:HOk P w H h) (mu:Mut (H x)) (he:e = x ∨ H e = some (.own x)) (k:∀ b u,b ≠ e → h.get? b = some u → h'.get? b = some u) (heo:∃ u,h'.get? e = some u)
    (new:ObjOk P w (upd H x o') h' x o'):HOk P w (upd H x o') h':=fun b u q => by
  have nown:∀ c y,H c = some (.own y) → c ≠ x:=fun c y r z => by subst z; rw [r] at mu; exact mu
  have ntup:∀ c xs,H c = some (.tup xs) → c ≠ x:=fun c xs r z => by subst z; rw [r] at mu; exact mu
  by_cases hb:b = x
  · subst hb; rw [upd_same] at q; cases q; exact new
  · rw [upd_ne hb] at q
    by_cases hbe:b = e
    · have q':H b = some (.own x):=by
        rcases he with z | z
        · exact absurd (hbe.trans z) hb
        · rw [hbe]; exact z
      rw [q] at q'; cases q'
      obtain ⟨v,hv⟩:=heo
      exact ⟨v,by rw [hbe]; exact hv⟩
    · refine (ok b u q).stay (fun c v hc r => k c v ?_ r) (fun c r => by rw [upd_ne (nown c b r)]; exact r) fun c xs r => by rw [upd_ne (ntup c xs r)]; exact r
      rcases hc with rfl | hc
      · exact hbe
      · rintro rfl
        rcases he with z | z
        · exact nown c b hc z
        · rw [hc] at z; cases z; exact hb rfl
end
structure Un (fs ex:List Addr) (H H':Hp) (h h':Heap):Prop where
  keep:∀ b o,h.get? b = some o → H b = none → b ∉ fs → b ∉ ex → h'.get? b = some o
  slot:∀ b o,h.get? b = some o → H b = none → b ∈ fs → b ∉ ex → ∃ sl,h'.get? b = some { o with slots:=sl }
  free:∀ b o,h.get? b = some o → H b = none → b ∉ ex → H' b = none
  there:∀ b o,h.get? b = some o → b ∉ ex → ∃ o',h'.get? b = some o'
  tups:∀ b xs,H b = some (.tup xs) → H' b = some (.tup xs)
  frzs:∀ b o u,H b = some (.frz o u) → H' b = some (.frz o u)
  tbls:∀ b ps,H b = some (.tbl ps) → ∃ more,H' b = some (.tbl (ps ++ more))
section
variable {fs fs' ex ex':List Addr} {H H1 H2:Hp} {h h1 h2 h':Heap} {a x e:Addr} {o:HO}
theorem Un.any (u:Un fs ex H H1 h h1) {b:Addr} {ob:Obj} (q:h.get? b = some ob) (n:H b = none) (hx:b ∉ ex):∃ sl,h1.get? b = some { ob with slots:=sl }:=by
  by_cases hb:b ∈ fs
  · exact u.slot b ob q n hb hx
  · exact ⟨ob.slots,u.keep b ob q n hb hx⟩
theorem Un.trans (a:Un fs ex H H1 h h1) (b:Un fs ex H1 H2 h1 h2):Un fs ex H H2 h h2 where
  keep:=fun c ob q n hc hx => b.keep c ob (a.keep c ob q n hc hx) (a.free c ob q n hx) hc hx
  slot:=fun c ob q n hc hx => by
    obtain ⟨sl,e1⟩:=a.slot c ob q n hc hx
    obtain ⟨sl',e2⟩:=b.slot c _ e1 (a.free c ob q n hx) hc hx
    exact ⟨sl',e2⟩
  free:=fun c ob q n hx => by
    obtain ⟨o',e1⟩:=a.there c ob q hx
    exact b.free c o' e1 (a.free c ob q n hx) hx
  there:=fun c ob q hx => by
    obtain ⟨o',e1⟩:=a.there c ob q hx
    exact b.there c o' e1 hx
  tups:=fun c xs q => b.tups c xs (a.tups c xs q)
  frzs:=fun c ob xs q => b.frzs c ob xs (a.frzs c ob xs q)
  tbls:=fun c ps q => by
    obtain ⟨m1,e1⟩:=a.tbls c ps q
    obtain ⟨m2,e2⟩:=b.tbls c _ e1
    exact ⟨m1 ++ m2,by rw [e2,Array.append_assoc]⟩
theorem Un.kept (k:∀ b u,h.get? b = some u → h'.get? b = some u):Un fs ex H H h h' :=
  ⟨fun b ob q _ _ _ => k b ob q,fun b ob q _ _ _ => ⟨ob.slots,k b ob q⟩,fun _ _ _ n _ => n,fun b ob q _ => ⟨ob,k b ob q⟩,fun _ _ q => q,fun _ _ _ q => q,fun _ ps q => ⟨#[],by rw [q]; simp⟩⟩
theorem Un.refl:Un fs ex H H h h:=Un.kept fun _ _ q => q
theorem Un.laid (k:∀ b u,h.get? b = some u → h'.get? b = some u) (hp:h.objs.size ≤ a) (hn:H a = none):Un fs ex H (upd H a o) h h' where
  keep:=fun b u q _ _ _ => k b u q
  slot:=fun b u q _ _ _ => ⟨u.slots,k b u q⟩
  free:=fun b u q n _ => by rw [upd_ne (Nat.ne_of_lt (Nat.lt_of_lt_of_le (Heap.lt_size q) hp))]; exact n
  there:=fun b u q _ => ⟨u,k b u q⟩
  tups:=fun b xs q => by rw [upd_ne (ne_of_none q hn)]; exact q
  frzs:=fun b u xs q => by rw [upd_ne (ne_of_none q hn)]; exact q
  tbls:=fun b ps q => ⟨#[],by rw [upd_ne (ne_of_none q hn),q]; simp⟩
theorem Un.write (mu:Mut (H x)) (he:e = x ∨ H e = some (.own x)) (k:∀ b u,b ≠ e → h.get? b = some u → h'.get? b = some u) (heo:∃ u,h'.get? e = some u):Un fs ex H (upd H x o) h h':=by
  have hx:∀ b,H b = none → b ≠ x:=fun b n z => by subst z; rw [n] at mu; exact mu
  have hb:∀ b,H b = none → b ≠ e:=fun b n z => by
    subst z
    rcases he with r | r
    · exact hx b n r
    · rw [n] at r; cases r
  have hm:∀ b u,H b = some u → ¬ Mut (some u) → b ≠ x:=fun b u q nm z => by subst z; rw [q] at mu; exact nm mu
  refine ⟨fun b u q n _ _ => k b u (hb b n) q,fun b u q n _ _ => ⟨u.slots,k b u (hb b n) q⟩,fun b u q n _ => by rw [upd_ne (hx b n)]; exact n,fun b u q _ => ?_,
    fun b xs q => by rw [upd_ne (hm b _ q fun z => z)]; exact q,fun b u xs q => by rw [upd_ne (hm b _ q fun z => z)]; exact q,fun b ps q => ⟨#[],by rw [upd_ne (hm b _ q fun z => z),q]; simp⟩⟩
  by_cases hbe:b = e
  · subst hbe; exact heo
  · exact ⟨u,k b u hbe q⟩
theorem Un.mono (u:Un fs ex H H1 h h1) (hs:∀ b ∈ fs,b ∈ fs') (hx:∀ b ∈ ex,b ∈ ex'):Un fs' ex' H H1 h h1 :=
  ⟨fun b ob q n hb he => u.keep b ob q n (fun z => hb (hs b z)) fun z => he (hx b z),fun _ _ q n _ he => u.any q n fun z => he (hx _ z),fun b ob q n he => u.free b ob q n fun z => he (hx b z),fun b ob q he => u.there b ob q fun z => he (hx b z),u.tups,u.frzs,u.tbls⟩
end
def trk (h:Heap) (H:Hp):List Addr:=(List.range h.objs.size).filter fun a => (H a).isSome
def hidT (h:Heap) (H:Hp):Heap:=PySem.W.hideAll h (trk h H)
theorem hidT_size (h:Heap) (H:Hp):(hidT h H).objs.size = h.objs.size:=PySem.W.hideAll_size _ _
theorem hidT_get {h:Heap} {H:Hp} {b:Addr} {o:Obj} (e:h.get? b = some o) (n:H b = none):(hidT h H).get? b = some o :=
  PySem.W.hideAll_get _ e fun hm => by
    have q:(H b).isSome = true:=(List.mem_filter.mp hm).2
    rw [n] at q; simp at q
theorem of_hidT {h:Heap} {H:Hp} {b:Addr} {o:Obj} (e:(hidT h H).get? b = some o):h.get? b = some o ∧ H b = none:=by
  have e':h.get? b = some o:=PySem.W.of_hideAll (trk h H) e
  refine ⟨e',?_⟩
  cases q:H b with
  | none => rfl
  | some x =>
    have hm:b ∈ trk h H:=List.mem_filter.mpr ⟨List.mem_range.mpr (Heap.lt_size e'),by simp [q]⟩
    have z:(hidT h H).get? b = none:=PySem.W.hideAll_none (trk h H) hm
    rw [z] at e; cases e
def allNews (g h:Heap) (L:Addr):List (Addr × Obj):=(List.range h.objs.size).filterMap fun a => if a = L ∨ (g.get? a).isSome = true then none else (h.get? a).map fun o => (a,o)
def rest (g h:Heap) (L d:Addr):List (Addr × Obj):=(allNews g h L).filter fun p => decide (p.1 ≠ d)
end L2
namespace L2
open PySem PySem.Spec PyProof.Rows
structure Mod (K:PySem.W.Frag) (mg:Str → Option Value) (base:Heap):Prop where
  kin:K.In base
  glob:base.Ns mainGlobals mg
  blt:∃ mb,base.Ns builtinsNs mb ∧ ∀ x:Str,x ≠ "__name__" → mb x = bootBuiltins x
  nolimit:base.NoLimit
structure Cx where
  prog:Program
  w:World
  K:PySem.W.Frag
  mg:Str → Option Value
  base:Heap
  A:Around
  N:List Str
  s₀:Shared
  H₀:Hp
  env:Env
  outer:List Env
  stack:List Env
  ex:List Addr
  fn:Str → Bool
  calm:Bool
  pn:List (Addr × Obj)
  xe:Value → Shared → Prop
def frs (l:List Env):List Addr:=l.filterMap (·.frame)
abbrev Cx.fs (X:Cx):List Addr:=frs X.outer
def Vis (sc:Scope) (x:Str):Prop:=sc.names.lookup x = some .local ∨ sc.names.lookup x = some .cell ∨ sc.names.lookup x = some .free
def Loc (sc:Scope) (x:Str):Prop:=sc.names.lookup x = some .local ∨ sc.names.lookup x = some .cell
def Look (env:Env) (h:Heap) (m:Str → Option Value) (x:Str) (u:Value):Prop :=
  (env.kindOf x = some .local ∧ m x = some u) ∨ ((env.kindOf x = some .cell ∨ env.kindOf x = some .free) ∧ ∃ c,env.cells.lookup x = some c ∧ h.IsCell c (some u))
structure Cx.Ok (X:Cx):Prop where
  mod:Mod X.K X.mg X.base
  kind:X.env.scope.kind = .function
  glob:X.env.globals = mainGlobals
  blt:X.env.builtins = builtinsNs
  above:X.s₀.heap.objs.size ≤ X.env.locals
  inj:∀ x y c,X.env.cells.lookup x = some c → X.env.cells.lookup y = some c → x = y
  has:∀ x,(X.env.kindOf x = some .cell ∨ X.env.kindOf x = some .free) → ∃ c,X.env.cells.lookup x = some c
  cab:∀ x c,X.fn x = true → X.env.cells.lookup x = some c → X.s₀.heap.objs.size ≤ c
  hd:X.calm = true → X.A.handled = none
  frames:X.A.frames = some X.stack
  stk:X.stack = X.outer ∨ (X.stack = X.env :: X.outer ∧ X.env.frame = some X.env.locals)
  exf:∀ b ∈ X.ex,b ≠ X.env.locals ∧ ∀ x c,X.env.cells.lookup x = some c → c ≠ b
  bs:∀ b o,X.base.get? b = some o → X.s₀.heap.get? b = some o ∧ X.H₀ b = none
  bsz:X.base.objs.size ≤ X.s₀.heap.objs.size
  noex:∀ b o,X.base.get? b = some o → b ∉ X.ex
  exfs:∀ b ∈ X.ex,b ∉ X.fs
  funs:X.s₀.heap.FunFrames X.base X.outer
  frf:∀ b ∈ X.fs,X.H₀ b = none
structure Inv (X:Cx) (pins:List (Addr × Obj)) (σ:List (Option V)) (H:Hp) (s:Shared):Prop where
  ok:X.Ok
  os:s.os = X.s₀.os
  bare:AllBare s.gens
  base:Un X.fs X.ex X.H₀ H X.s₀.heap s.heap
  loc:∃ m,s.heap.Ns X.env.locals m ∧ ∀ (i:Nat) (x:Str) (v:V),X.N[i]? = some x → σ[i]? = some (some v) → Vis X.env.scope x → ∃ u,RelV v u ∧ Look X.env s.heap m x u
  cell:∀ x c,X.env.cells.lookup x = some c → ∃ v,s.heap.IsCell c v
  free:H X.env.locals = none
  freeC:∀ x c,X.env.cells.lookup x = some c → H c = none
  pin:∀ p ∈ X.pn ++ pins,s.heap.get? p.1 = some p.2 ∧ H p.1 = none ∧ p.1 ≠ X.env.locals ∧ p.1 ∉ X.fs ∧ ∀ v,p.2.data ≠ .cell v
  hok:HOk X.prog X.w H s.heap
  len:σ.length = X.N.length
section
variable {X:Cx} {pins:List (Addr × Obj)} {σ:List (Option V)} {H H':Hp} {s:Shared} {h':Heap}
theorem Cx.Ok.nofr (ok:X.Ok) {b:Addr} {o:Obj} (e:X.base.get? b = some o):b ∉ X.fs:=fun hb => by
  have:=(ok.funs.mem hb).1
  rw [e] at this; cases this
theorem Inv.bs (I:Inv X pins σ H s):∀ b o,X.base.get? b = some o → s.heap.get? b = some o ∧ H b = none:=fun b o e =>
  ⟨I.base.keep b o (I.ok.bs b o e).1 (I.ok.bs b o e).2 (I.ok.nofr e) (I.ok.noex b o e),I.base.free b o (I.ok.bs b o e).1 (I.ok.bs b o e).2 (I.ok.noex b o e)⟩
theorem Inv.bk (I:Inv X pins σ H s):∀ b o,X.base.get? b = some o → s.heap.get? b = some o:=fun b o e => (I.bs b o e).1
theorem Inv.mod (I:Inv X pins σ H s):Mod X.K X.mg X.base:=I.ok.mod
theorem Inv.kIn (I:Inv X pins σ H s):X.K.In s.heap:=I.ok.mod.kin.keeps I.bk
theorem Inv.nolimit (I:Inv X pins σ H s):s.heap.NoLimit:=I.ok.mod.nolimit.keeps I.bk
theorem Inv.fr (I:Inv X pins σ H s):∃ m,Fr X.base X.env.locals s.heap m :=
  let ⟨m,hn,_⟩:=I.loc
  ⟨m,hn,I.bk,Nat.le_trans I.ok.bsz I.ok.above⟩
theorem Inv.lt (I:Inv X pins σ H s):X.env.locals < s.heap.objs.size:=let ⟨_,hn,_⟩:=I.loc; hn.lt
theorem Inv.sz (I:Inv X pins σ H s):X.s₀.heap.objs.size ≤ s.heap.objs.size:=Nat.le_trans I.ok.above (Nat.le_of_lt I.lt)
theorem Inv.nofs (I:Inv X pins σ H s) {a:Addr} (h:s.heap.objs.size ≤ a):a ∉ X.fs:=fun hb => by
  obtain ⟨_,o,ho,_⟩:=I.ok.funs.mem hb
  exact absurd (Nat.lt_of_lt_of_le (Heap.lt_size ho) (Nat.le_trans I.sz h)) (Nat.lt_irrefl _)
theorem Inv.cne (I:Inv X pins σ H s):∀ x c,X.env.cells.lookup x = some c → c ≠ X.env.locals:=fun x c e z => by
  obtain ⟨v,o,ho,hd⟩:=I.cell x c e
  obtain ⟨m,⟨o',es,ep,ho',hd',_⟩,_⟩:=I.loc
  rw [z,ho'] at ho; cases ho; rw [hd'] at hd; cases hd
theorem Inv.funs (I:Inv X pins σ H s):s.heap.FunFrames X.base X.outer:=by
  have all:∀ (l:List Env),(∀ b ∈ frs l,b ∈ X.fs) → X.s₀.heap.FunFrames X.base l → s.heap.FunFrames X.base l:=by
    intro l
    induction l with
    | nil => intro _ _; trivial
    | cons env r ih =>
      intro hs hl
      obtain ⟨hk,⟨L,o,hf,hn,ho,hd⟩,hr⟩:=hl
      have hL:L ∈ X.fs:=hs L (by unfold frs; rw [List.filterMap_cons,hf]; exact List.mem_cons_self)
      obtain ⟨sl,e⟩:=I.base.slot L o ho (I.ok.frf L hL) hL fun z => I.ok.exfs L z hL
      exact ⟨hk,⟨L,_,hf,hn,e,hd⟩,ih (fun b hb => hs b (by unfold frs; rw [List.filterMap_cons,hf]; exact List.mem_cons_of_mem _ hb)) hr⟩
  exact all X.outer (fun _ hb => hb) I.ok.funs
theorem Inv.stack (I:Inv X pins σ H s):s.heap.FunFrames X.base X.stack:=by
  rcases I.ok.stk with e | ⟨e,hf⟩
  · rw [e]; exact I.funs
  · rw [e]
    obtain ⟨m,hn,_⟩:=I.loc
    refine .cons (by rw [I.ok.kind]; decide) hf hn ?_ I.funs
    exact Heap.get?_none_of_le (Nat.le_trans I.ok.bsz I.ok.above)
theorem Inv.stkSub (I:Inv X pins σ H s):∀ b ∈ frs X.stack,b ∈ X.env.locals :: X.fs:=fun b hb => by
  rcases I.ok.stk with e | ⟨e,hf⟩
  · rw [e] at hb; exact List.mem_cons_of_mem _ hb
  · rw [e] at hb
    unfold frs at hb
    rw [List.filterMap_cons,hf] at hb
    exact hb
theorem Inv.stkFree (I:Inv X pins σ H s):∀ b ∈ frs X.stack,H b = none:=fun b hb => by
  rcases List.mem_cons.mp (I.stkSub b hb) with e | hb
  · rw [e]; exact I.free
  · obtain ⟨_,o,ho,_⟩:=I.ok.funs.mem hb
    exact I.base.free b o ho (I.ok.frf b hb) fun z => I.ok.exfs b z hb
theorem Inv.step {g':Array GenState} {t':Nat} {d':Drawn} {ch:List Addr} (I:Inv X pins σ H s)
    (hch:∀ b ∈ ch,(b ∈ X.ex ∨ X.s₀.heap.objs.size ≤ b) ∧ b ≠ X.env.locals ∧ (∀ x c,X.env.cells.lookup x = some c → c ≠ b) ∧ ∀ p ∈ X.pn ++ pins,p.1 ≠ b)
    (keep:∀ b o,b ≠ X.env.locals → b ∉ X.fs → b ∉ ch → s.heap.get? b = some o → H b = none → h'.get? b = some o)
    (slot:∀ b o,b ≠ X.env.locals → b ∈ X.fs → b ∉ ch → s.heap.get? b = some o → H b = none → ∃ sl,h'.get? b = some { o with slots:=sl }) (free:∀ b o,b ∉ ch → s.heap.get? b = some o → H b = none → H' b = none)
    (there:∀ b o,b ∉ ch → s.heap.get? b = some o → ∃ o',h'.get? b = some o')
    (tups:∀ b xs,H b = some (.tup xs) → H' b = some (.tup xs)) (frzs:∀ b o u,H b = some (.frz o u) → H' b = some (.frz o u)) (tbls:∀ b ps,H b = some (.tbl ps) → ∃ more,H' b = some (.tbl (ps ++ more)))
    (ns:∀ m,s.heap.Ns X.env.locals m → h'.Ns X.env.locals m) (hok:HOk X.prog X.w H' h') (hg:AllBare g') :
    Inv X pins σ H' { s with heap:=h',gens:=g',drawn:=d',toks:=t' }:=by
  have neL:∀ b o,X.s₀.heap.get? b = some o → b ≠ X.env.locals:=fun b o e => Nat.ne_of_lt (Nat.lt_of_lt_of_le (Heap.lt_size e) I.ok.above)
  have neC:∀ b o,X.s₀.heap.get? b = some o → b ∉ X.ex → b ∉ ch:=fun b o e hx hb => by
    rcases (hch b hb).1 with z | z
    · exact hx z
    · exact absurd (Nat.lt_of_lt_of_le (Heap.lt_size e) z) (Nat.lt_irrefl _)
  have cellK:∀ x c,X.env.cells.lookup x = some c → ∀ v,s.heap.IsCell c v → h'.IsCell c v:=fun x c e v ⟨o,ho,hd⟩ => by
    have nch:c ∉ ch:=fun z => (hch c z).2.2.1 x c e rfl
    by_cases hc:c ∈ X.fs
    · obtain ⟨sl,q⟩:=slot c o (I.cne x c e) hc nch ho (I.freeC x c e)
      exact ⟨_,q,hd⟩
    · exact ⟨o,keep c o (I.cne x c e) hc nch ho (I.freeC x c e),hd⟩
  refine ⟨I.ok,I.os,hg,⟨fun b o e n hb hx => ?_,fun b o e n hb hx => ?_,fun b o e n hx => ?_,fun b o e hx => ?_,fun b xs e => tups b xs (I.base.tups b xs e),fun b o xs e => frzs b o xs (I.base.frzs b o xs e),fun b ps e => ?_⟩,?_,fun x c e => ?_,?_,fun x c e => ?_,fun p hp => ?_,hok,I.len⟩
  · exact keep b o (neL b o e) hb (neC b o e hx) (I.base.keep b o e n hb hx) (I.base.free b o e n hx)
  · obtain ⟨sl,e1⟩:=I.base.slot b o e n hb hx
    obtain ⟨sl',e2⟩:=slot b _ (neL b o e) hb (neC b o e hx) e1 (I.base.free b o e n hx)
    exact ⟨sl',e2⟩
  · obtain ⟨o',e1⟩:=I.base.there b o e hx
    exact free b o' (neC b o e hx) e1 (I.base.free b o e n hx)
  · obtain ⟨o',e1⟩:=I.base.there b o e hx
    exact there b o' (neC b o e hx) e1
  · obtain ⟨m1,e1⟩:=I.base.tbls b ps e
    obtain ⟨m2,e2⟩:=tbls b _ e1
    exact ⟨m1 ++ m2,by rw [e2,Array.append_assoc]⟩
  · obtain ⟨m,hn,hl⟩:=I.loc
    refine ⟨m,ns m hn,fun i x v e1 e2 e3 => ?_⟩
    obtain ⟨u,r,l⟩:=hl i x v e1 e2 e3
    refine ⟨u,r,?_⟩
    rcases l with l | ⟨k,c,e,z⟩
    · exact .inl l
    · exact .inr ⟨k,c,e,cellK x c e _ z⟩
  · obtain ⟨v,z⟩:=I.cell x c e
    exact ⟨v,cellK x c e v z⟩
  · obtain ⟨m,⟨o,_,_,ho,_⟩,_⟩:=I.loc
    exact free _ o (fun z => (hch _ z).2.1 rfl) ho I.free
  · obtain ⟨v,o,ho,hd⟩:=I.cell x c e
    exact free c o (fun z => (hch c z).2.2.1 x c e rfl) ho (I.freeC x c e)
  · obtain ⟨e,n,ne,nf,d⟩:=I.pin p hp
    have nch:p.1 ∉ ch:=fun z => (hch p.1 z).2.2.2 p hp rfl
    exact ⟨keep p.1 p.2 ne nf nch e n,free p.1 p.2 nch e n,ne,nf,d⟩
theorem Inv.un {t':Nat} (I:Inv X pins σ H s) (u:Un X.fs [] H H' s.heap h') (hok:HOk X.prog X.w H' h'):Inv X pins σ H' { s with heap:=h',toks:=t' }:=by
  obtain ⟨m,⟨o,es,ep,ho,r⟩,_⟩:=id I.loc
  obtain ⟨sl,hL⟩:=u.any ho I.free (by simp)
  exact I.step (g':=s.gens) (d':=s.drawn) (ch:=[]) (fun _ z => nomatch z) (fun b o _ hb _ e n => u.keep b o e n hb (by simp)) (fun b o _ hb _ e n => u.slot b o e n hb (by simp)) (fun b o _ e n => u.free b o e n (by simp)) (fun b o _ e => u.there b o e (by simp)) u.tups u.frzs u.tbls (fun m' hm => by
    obtain ⟨o',es',ep',ho',r'⟩:=hm
    rw [ho] at ho'; cases ho'
    exact ⟨_,es',ep',hL,r'⟩) hok I.bare
theorem Inv.call {g':Array GenState} {t':Nat} {d':Drawn} {ch:List Addr} (I:Inv X pins σ H s) (u:Un (frs X.stack) ch H H' s.heap h') (hok:HOk X.prog X.w H' h') (hg:AllBare g')
    (hch:∀ b ∈ ch,(b ∈ X.ex ∨ X.s₀.heap.objs.size ≤ b) ∧ b ≠ X.env.locals ∧ (∀ x c,X.env.cells.lookup x = some c → c ≠ b) ∧ ∀ p ∈ X.pn ++ pins,p.1 ≠ b) :
    Inv X pins σ H' { s with heap:=h',gens:=g',drawn:=d',toks:=t' }:=by
  obtain ⟨m,⟨o,es,ep,ho,r⟩,_⟩:=id I.loc
  obtain ⟨sl,hL⟩:=u.any ho I.free fun z => (hch _ z).2.1 rfl
  exact I.step (ch:=ch) hch (fun b o hL hb hc e n => u.keep b o e n (fun z => (List.mem_cons.mp (I.stkSub b z)).elim hL hb) hc) (fun b o _ _ hc e n => u.any e n hc) (fun b o hc e n => u.free b o e n hc) (fun b o hc e => u.there b o e hc) u.tups u.frzs u.tbls (fun m' hm => by
    obtain ⟨o',es',ep',ho',r'⟩:=hm
    rw [ho] at ho'; cases ho'
    exact ⟨_,es',ep',hL,r'⟩) hok hg
theorem Inv.turned {t':Nat} {it:Addr} (I:Inv X pins σ H s) (k:∀ b o,b ≠ it → s.heap.get? b = some o → h'.get? b = some o) (hn:H it = none) (hL:it ≠ X.env.locals)
    (h1:it ∈ X.ex ∨ X.s₀.heap.objs.size ≤ it) (h2:∀ x c,X.env.cells.lookup x = some c → c ≠ it) (h3:∀ p ∈ X.pn ++ pins,p.1 ≠ it):Inv X pins σ H { s with heap:=h',toks:=t' }:=by
  have nit:∀ b u,H b = some u → b ≠ it:=fun b u e z => by rw [z,hn] at e; cases e
  refine I.step (g':=s.gens) (d':=s.drawn) (ch:=[it]) (fun b hb => ?_) (fun b o _ _ hc e _ => k b o (fun z => hc (by simp [z])) e) (fun b o _ _ hc e _ => ⟨o.slots,k b o (fun z => hc (by simp [z])) e⟩) (fun _ _ _ _ n => n)
    (fun b o hc e => ⟨o,k b o (fun z => hc (by simp [z])) e⟩) (fun _ _ e => e) (fun _ _ _ e => e) (fun b ps e => ⟨#[],by rw [e]; simp⟩) (fun m hm => ?_) (fun b u e => ?_) I.bare
  · have e:b = it:=by simpa using hb
    subst e
    exact ⟨h1,hL,h2,h3⟩
  · obtain ⟨o,es,ep,ho,r⟩:=hm
    exact ⟨o,es,ep,k _ o (Ne.symm hL) ho,r⟩
  · refine (I.hok b u e).stay (fun c v hc q => k c v ?_ q) (fun _ q => q) fun _ _ q => q
    rcases hc with z | z
    · rw [z]; exact nit b u e
    · exact nit c _ z
theorem Inv.tok (I:Inv X pins σ H s) (t:Nat):Inv X pins σ H { s with toks:=t }:=I.un (h':=s.heap) (t':=t) Un.refl I.hok
theorem Inv.kept {t':Nat} (I:Inv X pins σ H s) (k:∀ b u,s.heap.get? b = some u → h'.get? b = some u):Inv X pins σ H { s with heap:=h',toks:=t' }:=I.un (Un.kept k) (I.hok.kept k)
theorem Inv.laid {a:Addr} {o:HO} {t':Nat} (I:Inv X pins σ H s) (k:∀ b u,s.heap.get? b = some u → h'.get? b = some u) (hp:s.heap.objs.size ≤ a) (new:ObjOk X.prog X.w (upd H a o) h' a o) :
    Inv X pins σ (upd H a o) { s with heap:=h',toks:=t' }:=I.un (Un.laid k hp (I.hok.fresh hp)) (I.hok.laid k hp new)
theorem Inv.write {x e:Addr} {o:HO} {t':Nat} (I:Inv X pins σ H s) (mu:Mut (H x)) (he:e = x ∨ H e = some (.own x)) (k:∀ b u,b ≠ e → s.heap.get? b = some u → h'.get? b = some u) (heo:∃ u,h'.get? e = some u)
    (new:ObjOk X.prog X.w (upd H x o) h' x o):Inv X pins σ (upd H x o) { s with heap:=h',toks:=t' }:=I.un (Un.write mu he k heo) (I.hok.write mu he k heo new)
theorem Inv.weak {σ':List (Option V)} (I:Inv X pins σ H s) (hl:σ'.length = σ.length) (w:∀ (i:Nat) v,σ'[i]? = some (some v) → σ[i]? = some (some v)):Inv X pins σ' H s :=
  ⟨I.ok,I.os,I.bare,I.base,let ⟨m,hn,hl'⟩:=I.loc; ⟨m,hn,fun i x v e1 e2 e3 => hl' i x v e1 (w i v e2) e3⟩,I.cell,I.free,I.freeC,I.pin,I.hok,hl.trans I.len⟩
theorem Inv.pins_of {pins':List (Addr × Obj)} (I:Inv X pins σ H s) (h:∀ p ∈ pins',s.heap.get? p.1 = some p.2 ∧ H p.1 = none ∧ p.1 ≠ X.env.locals ∧ p.1 ∉ X.fs ∧ ∀ v,p.2.data ≠ .cell v):Inv X pins' σ H s :=
  ⟨I.ok,I.os,I.bare,I.base,I.loc,I.cell,I.free,I.freeC,fun p hp => (List.mem_append.mp hp).elim (fun z => I.pin p (List.mem_append_left _ z)) (h p),I.hok,I.len⟩
theorem nodup_ix {N:List Str} (hN:N.Nodup) {i j:Nat} {x:Str} (a:N[i]? = some x) (b:N[j]? = some x):i = j:=by
  obtain ⟨h1,e1⟩:=List.getElem?_eq_some_iff.mp a
  obtain ⟨h2,e2⟩:=List.getElem?_eq_some_iff.mp b
  exact (List.getElem_inj hN).mp (e1.trans e2.symm)
theorem store_ok2 {M:Model} {A:Around} {E:Value → Shared → Prop} {i:Nat} {x:Str} {v:V} {u:Value} {Q:Unit → Shared → Prop} (I:Inv X pins σ H s) (hN:X.N.Nodup) (hi:X.N[i]? = some x) (hx:Loc X.env.scope x) (r:RelV v u)
    (h:∀ s',Inv X pins (σ.set i (some v)) H s' → (∃ a,Heap.SameBut a s.heap s'.heap ∧ (a = X.env.locals ∨ X.env.cells.lookup x = some a)) → Q () s') (hf:X.fn x = true ∨ X.env.scope.names.lookup x = some .local:=by first | exact .inl rfl | exact .inr rfl | assumption):wpAny M A (storeName X.env x u) Q E s:=by
  obtain ⟨m,hn,hl⟩:=id I.loc
  have hcls:(X.env.scope.kind == .class || (X.env.scope.kind == .module && X.env.locals != X.env.globals)) = false:=by rw [I.ok.kind]; rfl
  have hiσ:i < σ.length:=by rw [I.len]; exact (List.getElem?_eq_some_iff.mp hi).1
  have cne:=I.cne
  have tracked:∀ {a:Addr} {h':Heap},(∃ o,s.heap.get? a = some o ∧ H a = none) → Heap.SameBut a s.heap h' → HOk X.prog X.w H h':=fun {a h'} ha hs b ob e => by
    obtain ⟨_,_,hfree⟩:=ha
    refine (I.hok b ob e).stay (fun c w' hc q => (hs.2 c ?_).trans q) (fun _ q => q) fun _ _ q => q
    rintro rfl
    rcases hc with rfl | hc
    · rw [hfree] at e; cases e
    · rw [hfree] at hc; cases hc
  rcases hx with hk | hk
  · refine wpAny_storeName_local hk hn (fun h' hn' hs => ?_) hcls
    obtain ⟨oL,_,_,hoL,_⟩:=id hn
    refine h _ ⟨I.ok,I.os,I.bare,⟨fun b o e n hb hx => ?_,fun b o e n hb hx => ?_,I.base.free,fun b o e hx => ?_,I.base.tups,I.base.frzs,I.base.tbls⟩,⟨_,hn',fun j y v' e1 e2 e3 => ?_⟩,fun y c e => ?_,I.free,I.freeC,fun p hp => ?_,tracked ⟨oL,hoL,I.free⟩ hs,by simpa using I.len⟩ ⟨_,hs,.inl rfl⟩
    · exact (hs.2 b (Nat.ne_of_lt (Nat.lt_of_lt_of_le (Heap.lt_size e) I.ok.above))).trans (I.base.keep b o e n hb hx)
    · obtain ⟨sl,e1⟩:=I.base.slot b o e n hb hx
      exact ⟨sl,(hs.2 b (Nat.ne_of_lt (Nat.lt_of_lt_of_le (Heap.lt_size e) I.ok.above))).trans e1⟩
    · obtain ⟨o',e1⟩:=I.base.there b o e hx
      exact ⟨o',(hs.2 b (Nat.ne_of_lt (Nat.lt_of_lt_of_le (Heap.lt_size e) I.ok.above))).trans e1⟩
    · by_cases hj:j = i
      · subst hj
        rw [hi] at e1; cases e1
        rw [List.getElem?_set_self hiσ] at e2
        cases e2
        exact ⟨u,r,.inl ⟨hk,by simp⟩⟩
      · rw [List.getElem?_set_ne (Ne.symm hj)] at e2
        obtain ⟨u',r',q⟩:=hl j y v' e1 e2 e3
        refine ⟨u',r',?_⟩
        rcases q with ⟨k,e⟩ | ⟨k,c,e,z⟩
        · refine .inl ⟨k,?_⟩
          have:y ≠ x:=fun e => hj (nodup_ix hN e1 (e ▸ hi))
          simp [this,e]
        · exact .inr ⟨k,c,e,z.sameBut hs (cne y c e)⟩
    · obtain ⟨w',z⟩:=I.cell y c e
      exact ⟨w',z.sameBut hs (cne y c e)⟩
    · obtain ⟨e,n,ne,nf,d⟩:=I.pin p hp
      exact ⟨(hs.2 p.1 ne).trans e,n,ne,nf,d⟩
  · have hfn:X.fn x = true:=by
      rcases hf with z | z
      · exact z
      · rw [z] at hk; cases hk
    obtain ⟨c,hc⟩:=I.ok.has x (.inl hk)
    obtain ⟨w',z⟩:=I.cell x c hc
    refine wpAny_storeName_cell I.ok.kind hk hc z (fun h' hc' hs => ?_)
    obtain ⟨oc,hoc,hocd⟩:=id z
    refine h { s with heap:=h' } ⟨I.ok,I.os,I.bare,⟨fun b o e n hb hx => ?_,fun b o e n hb hx => ?_,I.base.free,fun b o e hx => ?_,I.base.tups,I.base.frzs,I.base.tbls⟩,⟨m,hn.sameBut hs (Ne.symm (cne x c hc)),fun j y v' e1 e2 e3 => ?_⟩,fun y c' e => ?_,I.free,I.freeC,fun p hp => ?_,tracked ⟨oc,hoc,I.freeC x c hc⟩ hs,by simpa using I.len⟩ ⟨c,hs,.inr hc⟩
    · exact (hs.2 b (Nat.ne_of_lt (Nat.lt_of_lt_of_le (Heap.lt_size e) (I.ok.cab x c hfn hc)))).trans (I.base.keep b o e n hb hx)
    · obtain ⟨sl,e1⟩:=I.base.slot b o e n hb hx
      exact ⟨sl,(hs.2 b (Nat.ne_of_lt (Nat.lt_of_lt_of_le (Heap.lt_size e) (I.ok.cab x c hfn hc)))).trans e1⟩
    · obtain ⟨o',e1⟩:=I.base.there b o e hx
      exact ⟨o',(hs.2 b (Nat.ne_of_lt (Nat.lt_of_lt_of_le (Heap.lt_size e) (I.ok.cab x c hfn hc)))).trans e1⟩
    · by_cases hj:j = i
      · subst hj
        rw [hi] at e1; cases e1
        rw [List.getElem?_set_self hiσ] at e2
        cases e2
        exact ⟨u,r,.inr ⟨.inl hk,c,hc,hc'⟩⟩
      · rw [List.getElem?_set_ne (Ne.symm hj)] at e2
        obtain ⟨u',r',q⟩:=hl j y v' e1 e2 e3
        refine ⟨u',r',?_⟩
        rcases q with q | ⟨k,c',e,z'⟩
        · exact .inl q
        · refine .inr ⟨k,c',e,z'.sameBut hs ?_⟩
          rintro rfl
          exact hj (nodup_ix hN e1 (I.ok.inj _ _ _ e hc ▸ hi))
    · by_cases hcc:c' = c
      · subst hcc; exact ⟨_,hc'⟩
      · obtain ⟨w2,z2⟩:=I.cell y c' e
        exact ⟨w2,z2.sameBut hs hcc⟩
    · obtain ⟨e,n,ne,nf,d⟩:=I.pin p hp
      refine ⟨(hs.2 p.1 ?_).trans e,n,ne,nf,d⟩
      intro q
      rw [q,hoc] at e
      have q':oc = p.2:=Option.some.inj e
      exact d w' (by rw [← q']; exact hocd)
theorem store_ok {M:Model} {A:Around} {E:Value → Shared → Prop} {i:Nat} {x:Str} {v:V} {u:Value} {Q:Unit → Shared → Prop} (I:Inv X pins σ H s) (hN:X.N.Nodup) (hi:X.N[i]? = some x) (hx:Loc X.env.scope x) (r:RelV v u)
    (h:∀ s',Inv X pins (σ.set i (some v)) H s' → Q () s') (hf:X.fn x = true ∨ X.env.scope.names.lookup x = some .local:=by first | exact .inl rfl | exact .inr rfl | assumption):wpAny M A (storeName X.env x u) Q E s :=
  store_ok2 I hN hi hx r (fun s' I' _ => h s' I') hf
theorem Inv.call' {s':Shared} {ch:List Addr} (I:Inv X pins σ H s) (ho:s'.os = s.os) (u:Un (frs X.stack) ch H H' s.heap s'.heap) (hok:HOk X.prog X.w H' s'.heap) (hg:AllBare s'.gens)
    (hch:∀ b ∈ ch,(b ∈ X.ex ∨ X.s₀.heap.objs.size ≤ b) ∧ b ≠ X.env.locals ∧ (∀ x c,X.env.cells.lookup x = some c → c ≠ b) ∧ ∀ p ∈ X.pn ++ pins,p.1 ≠ b):Inv X pins σ H' s':=by
  obtain ⟨h',g',d',t',o'⟩:=s'
  have e:o' = s.os:=ho
  subst e
  exact I.call (g':=g') (t':=t') (d':=d') u hok hg hch
end
abbrev XK:=Value → Option Addr → Hp → Prop
abbrev St:=List (Option V)
abbrev VK:=V → Hp → Prop
abbrev TE:=St → Hp → VK → Prop
abbrev TT:=St → Hp → (Bool → Hp → Prop) → Prop
abbrev TA:=St → Hp → (List V → Hp → Prop) → Prop
structure Ends where
  nx:St → Hp → Prop
  rt:VK
  bk:St → Hp → Prop:=fun _ _ => False
  ct:St → Hp → Prop:=fun _ _ => False
abbrev TS:=Ends → St → Hp → Prop
def EP (X:Cx) (pins:List (Addr × Obj)) (σ:St) (Q:VK) (u:Value) (s':Shared):Prop:=∃ v H',Inv X pins σ H' s' ∧ RelV v u ∧ Q v H'
def TP (X:Cx) (pins:List (Addr × Obj)) (σ:St) (Q:Bool → Hp → Prop) (b:Bool) (s':Shared):Prop:=∃ H',Inv X pins σ H' s' ∧ Q b H'
def AP (X:Cx) (pins:List (Addr × Obj)) (σ:St) (Q:List V → Hp → Prop) (us:List Value) (s':Shared):Prop:=∃ vs H',Inv X pins σ H' s' ∧ Vals vs us ∧ Q vs H'
def SP (X:Cx) (pins:List (Addr × Obj)) (D:Ends) (f:Flow) (s':Shared):Prop :=
  match f with
  | .next => ∃ σ' H',Inv X pins σ' H' s' ∧ D.nx σ' H'
  | .brk => ∃ σ' H',Inv X pins σ' H' s' ∧ D.bk σ' H'
  | .cont => ∃ σ' H',Inv X pins σ' H' s' ∧ D.ct σ' H'
  | .ret u => ∃ v σ' H',Inv X pins σ' H' s' ∧ RelV v u ∧ D.rt v H'
def PE (X:Cx) (e:Expr) (t:TE):Prop :=
  ∀ (pins:List (Addr × Obj)) (s:Shared) (σ:St) (H:Hp) (Q:VK),Inv X pins σ H s → t σ H Q → wpAny (model X.prog X.w) X.A (eval e X.env) (EP X pins σ Q) X.xe s
def PT (X:Cx) (e:Expr) (t:TT):Prop :=
  ∀ (pins:List (Addr × Obj)) (s:Shared) (σ:St) (H:Hp) (Q:Bool → Hp → Prop),Inv X pins σ H s → t σ H Q → wpAny (model X.prog X.w) X.A (isTrue e X.env (eval e X.env)) (TP X pins σ Q) X.xe s
def PW (X:Cx) (e:Expr) (t:TT):Prop :=
  ∀ (whole:Sem Value) (pins:List (Addr × Obj)) (s:Shared) (σ:St) (H:Hp) (Q:Bool → Hp → Prop),Inv X pins σ H s → t σ H Q → wpAny (model X.prog X.w) X.A (isTrue e X.env whole) (TP X pins σ Q) X.xe s
theorem PW.pt {X:Cx} {e:Expr} {t:TT} (h:PW X e t):PT X e t:=h _
def PA (X:Cx) (es:List Expr) (t:TA):Prop :=
  ∀ (pos:Pos) (pins:List (Addr × Obj)) (s:Shared) (σ:St) (H:Hp) (Q:List V → Hp → Prop),Inv X pins σ H s → t σ H Q → wpAny (model X.prog X.w) X.A (spliced (backTo pos (starEach es X.env))) (AP X pins σ Q) X.xe s
def PS (X:Cx) (st:Stmt) (t:TS):Prop :=
  ∀ (pins:List (Addr × Obj)) (s:Shared) (σ:St) (H:Hp) (D:Ends),Inv X pins σ H s → t D σ H → wpAny (model X.prog X.w) X.A (exec st X.env) (SP X pins D) X.xe s
def PSs (X:Cx) (st:List Stmt) (t:TS):Prop :=
  ∀ (pins:List (Addr × Obj)) (s:Shared) (σ:St) (H:Hp) (D:Ends),Inv X pins σ H s → t D σ H → wpAny (model X.prog X.w) X.A (execs st X.env) (SP X pins D) X.xe s
theorem thn {α:Type} {t:Sem α} {Q Q':α → Shared → Prop} {M:Model} {A:Around} {E:Value → Shared → Prop} {s:Shared} (h:wpAny M A t Q E s) (hQ:∀ a s,Q a s → Q' a s):wpAny M A t Q' E s:=wpAny_mono h hQ fun _ _ x => x
end L2
namespace L2
open PySem PySem.Spec PyProof.Rows
section
variable {X:Cx}
theorem bin {a b:Expr} {ta tb:TE} (ha:PE X a ta) (hb:PE X b tb) {pins:List (Addr × Obj)} {s:Shared} {σ:St} {H:Hp} {R:V → V → Hp → Prop} (I:Inv X pins σ H s) (h:ta σ H fun x H1 => tb σ H1 fun y H2 => R x y H2)
    {α:Type} {Q:α → Shared → Prop} {f:Value → Value → Sem α}
    (hf:∀ v u s2 x y H2,Inv X pins σ H2 s2 → RelV x v → RelV y u → R x y H2 → wpAny (model X.prog X.w) X.A (f v u) Q X.xe s2) :
    wpAny (model X.prog X.w) X.A (eval a X.env) (fun v s₁ => wpAny (model X.prog X.w) X.A (eval b X.env) (fun u s₂ => wpAny (model X.prog X.w) X.A (f v u) Q X.xe s₂) X.xe s₁) X.xe s:=by
  refine thn (ha pins s σ H _ I h) fun v s1 ⟨x,H1,I1,r1,q1⟩ => ?_
  refine thn (hb pins s1 σ H1 _ I1 q1) fun u s2 ⟨y,H2,I2,r2,q2⟩ => ?_
  exact hf v u s2 x y H2 I2 r1 r2 q2
def tVar (i:Nat):TE:=fun σ H Q => ∃ v,σ[i]? = some (some v) ∧ Q v H
def tC (v:V):TE:=fun _ H Q => Q v H
theorem pe_var {i:Nat} {x:Str} {pos:Pos} (hN:X.N[i]? = some x) (hv:Vis X.env.scope x) (hd:(x == ("__debug__" : Str)) = false:=by decide) (hcd:(x == ("__classdict__" : Str)) = false:=by decide):PE X (.Name x pos) (tVar i):=by
  intro pins s σ H Q I h
  obtain ⟨v,e,h⟩:=h
  obtain ⟨m,hn,hl⟩:=I.loc
  obtain ⟨u,r,l⟩:=hl i x v hN e hv
  have fin:EP X pins σ Q u s:=⟨v,H,I,r,h⟩
  rcases l with ⟨hk,hm⟩ | ⟨hk,c,hc,hcell⟩
  · exact wpAny_Name (wpAny_loadName_local I.ok.kind hk hn hm fin) hd
  · rcases hk with hk | hk
    · exact wpAny_Name (wpAny_loadName_cell I.ok.kind hk hc hcell fin) hd
    · exact wpAny_Name (wpAny_loadName_free I.ok.kind hk hc hcell fin hcd) hd
theorem pe_int {i j pos}:PE X (.Constant (.int i) j pos) (tC (.int i)):=fun _ _ _ H _ I h => wpAny_Constant_int ⟨.int i,H,I.tok _,⟨_,rfl⟩,h⟩
theorem pe_bl {b j pos}:PE X (.Constant (.bool b) j pos) (tC (.bl b)):=fun _ _ _ H _ I h => Constant_bool ⟨.bl b,H,I,rfl,h⟩
theorem pe_non {j pos}:PE X (.Constant .none j pos) (tC .non):=fun _ _ _ H _ I h => Constant_none ⟨.non,H,I,rfl,h⟩
theorem pe_str {x j pos}:PE X (.Constant (.str x) j pos) (tC (.str x)):=fun _ _ _ H _ I h => Calls.Constant_str ⟨.str x,H,I.tok _,⟨_,rfl⟩,h⟩
def Gl (X:Cx) (x:Str):Prop:=X.env.kindOf x = some .globalImplicit
theorem ld_glob {E:Value → Shared → Prop} {pins:List (Addr × Obj)} {s:Shared} {σ:St} {H:Hp} {x:Str} {u:Value} {pos:Pos} {Q:Value → Shared → Prop} (I:Inv X pins σ H s) (hg:Gl X x) (hm:X.mg x = some u) (h:Q u s)
    (hd:(x == ("__debug__" : Str)) = false:=by decide):wpAny (model X.prog X.w) X.A (eval (.Name x pos) X.env) Q E s :=
  Calls.Name_function_global I.ok.kind hg (Calls.loadGlobal_global (by rw [I.ok.glob]; exact I.mod.glob.keeps I.bk) hm h) hd
theorem ld_blt {E:Value → Shared → Prop} {pins:List (Addr × Obj)} {s:Shared} {σ:St} {H:Hp} {x:Str} {u:Value} {pos:Pos} {Q:Value → Shared → Prop} (I:Inv X pins σ H s) (hg:Gl X x) (hm:X.mg x = none) (hv:bootBuiltins x = some u) (h:Q u s)
    (hn:x ≠ "__name__" := by decide) (hd:(x == ("__debug__" : Str)) = false:=by decide):wpAny (model X.prog X.w) X.A (eval (.Name x pos) X.env) Q E s:=by
  obtain ⟨mb,h1,h2⟩:=I.mod.blt
  exact Calls.Name_function_global I.ok.kind hg (Calls.loadGlobal_builtin (by rw [I.ok.glob]; exact I.mod.glob.keeps I.bk) hm (by rw [I.ok.blt]; exact h1.keeps I.bk) ((h2 x hn).trans hv) h) hd
theorem pe_glob {x:Str} {v:V} {u:Value} {pos:Pos} (hg:Gl X x) (hm:X.mg x = some u) (r:RelV v u) (hd:(x == ("__debug__" : Str)) = false:=by decide):PE X (.Name x pos) (tC v) :=
  fun _ _ _ H _ I h => ld_glob I hg hm ⟨v,H,I,r,h⟩ hd
theorem pe_bltn {x:Str} {v:V} {u:Value} {pos:Pos} (hg:Gl X x) (hm:X.mg x = none) (hv:bootBuiltins x = some u) (r:RelV v u) (hn:x ≠ "__name__" := by decide) (hd:(x == ("__debug__" : Str)) = false:=by decide):PE X (.Name x pos) (tC v) :=
  fun _ _ _ H _ I h => ld_blt I hg hm hv ⟨v,H,I,r,h⟩ hn hd
variable {a b:Expr} {ta tb:TE} {pos:Pos}
variable {tA tB':TT} {rest:List Expr}
def tAnd (t u:TT):TT:=fun σ H Q => t σ H fun c H1 => if c = true then u σ H1 Q else Q false H1
def tOr (t u:TT):TT:=fun σ H Q => t σ H fun c H1 => if c = true then Q true H1 else u σ H1 Q
def tNot (t:TT):TT:=fun σ H Q => t σ H fun c H1 => Q (!c) H1
theorem pw_and1 (ha:PT X a tA):PW X (.BoolOp .And [a] pos) tA:=by
  intro wh pins s σ H Q I h
  refine isTrue_and (thn (ha pins s σ H Q I h) fun c s1 e => ?_)
  cases c with
  | true => exact isTrue_and_nil e
  | false => exact e
theorem pw_or1 (ha:PT X a tA):PW X (.BoolOp .Or [a] pos) tA:=by
  intro wh pins s σ H Q I h
  refine isTrue_or (thn (ha pins s σ H Q I h) fun c s1 e => ?_)
  cases c with
  | false => exact isTrue_or_nil e
  | true => exact e
theorem pw_and (ha:PT X a tA) (hb:PW X (.BoolOp .And (b :: rest) pos) tB'):PW X (.BoolOp .And (a :: b :: rest) pos) (tAnd tA tB'):=by
  intro wh pins s σ H Q I h
  refine isTrue_and (thn (ha pins s σ H _ I h) fun c s1 ⟨H1,I1,q1⟩ => ?_)
  cases c with
  | true => exact hb wh pins s1 σ H1 Q I1 q1
  | false => exact ⟨H1,I1,q1⟩
theorem pw_or (ha:PT X a tA) (hb:PW X (.BoolOp .Or (b :: rest) pos) tB'):PW X (.BoolOp .Or (a :: b :: rest) pos) (tOr tA tB'):=by
  intro wh pins s σ H Q I h
  refine isTrue_or (thn (ha pins s σ H _ I h) fun c s1 ⟨H1,I1,q1⟩ => ?_)
  cases c with
  | true => exact ⟨H1,I1,q1⟩
  | false => exact hb wh pins s1 σ H1 Q I1 q1
theorem pt_not (ha:PT X a tA):PT X (.UnaryOp .Not a pos) (tNot tA):=by
  intro pins s σ H Q I h
  exact isTrue_not (ha pins s σ H (fun c H1 => Q (!c) H1) I h)
theorem pe_one {op} {t:TE} (h:PE X a t):PE X (.BoolOp op [a] pos) t:=fun pins s σ H Q I hw => BoolOp_one (h pins s σ H Q I hw)
end
end L2
namespace L2
open PySem PySem.Spec PyProof.Rows
def SqL (K:PySem.W.Frag) (H:Hp) (a:Addr) (xs:List V):Prop :=
  Rd H a (.lst xs) ∨
    ∃ (o:Obj) (its:Array Value) (n:Nat),K.lookup a = some o ∧ o.cls = .type "list" ∧ o.dict = none ∧ o.data = .seq its n ∧ its.size ≤ sizeLine ∧ Vals xs its.toList
def SqT (K:PySem.W.Frag) (H:Hp) (a:Addr) (xs:List V):Prop :=
  Rd H a (.tup xs) ∨
    ∃ (o:Obj) (its:Array Value) (n:Nat),K.lookup a = some o ∧ o.cls = .type "tuple" ∧ o.data = .seq its n ∧ its.size ≤ sizeLine ∧ Vals xs its.toList
def absV:Value → Option V
  | .none => some .non
  | .bool b => some (.bl b)
  | .int i _ => some (.int i)
  | .str x _ => some (.str x)
  | .bytes b _ => some (.byt b)
  | .float b _ => some (.flt b)
  | .ref a => some (.ref a)
  | .type n => some (.ty n)
  | _ => none
theorem RelV.abs {x:V} {u:Value} (r:RelV x u):absV u = some x:=by
  cases x with
  | non => cases r; rfl
  | bl _ => cases r; rfl
  | int _ => obtain ⟨t,rfl⟩:=r; rfl
  | str _ => obtain ⟨t,rfl⟩:=r; rfl
  | byt _ => obtain ⟨t,rfl⟩:=r; rfl
  | flt _ => obtain ⟨t,rfl⟩:=r; rfl
  | ref _ => cases r; rfl
  | ty _ => cases r; rfl
theorem RelV.inj {x y:V} {u:Value} (r:RelV x u) (q:RelV y u):x = y:=Option.some.inj (r.abs.symm.trans q.abs)
theorem Vals.inj:∀ {xs ys:List V} {us:List Value},Vals xs us → Vals ys us → xs = ys
  | _,_,_,.nil,.nil => rfl
  | _,_,_,.cons r t,.cons r' t' => by rw [r.inj r',Vals.inj t t']
section
variable {X:Cx} {pins:List (Addr × Obj)} {σ:St} {H:Hp} {s:Shared} {a:Addr} {xs ys:List V}
theorem SqL.of {K:PySem.W.Frag} (h:H a = some (.lst xs)):SqL K H a xs:=.inl (.inl h)
theorem SqT.of {K:PySem.W.Frag} (h:H a = some (.tup xs)):SqT K H a xs:=.inl (.inl h)
theorem Inv.list (I:Inv X pins σ H s) (h:SqL X.K H a xs):∃ its:List Value,Vals xs its ∧ PlainL s.heap a its.toArray ∧ xs.length ≤ sizeLine:=by
  rcases h with h | ⟨o,its,n,hk,hc,hd,hs,hz,r⟩
  · obtain ⟨z,its,n,r,e⟩:=h.ok I.hok
    exact ⟨its,r,⟨_,n,e,rfl,rfl,rfl⟩,z⟩
  · refine ⟨its.toList,r,⟨o,n,I.kIn a o hk,hc,hd,by simpa using hs⟩,?_⟩
    have e:=r.length
    simp only [Array.length_toList] at e
    omega
theorem Inv.tuple (I:Inv X pins σ H s) (h:SqT X.K H a xs):∃ its:List Value,Vals xs its ∧ IsTup s.heap a its.toArray ∧ xs.length ≤ sizeLine:=by
  rcases h with h | ⟨o,its,n,hk,hc,hs,hz,r⟩
  · obtain ⟨z,its,r,p⟩:=h.ok I.hok
    exact ⟨its,r,p,z⟩
  · refine ⟨its.toList,r,⟨o,I.kIn a o hk,hc,n,by simpa using hs⟩,?_⟩
    have e:=r.length
    simp only [Array.length_toList] at e
    omega
theorem Inv.list_inj (I:Inv X pins σ H s) (h:SqL X.K H a xs) (h':SqL X.K H a ys):xs = ys:=by
  obtain ⟨its,r,⟨o,n,e,_,_,d⟩,_⟩:=I.list h
  obtain ⟨its',r',⟨o',n',e',_,_,d'⟩,_⟩:=I.list h'
  rw [e] at e'; cases e'
  rw [d] at d'
  injection d' with d1 _
  have:its = its':=by simpa using congrArg Array.toList d1
  subst this
  exact r.inj r'
end
abbrev Cx.wish (X:Cx) (E:Value → Shared → Prop):Cx:={ X with xe:=E }
abbrev Cx.nox (X:Cx):Cx:=X.wish fun _ _ => False
theorem Cx.Ok.wish {X:Cx} (ok:X.Ok) (E:Value → Shared → Prop):(X.wish E).Ok :=
  ⟨ok.mod,ok.kind,ok.glob,ok.blt,ok.above,ok.inj,ok.has,ok.cab,ok.hd,ok.frames,ok.stk,ok.exf,ok.bs,ok.bsz,ok.noex,ok.exfs,ok.funs,ok.frf⟩
theorem Cx.Ok.unwish {X:Cx} {E:Value → Shared → Prop} (ok:(X.wish E).Ok):X.Ok :=
  ⟨ok.mod,ok.kind,ok.glob,ok.blt,ok.above,ok.inj,ok.has,ok.cab,ok.hd,ok.frames,ok.stk,ok.exf,ok.bs,ok.bsz,ok.noex,ok.exfs,ok.funs,ok.frf⟩
section
variable {X:Cx} {pins:List (Addr × Obj)} {σ:St} {H:Hp} {s:Shared} {E:Value → Shared → Prop}
theorem Inv.wish (I:Inv X pins σ H s) (E:Value → Shared → Prop):Inv (X.wish E) pins σ H s:=⟨I.ok.wish E,I.os,I.bare,I.base,I.loc,I.cell,I.free,I.freeC,I.pin,I.hok,I.len⟩
theorem Inv.unwish (I:Inv (X.wish E) pins σ H s):Inv X pins σ H s:=⟨I.ok.unwish,I.os,I.bare,I.base,I.loc,I.cell,I.free,I.freeC,I.pin,I.hok,I.len⟩
theorem SP.unwish {D:Ends} {f:Flow} {s':Shared} (h:SP (X.wish E) pins D f s'):SP X pins D f s':=by
  cases f with
  | next => obtain ⟨σ',H',I,q⟩:=h; exact ⟨σ',H',I.unwish,q⟩
  | brk => obtain ⟨σ',H',I,q⟩:=h; exact ⟨σ',H',I.unwish,q⟩
  | cont => obtain ⟨σ',H',I,q⟩:=h; exact ⟨σ',H',I.unwish,q⟩
  | ret u => obtain ⟨v,σ',H',I,r,q⟩:=h; exact ⟨v,σ',H',I.unwish,r,q⟩
theorem PE.nox {e:Expr} {t:TE} (h:PE X.nox e t):PE X e t:=fun pins s σ H Q I hw =>
  wpAny_mono (h pins s σ H Q (I.wish _) hw) (fun _ _ ⟨v,H',I',r,q⟩ => ⟨v,H',I'.unwish,r,q⟩) fun _ _ z => False.elim z
theorem PT.nox {e:Expr} {t:TT} (h:PT X.nox e t):PT X e t:=fun pins s σ H Q I hw =>
  wpAny_mono (h pins s σ H Q (I.wish _) hw) (fun _ _ ⟨H',I',q⟩ => ⟨H',I'.unwish,q⟩) fun _ _ z => False.elim z
theorem PSs.nox {st:List Stmt} {t:TS} (h:PSs X.nox st t):PSs X st t:=fun pins s σ H D I hw =>
  wpAny_mono (h pins s σ H D (I.wish _) hw) (fun _ _ q => q.unwish) fun _ _ z => False.elim z
end
section
variable {X:Cx} {st:Stmt} {rest:List Stmt} {t u:TS} {e:Expr} {te:TE} {pos:Pos}
def tNext:TS:=fun D σ H => D.nx σ H
def tSeq (t u:TS):TS:=fun D σ H => t { D with nx:=u D } σ H
theorem pss_nil:PSs X [] tNext:=fun _ _ σ H _ I h => wpAny_execs_nil ⟨σ,H,I,h⟩
theorem pss_cons (h1:PS X st t) (h2:PSs X rest u):PSs X (st :: rest) (tSeq t u):=by
  intro pins s σ H D I h
  refine wpAny_execs_cons (thn (h1 pins s σ H { D with nx:=u D } I h) fun f s1 q => ?_)
  cases f with
  | next =>
    obtain ⟨σ',H',I',q⟩:=q
    exact h2 pins s1 σ' H' D I' q
  | ret v => exact q
  | brk => exact q
  | cont => exact q
theorem pss_one (h1:PS X st t):PSs X [st] t:=by
  intro pins s σ H D I h
  refine wpAny_execs_cons (thn (h1 pins s σ H D I h) fun f s1 q => ?_)
  cases f with
  | next => exact wpAny_execs_nil q
  | ret v => exact q
  | brk => exact q
  | cont => exact q
theorem Inv.quiet {pins:List (Addr × Obj)} {σ:St} {H:Hp} {s:Shared} (I:Inv X pins σ H s):interactive X.env = false:=by simp [interactive,I.ok.kind]
def tDrop (te:TE):TS:=fun D σ H => te σ H fun _ H1 => D.nx σ H1
theorem ps_expr (he:PE X e te) (hs:swapsWith e none pos.line X.env = pure false:=by rfl):PS X (.Expr e pos) (tDrop te):=by
  intro pins s σ H D I h
  exact wpAny_Expr_any (thn (he pins s σ H _ I h) fun v s1 ⟨x,H1,I1,r1,q1⟩ => ⟨σ,H1,I1,q1⟩) I.quiet hs
def tRet (te:TE):TS:=fun D σ H => te σ H D.rt
theorem ps_ret (he:PE X e te):PS X (.Return (some e) pos) (tRet te):=by
  intro pins s σ H D I h
  exact wpAny_Return_some (thn (he pins s σ H _ I h) fun v s1 ⟨x,H1,I1,r1,q1⟩ => ⟨x,σ,H1,I1,r1,q1⟩)
def tIfS (c:TT) (t u:TS):TS:=fun D σ H => c σ H fun b H1 => if b = true then t D σ H1 else u D σ H1
theorem ps_if {c:Expr} {a b:List Stmt} {tc:TT} (hc:PT X c tc) (ha:PSs X a t) (hb:PSs X b u):PS X (.If c a b pos) (tIfS tc t u):=by
  intro pins s σ H D I h
  refine wpAny_If (thn (hc pins s σ H _ I h) fun d s1 ⟨H1,I1,q1⟩ => ?_)
  cases d with
  | true => exact ha pins s1 σ H1 D I1 q1
  | false => exact hb pins s1 σ H1 D I1 q1
end
abbrev TG:=V → St → Hp → (St → Hp → Prop) → Prop
abbrev TGs:=List V → St → Hp → (St → Hp → Prop) → Prop
def PG (X:Cx) (target:Expr) (t:TG):Prop :=
  ∀ (pins:List (Addr × Obj)) (s:Shared) (σ:St) (H:Hp) (v:V) (u:Value) (Q:St → Hp → Prop),Inv X pins σ H s → RelV v u → t v σ H Q →
    wpAny (model X.prog X.w) X.A (assign target X.env u) (fun _ s' => ∃ σ' H',Inv X pins σ' H' s' ∧ Q σ' H') X.xe s
def PGs (X:Cx) (ts:List Expr) (t:TGs):Prop :=
  ∀ (pins:List (Addr × Obj)) (s:Shared) (σ:St) (H:Hp) (vs:List V) (us:List Value) (Q:St → Hp → Prop),Inv X pins σ H s → Vals vs us → t vs σ H Q →
    wpAny (model X.prog X.w) X.A (assignInOrder ((assignEach ts X.env).map (·.2)) us) (fun _ s' => ∃ σ' H',Inv X pins σ' H' s' ∧ Q σ' H') X.xe s
section
variable {X:Cx} {pos:Pos}
def gName (i:Nat):TG:=fun v σ H Q => Q (σ.set i (some v)) H
theorem pg_name {i:Nat} {x:Str} (hN:X.N.Nodup) (hi:X.N[i]? = some x) (hx:Loc X.env.scope x) (hf:X.fn x = true ∨ X.env.scope.names.lookup x = some .local:=by first | exact .inl rfl | exact .inr rfl | assumption):PG X (.Name x pos) (gName i):=by
  intro pins s σ H v u Q I r h
  exact wpAny_assign_Name (store_ok I hN hi hx r (fun s' I' => ⟨_,H,I',h⟩) hf)
def gNil:TGs:=fun vs σ H Q => vs = [] ∧ Q σ H
def gCons (t:TG) (u:TGs):TGs:=fun vs σ H Q => ∃ v r,vs = v :: r ∧ t v σ H fun σ' H' => u r σ' H' Q
theorem pgs_nil:PGs X [] gNil:=by
  intro pins s σ H vs us Q I r h
  obtain ⟨e,h⟩:=h
  subst e
  cases r
  exact assignInOrder_nil ⟨σ,H,I,h⟩
theorem pgs_cons {e:Expr} {es:List Expr} {t:TG} {u:TGs} (h1:PG X e t) (h2:PGs X es u)
    (hs:(assignEach (e :: es) X.env).map (·.2) = assign e X.env :: (assignEach es X.env).map (·.2):=by rfl):PGs X (e :: es) (gCons t u):=by
  intro pins s σ H vs us Q I r h
  obtain ⟨v,vr,e1,h⟩:=h
  subst e1
  cases r with
  | cons r rr =>
    rw [hs]
    refine assignInOrder_cons (thn (h1 pins s σ H _ _ _ I r h) fun _ s1 ⟨σ1,H1,I1,q1⟩ => ?_)
    exact h2 pins s1 σ1 H1 _ _ Q I1 rr q1
def gTup (K:PySem.W.Frag) (n:Nat) (t:TGs):TG:=fun v σ H Q => ∃ a xs,v = .ref a ∧ SqT K H a xs ∧ xs.length = n ∧ t xs σ H Q
theorem pg_tup {es:List Expr} {k:Nat} {t:TGs} {n:Nat} (hc:X.calm = true) (h:PGs X es t)
    (hn:(assignEach es X.env).length = n:=by rfl) (hst:(assignEach es X.env).findIdx? (·.1) = none:=by rfl):PG X (.Tuple es k pos) (gTup X.K n t):=by
  intro pins s σ H v u Q I r hw
  obtain ⟨a,xs,e1,hq,hl,hw⟩:=hw
  subst e1
  cases r
  obtain ⟨its,rv,ht,hz⟩:=I.tuple hq
  refine assign_Tuple_tuple (I.ok.hd hc) ht (by simp [hn,← hl,rv.length]) hst fun h' hx => ?_
  have I1:Inv X pins σ H { s with heap:=h' }:=I.kept (t':=s.toks) fun b o e => hx b o (Nat.ne_of_lt (Heap.lt_size e)) e
  exact h pins _ σ H xs _ Q I1 (by simpa using rv) hw
def tAsg (te:TE) (g:TG):TS:=fun D σ H => te σ H fun x H1 => g x σ H1 D.nx
theorem ps_set {i:Nat} {x:Str} {e:Expr} {te:TE} {pos':Pos} (hN:X.N.Nodup) (hi:X.N[i]? = some x) (hx:Loc X.env.scope x) (he:PE X e te) (hs:swapsWith e (some (.Name x pos')) pos.line X.env = pure false:=by rfl) (hf:X.fn x = true ∨ X.env.scope.names.lookup x = some .local:=by first | exact .inl rfl | exact .inr rfl | assumption) :
    PS X (.Assign [.Name x pos'] e pos) (tAsg te (gName i)):=by
  intro pins s σ H D I h
  refine wpAny_Assign_Name (thn (he pins s σ H _ I h) fun v s1 ⟨y,H1,I1,r1,q1⟩ => ?_) hs
  exact store_ok I1 hN hi hx r1 (fun s2 I2 => ⟨_,H1,I2,q1⟩) hf
end
section
variable {X:Cx} {pos:Pos}
end
structure It where
  go:Nat → Hp → Prop
  yld:Nat → Hp → V → Hp → Prop
  stop:Nat → Hp → Prop
def FpOk (X:Cx) (pins:List (Addr × Obj)) (H:Hp) (b:Addr):Prop :=
  H b = none ∧ b ≠ X.env.locals ∧ b ∉ X.fs ∧ (b ∈ X.ex ∨ X.s₀.heap.objs.size ≤ b) ∧ (∀ x c,X.env.cells.lookup x = some c → c ≠ b) ∧ ∀ p ∈ X.pn ++ pins,p.1 ≠ b
theorem Inv.fpOk {X:Cx} {pins:List (Addr × Obj)} {σ:St} {H H':Hp} {s:Shared} {b:Addr} (I:Inv X pins σ H s) (hb:s.heap.objs.size ≤ b) (hn:H' b = none):FpOk X pins H' b:=by
  refine ⟨hn,Nat.ne_of_gt (Nat.lt_of_lt_of_le I.lt hb),I.nofs hb,.inr (Nat.le_trans I.sz hb),fun x c e z => ?_,fun p hp z => ?_⟩
  · obtain ⟨v,q⟩:=I.cell x c e
    exact absurd (Nat.lt_of_lt_of_le q.lt (by rw [z]; exact hb)) (Nat.lt_irrefl _)
  · exact absurd (Nat.lt_of_lt_of_le (Heap.lt_size (I.pin p hp).1) (by rw [z]; exact hb)) (Nat.lt_irrefl _)
structure Turn (P:Program) (w:World) (K:PySem.W.Frag) (tg:Expr) (J:It) (fp:List Addr) (it:Addr) (tn:Nat → Heap → Prop):Prop where
  mem:it ∈ fp
  obj:∀ i h,tn i h → ∀ b ∈ fp,∃ o,h.get? b = some o ∧ ∀ v,o.data ≠ .cell v
  keep:∀ i h h',tn i h → (∀ b ∈ fp,∀ o,h.get? b = some o → h'.get? b = some o) → tn i h'
  item:∀ (X:Cx),X.prog = P → X.w = w → X.K = K → X.calm = true → ∀ (i:Nat) (pins:List (Addr × Obj)) (s:Shared) (σ:St) (H:Hp) (E:Value → Shared → Prop),Inv X pins σ H s → (∀ b ∈ fp,FpOk X pins H b) → tn i s.heap → J.go i H →
    wpAny (model P w) X.A (pyNext (.ref it)) (fun r s1 => ∃ u,r = some u ∧
      wpAny (model P w) X.A (letOwnedTupleGo tg (.ref it) u) (fun _ s2 => ∃ x H',Inv X pins σ H' s2 ∧ RelV x u ∧ J.yld i H x H' ∧ tn (i + 1) s2.heap ∧ ∀ b ∈ fp,H' b = none) E s1) E s
  done:∀ (X:Cx),X.prog = P → X.w = w → X.K = K → X.calm = true → ∀ (i:Nat) (pins:List (Addr × Obj)) (s:Shared) (σ:St) (H:Hp) (E:Value → Shared → Prop),Inv X pins σ H s → (∀ b ∈ fp,FpOk X pins H b) → tn i s.heap → J.stop i H →
    wpAny (model P w) X.A (pyNext (.ref it)) (fun r s1 => r = none ∧ Inv X pins σ H s1) E s
  self:∀ (A:Around) (i:Nat) (s:Shared) (Q:Value → Shared → Prop) (E:Value → Shared → Prop),tn i s.heap → Q (.ref it) s → wpAny (model P w) A (pyIter (.ref it)) Q E s
abbrev TI:=St → Hp → (It → Hp → Prop) → Prop
def PIE (X:Cx) (pins:List (Addr × Obj)) (σ:St) (tg:Expr) (R:It → Hp → Prop) (itv:Value) (s2:Shared):Prop :=
  ∃ (it:Addr) (fp:List Addr) (tn:Nat → Heap → Prop) (J:It) (H':Hp),itv = .ref it ∧ Inv X pins σ H' s2 ∧ Turn X.prog X.w X.K tg J fp it tn ∧ tn 0 s2.heap ∧ (∀ b ∈ fp,FpOk X pins H' b) ∧ R J H'
def PI (X:Cx) (tg iter:Expr) (wi:TI):Prop :=
  ∀ (pins:List (Addr × Obj)) (s:Shared) (σ:St) (H:Hp) (R:It → Hp → Prop),Inv X pins σ H s → wi σ H R →
    wpAny (model X.prog X.w) X.A (eval iter X.env) (fun v s1 => wpAny (model X.prog X.w) X.A (pyIter v) (PIE X pins σ tg R) X.xe s1) X.xe s
theorem go_of {M:Model} {A:Around} {E:Value → Shared → Prop} {s:Shared} {tg:Expr} {it:Addr} {u:Value} {o:Obj} {n:String} {vs:Array Value} {Q:Unit → Shared → Prop} (ho:s.heap.get? it = some o) (hc:o.cls = .type n) (hd:o.data = .fields vs)
    (hn:["enumerate", "zip", "dict_itemiterator", "dict_reverseitemiterator", "odict_iterator", "itertools.zip_longest", "itertools.pairwise"].contains n = false) (hQ:Q () s):wpAny M A (letOwnedTupleGo tg (.ref it) u) Q E s:=by
  unfold letOwnedTupleGo
  cases tg <;> first
    | exact wpAny_pure hQ
    | (cases u <;> first
        | exact wpAny_pure hQ
        | (refine wpAny_bind (wpAny_load ho ?_)
           rw [hc,hd]
           show wpAny M A (if (["enumerate", "zip", "dict_itemiterator", "dict_reverseitemiterator", "odict_iterator", "itertools.zip_longest", "itertools.pairwise"].contains n && vs[0]? == some (rawInt _)) = true then _ else _) Q E s
           rw [if_neg (by intro h; rw [hn,Bool.false_and] at h; cases h)]
           exact wpAny_pure hQ))
def Itl (K:PySem.W.Frag) (a:Addr):It :=
  ⟨fun i H => ∃ xs x,SqL K H a xs ∧ xs[i]? = some x,fun i H x H' => H' = H ∧ ∀ xs,SqL K H a xs → xs[i]? = some x,fun i H => ∃ xs,SqL K H a xs ∧ xs.length ≤ i⟩
def Itr (lo:Int) (n:Nat):It:=⟨fun i _ => i < n,fun i H x H' => H' = H ∧ x = .int (lo + i),fun i _ => n ≤ i⟩
theorem turn_list {P:Program} {w:World} {K:PySem.W.Frag} {tg:Expr} (a it:Addr):Turn P w K tg (Itl K a) [it] it (fun i h => h.IsListIter it a i) where
  mem:=by simp
  obj:=fun i h st b hb => by
    have e:b = it:=by simpa using hb
    subst e
    obtain ⟨o,e,c,d⟩:=st
    exact ⟨o,e,fun v z => by rw [d] at z; cases z⟩
  keep:=fun i h h' st k => st.at fun o e => k it (by simp) o e
  item:=by
    intro X hP hw hK hc i pins s σ H E I hf st hg
    subst hP hw hK
    obtain ⟨xs,x,hq,hx⟩:=hg
    obtain ⟨its,rv,p,hz⟩:=I.list hq
    obtain ⟨u,hu,ru⟩:=rv.get hx
    obtain ⟨f0,f1,f2,f3,f4,f5⟩:=hf it (by simp)
    refine wpAny_pyNext_list_item st p.isList (x:=u) (by simpa using hu) fun h' st' sb => ?_
    have I1:Inv X pins σ H { s with heap:=h' }:=I.turned (t':=s.toks) (fun b o hb e => (sb.2 b hb).trans e) f0 f1 f3 f4 f5
    obtain ⟨o,e,c,d⟩:=id st'
    exact ⟨u,rfl,go_of (s:={ s with heap:=h' }) e c d (by decide) ⟨x,H,I1,ru,⟨rfl,fun ys hy => by rw [I.list_inj hy hq]; exact hx⟩,st',fun b hb => (hf b hb).1⟩⟩
  done:=by
    intro X hP hw hK hc i pins s σ H E I hf st hg
    subst hP hw hK
    obtain ⟨xs,hq,hx⟩:=hg
    obtain ⟨its,rv,p,hz⟩:=I.list hq
    obtain ⟨f0,f1,f2,f3,f4,f5⟩:=hf it (by simp)
    have hl:=rv.length
    exact wpAny_pyNext_list_end (I.ok.hd hc) st p.isList (by simp; omega) fun h' eb => ⟨rfl,I.turned (t':=s.toks) (fun b o hb e => eb b o hb e) f0 f1 f3 f4 f5⟩
  self:=fun _ _ _ _ _ st h => wpAny_pyIter_listiter st h
theorem turn_range {P:Program} {w:World} {K:PySem.W.Frag} {tg:Expr} (it:Addr) (lo:Int) (n:Nat):Turn P w K tg (Itr lo n) [it] it (fun i h => IsRangeIter h it (lo + (i:Nat) * 1) ((n:Int) - (i:Nat)) 1) where
  mem:=by simp
  obj:=fun i h st b hb => by
    have e:b = it:=by simpa using hb
    subst e
    exact ⟨_,st,fun v z => by
      have z':Data.fields _ = Data.cell v:=z
      cases z'⟩
  keep:=fun i h h' st k => k it (by simp) _ st
  item:=by
    intro X hP hw hK hc i pins s σ H E I hf st hg
    subst hP hw hK
    obtain ⟨f0,f1,f2,f3,f4,f5⟩:=hf it (by simp)
    have W:=Walks.range (prog:=X.prog) (w:=X.w) (I.ok.hd hc) it lo 1 n
    refine W.item i s _ _ hg st fun v h' tk hv st' kk => ?_
    obtain ⟨t,rfl⟩:=hv
    have I1:Inv X pins σ H { s with heap:=h',toks:=tk }:=I.turned (fun b o hb e => kk b o (by simpa using hb) e) f0 f1 f3 f4 f5
    refine ⟨_,rfl,go_of (s:={ s with heap:=h',toks:=tk }) (n := "range_iterator") st' rfl rfl (by decide) ⟨.int (lo + i),H,I1,⟨t,?_⟩,⟨rfl,rfl⟩,st',fun b hb => (hf b hb).1⟩⟩
    rw [Int.mul_one]
  done:=by
    intro X hP hw hK hc i pins s σ H E I hf st hg
    subst hP hw hK
    obtain ⟨f0,f1,f2,f3,f4,f5⟩:=hf it (by simp)
    exact wpAny_pyNext_range_end (I.ok.hd hc) st (by have:n ≤ i:=hg; omega) fun h' eb => ⟨rfl,I.turned (t':=s.toks) (fun b o hb e => eb b o hb e) f0 f1 f3 f4 f5⟩
  self:=fun _ _ _ _ _ st h => wpAny_pyIter_rangeiter st h
end L2
namespace L2
open PySem PySem.Spec PyProof.Rows
section
variable {X:Cx} {tg:Expr}
theorem range_it {pins:List (Addr × Obj)} {σ:St} {H:Hp} {s:Shared} {R:It → Hp → Prop} {E:Value → Shared → Prop} {lo hi:Int} {t u v:Tok} {tk:Nat} (I:Inv X pins σ H s) (h1:-(2 ^ 62) ≤ lo) (h2:lo < 2 ^ 62) (h3:-(2 ^ 62) ≤ hi) (h4:hi < 2 ^ 62)
    (q:R (Itr lo (hi - lo).toNat) H):wpAny (model X.prog X.w) X.A (pyIter (.ref s.heap.objs.size)) (PIE X pins σ tg R) E { s with heap:=s.heap.push { cls:=.type "range",data:=.fields #[.int lo t,.int hi u,.int 1 v] },toks:=tk }:=by
  refine wpAny_pyIter_range (IsRange.new ..) (small_one h1 h2 h3 h4) ?_
  have I1:Inv X pins σ H { s with heap:=s.heap.push { cls:=.type "range",data:=.fields #[.int lo t,.int hi u,.int 1 v] },toks:=tk }:=I.kept fun b o e => Heap.get?_push_of_some _ e
  refine ⟨(s.heap.push { cls:=.type "range",data:=.fields #[.int lo t,.int hi u,.int 1 v] }).objs.size,[(s.heap.push { cls:=.type "range",data:=.fields #[.int lo t,.int hi u,.int 1 v] }).objs.size],_,_,H,rfl,
    I1.kept (t':=tk) fun b o e => Heap.get?_push_of_some _ e,turn_range _ lo (hi - lo).toNat,?_,fun b hb => ?_,q⟩
  · have e1:lo + ((0:Nat):Int) * 1 = lo:=by simp
    have e2:(((hi - lo).toNat:Nat):Int) - ((0:Nat):Int) = Builtin.Range.rangeSize lo hi 1:=by rw [rangeSize_one]; split <;> omega
    show IsRangeIter _ _ (lo + ((0:Nat):Int) * 1) ((((hi - lo).toNat:Nat):Int) - ((0:Nat):Int)) 1
    rw [e1,e2]
    exact Heap.get?_push_size _ rfl
  · have e:b = (s.heap.push { cls:=.type "range",data:=.fields #[.int lo t,.int hi u,.int 1 v] }).objs.size:=by simpa using hb
    subst e
    exact I1.fpOk (Nat.le_refl _) (I1.hok.fresh (Nat.le_refl _))
def tFor (wi:TI) (g:TG) (tb:TS):TS:=fun D σ H => wi σ H fun J H1 => ∃ W:Nat → Nat → St → Hp → Prop,(∃ m,W 0 m σ H1) ∧ ∀ i m σ H,W i m σ H →
  (J.stop i H ∧ D.nx σ H) ∨ (J.go i H ∧ ∃ N:St → Hp → Prop,(∀ σ' H',N σ' H' → ∃ m',m' < m ∧ W (i + 1) m' σ' H') ∧ ∀ x H',J.yld i H x H' → g x σ H' fun σ2 H2 => tb { D with nx:=N,ct:=N,bk:=D.nx } σ2 H2)
def pinsAt (fp:List Addr) (h:Heap):List (Addr × Obj):=fp.filterMap fun b => (h.get? b).map fun o => (b,o)
theorem mem_pinsAt {fp:List Addr} {h:Heap} {b:Addr} {o:Obj} (hb:b ∈ fp) (e:h.get? b = some o):(b,o) ∈ pinsAt fp h:=List.mem_filterMap.mpr ⟨b,hb,by rw [e]; rfl⟩
theorem of_pinsAt {fp:List Addr} {h:Heap} {p:Addr × Obj} (hp:p ∈ pinsAt fp h):p.1 ∈ fp ∧ h.get? p.1 = some p.2:=by
  obtain ⟨b,hb,e⟩:=List.mem_filterMap.mp hp
  cases q:h.get? b with
  | none => rw [q] at e; cases e
  | some o =>
    rw [q] at e
    have e':(b,o) = p:=Option.some.inj e
    subst e'
    exact ⟨hb,q⟩
theorem Inv.pinned {pins:List (Addr × Obj)} {σ:St} {H:Hp} {s:Shared} {fp:List Addr} (I:Inv X pins σ H s) (hf:∀ b ∈ fp,FpOk X pins H b) (ho:∀ b ∈ fp,∃ o,s.heap.get? b = some o ∧ ∀ v,o.data ≠ .cell v):Inv X (pins ++ pinsAt fp s.heap) σ H s :=
  I.pins_of fun p hp => (List.mem_append.mp hp).elim (fun z => I.pin p (List.mem_append_right _ z)) fun z => by
    obtain ⟨hb,e⟩:=of_pinsAt z
    obtain ⟨f0,f1,f2,_⟩:=hf p.1 hb
    obtain ⟨o,e',d⟩:=ho p.1 hb
    rw [e] at e'; cases e'
    exact ⟨e,f0,f1,f2,d⟩
theorem Inv.unpinned {pins pl:List (Addr × Obj)} {σ:St} {H:Hp} {s:Shared} (I:Inv X (pins ++ pl) σ H s):Inv X pins σ H s:=I.pins_of fun p hp => I.pin p (List.mem_append_right _ (List.mem_append_left _ hp))
theorem ps_for {iter:Expr} {body:List Stmt} {wi:TI} {g:TG} {tb:TS} {pos:Pos} (hp:PassesOwn (model X.prog X.w) X.A X.env X.xe) (hc:X.calm = true) (hi:PI X tg iter wi) (hg:PG X tg g) (hb:PSs X body tb)
    (hs:∀ x,foldedSetIterable iter X.env x = pure x:=by intro _; rfl):PS X (.For tg iter body [] pos) (tFor wi g tb):=by
  intro pins s σ H D I h
  refine wpAny_For (thn (hi pins s σ H _ I h) fun v s1 h1 => thn h1 fun itv s2 h2 => ?_) hs
  obtain ⟨it,fp,tn,J,H2,e,I2,T,st2,f2,W,⟨m0,w0⟩,turn⟩:=h2
  subst e
  -- what stays true of the iterator's objects through the loop
  have stat:∀ {H':Hp},(∀ b ∈ fp,H' b = none) → ∀ b ∈ fp,FpOk X pins H' b:=fun hn b hb => ⟨hn b hb,(f2 b hb).2⟩
  refine codeAny_forLoop_any (fun n s' => ∃ i σ' H',Inv X pins σ' H' s' ∧ tn i s'.heap ∧ (∀ b ∈ fp,H' b = none) ∧ W i n σ' H') ?_ m0 ⟨0,σ,H2,I2,st2,fun b hb => (f2 b hb).1,w0⟩
  rintro n s3 ⟨i,σ3,H3,I3,st3,fr3,w3⟩
  rcases turn i n σ3 H3 w3 with ⟨stop,qn⟩ | ⟨go,N,hN,step⟩
  · refine wpAny_passesOwn hp (thn (T.done X rfl rfl rfl hc i pins s3 σ3 H3 X.xe I3 (stat fr3) st3 stop) fun r s4 ⟨hr,I4⟩ => ?_)
    subst hr
    exact wpAny_execs_nil ⟨σ3,H3,I4,qn⟩
  · refine wpAny_passesOwn hp (thn (T.item X rfl rfl rfl hc i pins s3 σ3 H3 X.xe I3 (stat fr3) st3 go) fun r s4 ⟨u,hr,h4⟩ => ?_)
    subst hr
    refine wpAny_passesOwn hp (thn h4 fun _ s5 ⟨x,H5,I5,r5,y5,st5,fr5⟩ => ?_)
    have I5':=I5.pinned (stat fr5) (T.obj _ _ st5)
    refine wpAny_passesOwn hp (thn (hg _ s5 σ3 H5 x u _ I5' r5 (step x H5 y5)) fun _ s6 ⟨σ6,H6,I6,q6⟩ => ?_)
    refine wpAny_passesOwn hp (thn (hb _ s6 σ6 H6 _ I6 q6) fun f s7 q7 => ?_)
    have again:∀ {σ7:St} {H7:Hp},Inv X (pins ++ pinsAt fp s5.heap) σ7 H7 s7 → N σ7 H7 → ∃ m,m < n ∧ ∃ i σ' H',Inv X pins σ' H' s7 ∧ tn i s7.heap ∧ (∀ b ∈ fp,H' b = none) ∧ W i m σ' H':=fun {σ7 H7} I7 n7 => by
      obtain ⟨m',hm,w7⟩:=hN σ7 H7 n7
      refine ⟨m',hm,i + 1,σ7,H7,I7.unpinned,T.keep _ _ _ st5 fun b hb o e => (I7.pin (b,o) (List.mem_append_right _ (List.mem_append_right _ (mem_pinsAt hb e)))).1,fun b hb => ?_,w7⟩
      obtain ⟨o,e,d⟩:=T.obj _ _ st5 b hb
      exact (I7.pin (b,o) (List.mem_append_right _ (List.mem_append_right _ (mem_pinsAt hb e)))).2.1
    cases f with
    | next => obtain ⟨σ7,H7,I7,n7⟩:=q7; exact again I7 n7
    | cont => obtain ⟨σ7,H7,I7,n7⟩:=q7; exact again I7 n7
    | brk => obtain ⟨σ7,H7,I7,q7⟩:=q7; exact ⟨σ7,H7,I7.unpinned,q7⟩
    | ret v => obtain ⟨x7,σ7,H7,I7,r7,q7⟩:=q7; exact ⟨x7,σ7,H7,I7.unpinned,r7,q7⟩
end
theorem for_list {K:PySem.W.Frag} {a:Addr} {xs:List V} {g:TG} {tb:TS} {D:Ends} {σ:St} {H:Hp} (Pv:Nat → St → Hp → Prop) (h0:Pv 0 σ H) (hl:∀ i σ H,i ≤ xs.length → Pv i σ H → SqL K H a xs)
    (hs:∀ i x σ H,xs[i]? = some x → Pv i σ H → g x σ H fun σ2 H2 => tb { D with nx:=Pv (i + 1),ct:=Pv (i + 1),bk:=D.nx } σ2 H2) (hd:∀ σ H,Pv xs.length σ H → D.nx σ H) :
    ∃ W:Nat → Nat → St → Hp → Prop,(∃ m,W 0 m σ H) ∧ ∀ i m σ H,W i m σ H →
      ((Itl K a).stop i H ∧ D.nx σ H) ∨ ((Itl K a).go i H ∧ ∃ N:St → Hp → Prop,(∀ σ' H',N σ' H' → ∃ m',m' < m ∧ W (i + 1) m' σ' H') ∧ ∀ x H',(Itl K a).yld i H x H' → g x σ H' fun σ2 H2 => tb { D with nx:=N,ct:=N,bk:=D.nx } σ2 H2):=by
  refine ⟨fun i m σ H => m = xs.length - i ∧ i ≤ xs.length ∧ Pv i σ H,⟨xs.length,by simp,Nat.zero_le _,h0⟩,?_⟩
  rintro i m σ H ⟨rfl,hi,p⟩
  have q:=hl i σ H hi p
  by_cases hlt:i < xs.length
  · refine .inr ⟨⟨xs,xs[i],q,by simp [hlt]⟩,Pv (i + 1),fun σ' H' p' => ⟨xs.length - (i + 1),by omega,rfl,hlt,p'⟩,fun x H' y => ?_⟩
    obtain ⟨e,y⟩:=y
    subst e
    exact hs i x σ _ (y xs q) p
  · have e:i = xs.length:=by omega
    subst e
    exact .inl ⟨⟨xs,q,Nat.le_refl _⟩,hd σ H p⟩
theorem for_range {lo:Int} {n:Nat} {g:TG} {tb:TS} {D:Ends} {σ:St} {H:Hp} (Pv:Nat → St → Hp → Prop) (h0:Pv 0 σ H)
    (hs:∀ i σ H,i < n → Pv i σ H → g (.int (lo + i)) σ H fun σ2 H2 => tb { D with nx:=Pv (i + 1),ct:=Pv (i + 1),bk:=D.nx } σ2 H2) (hd:∀ σ H,Pv n σ H → D.nx σ H) :
    ∃ W:Nat → Nat → St → Hp → Prop,(∃ m,W 0 m σ H) ∧ ∀ i m σ H,W i m σ H →
      ((Itr lo n).stop i H ∧ D.nx σ H) ∨ ((Itr lo n).go i H ∧ ∃ N:St → Hp → Prop,(∀ σ' H',N σ' H' → ∃ m',m' < m ∧ W (i + 1) m' σ' H') ∧ ∀ x H',(Itr lo n).yld i H x H' → g x σ H' fun σ2 H2 => tb { D with nx:=N,ct:=N,bk:=D.nx } σ2 H2):=by
  refine ⟨fun i m σ H => m = n - i ∧ i ≤ n ∧ Pv i σ H,⟨n,by simp,Nat.zero_le _,h0⟩,?_⟩
  rintro i m σ H ⟨rfl,hi,p⟩
  by_cases hlt:i < n
  · refine .inr ⟨hlt,Pv (i + 1),fun σ' H' p' => ⟨n - (i + 1),by omega,rfl,hlt,p'⟩,fun x H' y => ?_⟩
    obtain ⟨e,y⟩:=y
    subst e y
    exact hs i σ _ hlt p
  · have e:i = n:=by omega
    subst e
    exact .inl ⟨Nat.le_refl _,hd σ H p⟩
end L2
namespace L2
open PySem PySem.Spec PyProof.Rows
abbrev R2:=V → V → Hp → VK → Prop
def OpR (X:Cx) (f:Value → Value → Sem Value) (r:R2):Prop :=
  ∀ (pins:List (Addr × Obj)) (s:Shared) (σ:St) (H:Hp) (x y:V) (v u:Value) (Q:VK),Inv X pins σ H s → RelV x v → RelV y u → r x y H Q →
    wpAny (model X.prog X.w) X.A (f v u) (EP X pins σ Q) X.xe s
def CallR (X:Cx) (f:Value) (r:List V → Hp → VK → Prop):Prop :=
  ∀ (pins:List (Addr × Obj)) (s:Shared) (σ:St) (H:Hp) (xs:List V) (us:List Value) (Q:VK),Inv X pins σ H s → Vals xs us → r xs H Q →
    wpAny (model X.prog X.w) X.A (call f us) (EP X pins σ Q) X.xe s
def TruR (X:Cx) (r:V → Hp → (Bool → Hp → Prop) → Prop):Prop :=
  ∀ (pins:List (Addr × Obj)) (s:Shared) (σ:St) (H:Hp) (x:V) (v:Value) (Q:Bool → Hp → Prop),Inv X pins σ H s → RelV x v → r x H Q →
    wpAny (model X.prog X.w) X.A (truthy v) (TP X pins σ Q) X.xe s
def tOp (r:R2) (ta tb:TE):TE:=fun σ H Q => ta σ H fun x H1 => tb σ H1 fun y H2 => r x y H2 Q
def rI (C:Int → Int → Prop) (g:Int → Int → V):R2:=fun x y H Q => ∃ i j,x = .int i ∧ y = .int j ∧ C i j ∧ Q (g i j) H
def rI0 (g:Int → Int → V):R2:=fun x y H Q => ∃ i j,x = .int i ∧ y = .int j ∧ Q (g i j) H
section
variable {X:Cx} {a b c:Expr} {ta tb tc:TE} {pos:Pos}
theorem binT (ha:PE X a ta) (hb:PE X b tb) {pins:List (Addr × Obj)} {s:Shared} {σ:St} {H:Hp} {R:V → V → Hp → Prop} (I:Inv X pins σ H s)
    (h:ta σ H fun x H1 => tb σ H1 fun y H2 => R x y H2) {Q:Value → Shared → Prop} {f:Value → Value → Sem Value}
    (hf:∀ v u s2 x y H2,Inv X pins σ H2 s2 → RelV x v → RelV y u → R x y H2 → wpAny (model X.prog X.w) X.A (f v u) Q X.xe s2) :
    wpAny (model X.prog X.w) X.A (eval a X.env) (fun v s₁ => wpAny (model X.prog X.w) X.A (eval b X.env) (fun u s₂ => wpAny (model X.prog X.w) X.A (f v u) Q X.xe s₂) X.xe s₁) X.xe s:=by
  refine thn (ha pins s σ H _ I h) fun v s1 ⟨x,H1,I1,r1,q1⟩ => ?_
  refine thn (hb pins s1 σ H1 _ I1 q1) fun u s2 ⟨y,H2,I2,r2,q2⟩ => ?_
  exact hf v u s2 x y H2 I2 r1 r2 q2
theorem pe_op {op:Operator} {r:R2} (ho:OpR X (binaryOp op) r) (ha:PE X a ta) (hb:PE X b tb):PE X (.BinOp a op b pos) (tOp r ta tb):=by
  intro pins s σ H Q I h
  exact wpAny_BinOp (binT ha hb I h fun v u s2 x y H2 I2 rx ry q => ho pins s2 σ H2 x y v u Q I2 rx ry q)
theorem opI {f:Value → Value → Sem Value} {C:Int → Int → Prop} {g:Int → Int → Int}
    (rule:∀ (i j:Int) (t u:Tok) (s:Shared) (Q:Value → Shared → Prop) (E:Value → Shared → Prop),C i j → Q (.int (g i j) s.toks) { s with toks:=s.toks + 1 } → wpAny (model X.prog X.w) X.A (f (.int i t) (.int j u)) Q E s) :
    OpR X f (rI C fun i j => .int (g i j)):=by
  intro pins s σ H x y v u Q I rx ry h
  obtain ⟨i,j,rfl,rfl,hc,q⟩:=h
  obtain ⟨t,rfl⟩:=rx
  obtain ⟨t',rfl⟩:=ry
  exact rule i j t t' s _ _ hc ⟨.int (g i j),H,I.tok _,⟨_,rfl⟩,q⟩
theorem opI0 {f:Value → Value → Sem Value} {g:Int → Int → Int}
    (rule:∀ (i j:Int) (t u:Tok) (s:Shared) (Q:Value → Shared → Prop) (E:Value → Shared → Prop),Q (.int (g i j) s.toks) { s with toks:=s.toks + 1 } → wpAny (model X.prog X.w) X.A (f (.int i t) (.int j u)) Q E s) :
    OpR X f (rI0 fun i j => .int (g i j)):=by
  intro pins s σ H x y v u Q I rx ry h
  obtain ⟨i,j,rfl,rfl,q⟩:=h
  obtain ⟨t,rfl⟩:=rx
  obtain ⟨t',rfl⟩:=ry
  exact rule i j t t' s _ _ ⟨.int (g i j),H,I.tok _,⟨_,rfl⟩,q⟩
theorem opB0 {f:Value → Value → Sem Value} {g:Int → Int → Bool}
    (rule:∀ (i j:Int) (t u:Tok) (s:Shared) (Q:Value → Shared → Prop) (E:Value → Shared → Prop),Q (.bool (g i j)) s → wpAny (model X.prog X.w) X.A (f (.int i t) (.int j u)) Q E s) :
    OpR X f (rI0 fun i j => .bl (g i j)):=by
  intro pins s σ H x y v u Q I rx ry h
  obtain ⟨i,j,rfl,rfl,q⟩:=h
  obtain ⟨t,rfl⟩:=rx
  obtain ⟨t',rfl⟩:=ry
  exact rule i j t t' s _ _ ⟨.bl (g i j),H,I,rfl,q⟩
def CDiv (i j:Int):Prop:=0 < j ∧ j < 1073741824
def CPow (i j:Int):Prop:=0 ≤ j ∧ j ≤ 1000000 ∧ i.natAbs < 2 ^ 64
def CMul (i j:Int):Prop:=(-(2 ^ 64) < i ∧ i < 2 ^ 64) ∨ (-(2 ^ 64) < j ∧ j < 2 ^ 64)
theorem CMul.ok {i j:Int} (h:CMul i j):IntMulOk i j:=by
  rcases h with ⟨h1,h2⟩ | ⟨h1,h2⟩
  · exact .of_left (intBits_le_64 h1 h2)
  · exact .of_right (intBits_le_64 h1 h2)
theorem op_add:OpR X (binaryOp .Add) (rI0 fun i j => .int (i + j)):=opI0 fun _ _ _ _ _ _ _ q => add_int q
theorem op_mul:OpR X (binaryOp .Mult) (rI CMul fun i j => .int (i * j)):=opI fun _ _ _ _ _ _ _ hc q => mul_int q hc.ok
theorem op_fdiv:OpR X (binaryOp .FloorDiv) (rI CDiv fun i j => .int (i / j)):=opI fun i j _ _ _ _ _ hc q => by
  have h1:(0:Int) < j:=hc.1
  have h2:j < 1073741824:=hc.2
  exact floordiv_int (by omega) (by rw [Int.fdiv_eq_ediv_of_nonneg i (by omega)]; exact q) (.inl (PyProof.noPylong_small (by omega)))
theorem op_mod:OpR X (binaryOp .Mod) (rI (fun _ j => 0 < j) fun i j => .int (i % j)):=opI fun i j _ _ _ _ _ hc q => by
  have h1:(0:Int) < j:=hc
  exact mod_int' (by omega) (by rw [Int.fmod_eq_emod_of_nonneg i (by omega)]; exact q)
theorem op_pow:OpR X (binaryOp .Pow) (rI CPow fun i j => .int (i ^ j.toNat)):=opI fun _ _ _ _ _ _ _ hc q => pow_int_small hc.1 hc.2.1 hc.2.2 q
end
def scal:V → V → Bool
  | .non,.non => true | .non,.int _ => true | .int _,.non => true | .non,.bl _ => true | .bl _,.non => true | .non,.str _ => true | .str _,.non => true
  | .int _,.int _ => true | .bl _,.bl _ => true | .str _,.str _ => true | .byt _,.byt _ => true
  | .int _,.str _ => true | .str _,.int _ => true | .bl _,.str _ => true | .str _,.bl _ => true
  | _,_ => false
def rEq:R2:=fun x y H Q => scal x y = true ∧ Q (.bl (decide (x = y))) H
def rNe:R2:=fun x y H Q => scal x y = true ∧ Q (.bl (!decide (x = y))) H
theorem dec_int {i j:Int}:decide (V.int i = V.int j) = (i == j):=by
  rw [Bool.eq_iff_iff]
  simp
theorem dec_bl {i j:Bool}:decide (V.bl i = V.bl j) = (i == j):=by
  rw [Bool.eq_iff_iff]
  simp
theorem dec_str {i j:Str}:decide (V.str i = V.str j) = (i == j):=by
  rw [Bool.eq_iff_iff]
  simp
theorem dec_byt {i j:Array UInt8}:decide (V.byt i = V.byt j) = (i.toList == j.toList):=by
  rw [Bool.eq_iff_iff]
  cases i
  cases j
  simp
section
variable {X:Cx} {a b c:Expr} {ta tb tc:TE} {pos:Pos}
theorem fin_bl {pins:List (Addr × Obj)} {σ:St} {H:Hp} {s:Shared} {Q:VK} {k k':Bool} (I:Inv X pins σ H s) (q:Q (.bl k) H) (e:k = k'):EP X pins σ Q (.bool k') s:=by
  subst e
  exact ⟨.bl k,H,I,rfl,q⟩
theorem op_eq:OpR X (compareOp .Eq) rEq:=by
  intro pins s σ H x y v u Q I rx ry h
  obtain ⟨hs,q⟩:=h
  cases x with
  | non =>
    cases rx
    cases y with
    | non => cases ry; exact PySem.EqNone.eq_none_none (fin_bl I q (by simp))
    | bl j => cases ry; exact PySem.EqNone.eq_none_bool (fin_bl I q (by simp))
    | int j => obtain ⟨t',rfl⟩:=ry; exact PySem.EqNone.eq_none_int (fin_bl I q (by simp))
    | str j => obtain ⟨t',rfl⟩:=ry; exact PySem.EqNone.eq_none_str (fin_bl I q (by simp))
    | _ => exact absurd (show false = true from hs) Bool.false_ne_true
  | bl i =>
    cases rx
    cases y with
    | non => cases ry; exact PySem.EqNone.eq_bool_none (fin_bl I q (by simp))
    | bl j => cases ry; exact eq_bool (fin_bl I q dec_bl)
    | str j => obtain ⟨t',rfl⟩:=ry; exact PySem.EqMixed.eq_bool_str (fin_bl I q (by simp))
    | _ => exact absurd (show false = true from hs) Bool.false_ne_true
  | int i =>
    obtain ⟨t,rfl⟩:=rx
    cases y with
    | non => cases ry; exact PySem.EqNone.eq_int_none (fin_bl I q (by simp))
    | int j => obtain ⟨t',rfl⟩:=ry; exact eq_int (fin_bl I q dec_int)
    | str j => obtain ⟨t',rfl⟩:=ry; exact PySem.EqMixed.eq_int_str (fin_bl I q (by simp))
    | _ => exact absurd (show false = true from hs) Bool.false_ne_true
  | str i =>
    obtain ⟨t,rfl⟩:=rx
    cases y with
    | non => cases ry; exact PySem.EqNone.eq_str_none (fin_bl I q (by simp))
    | bl j => cases ry; exact PySem.EqMixed.eq_str_bool (fin_bl I q (by simp))
    | int j => obtain ⟨t',rfl⟩:=ry; exact PySem.EqMixed.eq_str_int (fin_bl I q (by simp))
    | str j => obtain ⟨t',rfl⟩:=ry; exact eq_str (fin_bl I q dec_str)
    | _ => exact absurd (show false = true from hs) Bool.false_ne_true
  | byt i =>
    obtain ⟨t,rfl⟩:=rx
    cases y with
    | byt j => obtain ⟨t',rfl⟩:=ry; exact PySem.W.eq_bytes (fin_bl I q dec_byt)
    | _ => exact absurd (show false = true from hs) Bool.false_ne_true
  | _ => cases y <;> exact absurd (show false = true from hs) Bool.false_ne_true
theorem op_ne:OpR X (compareOp .NotEq) rNe:=by
  intro pins s σ H x y v u Q I rx ry h
  obtain ⟨hs,q⟩:=h
  cases x with
  | non =>
    cases rx
    cases y with
    | non => cases ry; exact PySem.EqNone.ne_none_none (fin_bl I q (by simp))
    | bl j => cases ry; exact PySem.EqNone.ne_none_bool (fin_bl I q (by simp))
    | int j => obtain ⟨t',rfl⟩:=ry; exact PySem.EqNone.ne_none_int (fin_bl I q (by simp))
    | str j => obtain ⟨t',rfl⟩:=ry; exact PySem.EqNone.ne_none_str (fin_bl I q (by simp))
    | _ => exact absurd (show false = true from hs) Bool.false_ne_true
  | bl i =>
    cases rx
    cases y with
    | non => cases ry; exact PySem.EqNone.ne_bool_none (fin_bl I q (by simp))
    | bl j => cases ry; exact ne_bool (fin_bl I q (congrArg not dec_bl))
    | str j => obtain ⟨t',rfl⟩:=ry; exact PySem.EqMixed.ne_bool_str (fin_bl I q (by simp))
    | _ => exact absurd (show false = true from hs) Bool.false_ne_true
  | int i =>
    obtain ⟨t,rfl⟩:=rx
    cases y with
    | non => cases ry; exact PySem.EqNone.ne_int_none (fin_bl I q (by simp))
    | int j => obtain ⟨t',rfl⟩:=ry; exact ne_int (fin_bl I q (congrArg not dec_int))
    | str j => obtain ⟨t',rfl⟩:=ry; exact PySem.EqMixed.ne_int_str (fin_bl I q (by simp))
    | _ => exact absurd (show false = true from hs) Bool.false_ne_true
  | str i =>
    obtain ⟨t,rfl⟩:=rx
    cases y with
    | non => cases ry; exact PySem.EqNone.ne_str_none (fin_bl I q (by simp))
    | bl j => cases ry; exact PySem.EqMixed.ne_str_bool (fin_bl I q (by simp))
    | int j => obtain ⟨t',rfl⟩:=ry; exact PySem.EqMixed.ne_str_int (fin_bl I q (by simp))
    | str j => obtain ⟨t',rfl⟩:=ry; exact ne_str (fin_bl I q (congrArg not dec_str))
    | _ => exact absurd (show false = true from hs) Bool.false_ne_true
  | byt i =>
    obtain ⟨t,rfl⟩:=rx
    cases y with
    | byt j => obtain ⟨t',rfl⟩:=ry; exact PySem.W.ne_bytes (fin_bl I q (congrArg not dec_byt))
    | _ => exact absurd (show false = true from hs) Bool.false_ne_true
  | _ => cases y <;> exact absurd (show false = true from hs) Bool.false_ne_true
theorem op_lt:OpR X (compareOp .Lt) (rI0 fun i j => .bl (decide (i < j))):=opB0 fun _ _ _ _ _ _ _ q => lt_int q
theorem op_le:OpR X (compareOp .LtE) (rI0 fun i j => .bl (decide (i ≤ j))):=opB0 fun _ _ _ _ _ _ _ q => le_int q
theorem op_gt:OpR X (compareOp .Gt) (rI0 fun i j => .bl (decide (j < i))):=opB0 fun _ _ _ _ _ _ _ q => gt_int q
theorem op_ge:OpR X (compareOp .GtE) (rI0 fun i j => .bl (decide (j ≤ i))):=opB0 fun _ _ _ _ _ _ _ q => ge_int q
theorem op_in_str:OpR X (compareOp .In) (fun x y H Q => ∃ i j,x = .str i ∧ y = .str j ∧ Q (.bl (!(Builtin.Str.occurrences j i 0 j.length 1).isEmpty)) H):=by
  intro pins s σ H x y v u Q I rx ry h
  obtain ⟨i,j,rfl,rfl,q⟩:=h
  obtain ⟨t,rfl⟩:=rx
  obtain ⟨t',rfl⟩:=ry
  exact in_str (fin_bl I q rfl)
theorem op_notin_str:OpR X (compareOp .NotIn) (fun x y H Q => ∃ i j,x = .str i ∧ y = .str j ∧ Q (.bl (!(!(Builtin.Str.occurrences j i 0 j.length 1).isEmpty))) H):=by
  intro pins s σ H x y v u Q I rx ry h
  obtain ⟨i,j,rfl,rfl,q⟩:=h
  obtain ⟨t,rfl⟩:=rx
  obtain ⟨t',rfl⟩:=ry
  exact notIn_str (fin_bl I q rfl)
theorem OpR.or {f:Value → Value → Sem Value} {r r':R2} (h:OpR X f r) (h':OpR X f r'):OpR X f (fun x y H Q => r x y H Q ∨ r' x y H Q):=by
  intro pins s σ H x y v u Q I rx ry q
  rcases q with q | q
  · exact h pins s σ H x y v u Q I rx ry q
  · exact h' pins s σ H x y v u Q I rx ry q
theorem nomark (b:Expr) {op:CmpOp} (h:op ≠ .In:=by decide) (h2:op ≠ .NotIn:=by decide):behindInMarks op b = false:=by
  have e1:(op == CmpOp.In) = false:=by cases op <;> first | rfl | exact absurd rfl h
  have e2:(op == CmpOp.NotIn) = false:=by cases op <;> first | rfl | exact absurd rfl h2
  cases b <;> simp [behindInMarks,e1,e2]
theorem pe_cmpR {op:CmpOp} {r:R2} (ho:OpR X (compareOp op) r) (ha:PE X a ta) (hb:PE X b tb) (hm:behindInMarks op b = false):PE X (.Compare a [op] [b] pos) (tOp r ta tb):=by
  intro pins s σ H Q I h
  exact wpAny_Compare1 (binT ha hb I h fun v u s2 x y H2 I2 rx ry q => ho pins s2 σ H2 x y v u Q I2 rx ry q) hm
def TruV (K:PySem.W.Frag) (x:V) (H:Hp) (k:Bool):Prop :=
  match x with
  | .non => k = false
  | .bl b => k = b
  | .int i => k = (i != 0)
  | .str y => y.length ≤ sizeLine ∧ k = ((y.length:Int) != 0)
  | .byt y => y.size ≤ sizeLine ∧ k = ((y.size:Int) != 0)
  | .ref p => (∃ xs,SqL K H p xs ∧ k = !xs.isEmpty) ∨ (∃ xs,SqT K H p xs ∧ k = !xs.isEmpty) ∨ ∃ kvs,H p = some (.dK kvs) ∧ k = !kvs.isEmpty
  | _ => False
theorem isEmpty_kv {κ:Type} {kvs:List (κ × V)} {vs:List (κ × Value)} (r:KV kvs vs):(!vs.isEmpty) = !kvs.isEmpty:=by
  cases r <;> rfl
theorem isEmpty_of {xs:List V} {its:List Value} (r:Vals xs its):(!its.toArray.isEmpty) = !xs.isEmpty:=by
  cases r <;> simp
theorem line63:(sizeLine:Nat) < 2 ^ 63:=by rw [sizeLine_eq]; decide
theorem tru_ok:TruR X (fun x H Q => ∃ k,TruV X.K x H k ∧ Q k H):=by
  intro pins s σ H x v Q I rx h
  obtain ⟨k,e,q⟩:=h
  have hl:=line63
  have hs:sizeLine = 16777216:=sizeLine_eq
  cases x with
  | non =>
    cases rx
    have e':k = false:=e
    subst e'
    exact truthy_none ⟨H,I,q⟩
  | bl b =>
    cases rx
    have e':k = b:=e
    subst e'
    exact wpAny_truthy_bool ⟨H,I,q⟩
  | int i =>
    obtain ⟨t,rfl⟩:=rx
    have e':k = (i != 0):=e
    subst e'
    exact PySem.P.truthy_int ⟨H,I,q⟩
  | str y =>
    obtain ⟨t,rfl⟩:=rx
    obtain ⟨hy,e'⟩:y.length ≤ sizeLine ∧ k = ((y.length:Int) != 0):=e
    subst e'
    exact PySem.P.truthy_str (by omega) ⟨H,I.tok _,q⟩
  | byt y =>
    obtain ⟨t,rfl⟩:=rx
    obtain ⟨hy,e'⟩:y.size ≤ sizeLine ∧ k = ((y.size:Int) != 0):=e
    subst e'
    exact PySem.W.truthy_bytes (by omega) ⟨H,I.tok _,q⟩
  | ref p =>
    cases rx
    have e':(∃ xs,SqL X.K H p xs ∧ k = !xs.isEmpty) ∨ (∃ xs,SqT X.K H p xs ∧ k = !xs.isEmpty) ∨ ∃ kvs,H p = some (.dK kvs) ∧ k = !kvs.isEmpty:=e
    rcases e' with ⟨xs,hx,e'⟩ | ⟨xs,hx,e'⟩ | ⟨kvs,hx,e'⟩
    · subst e'
      obtain ⟨its,r,pl,hz⟩:=I.list hx
      have hlen:=r.length
      exact wpAny_truthy_list pl.isList (by simp only [List.size_toArray]; omega) ⟨H,I.tok _,by rw [isEmpty_of r]; exact q⟩
    · subst e'
      obtain ⟨its,r,pl,hz⟩:=I.tuple hx
      have hlen:=r.length
      exact truthy_tuple pl (by simp only [List.size_toArray]; omega) ⟨H,I.tok _,by rw [isEmpty_of r]; exact q⟩
    · subst e'
      obtain ⟨hz,hS,vs,r,m⟩:kvs.length ≤ sizeLine ∧ (p == sysModules) = false ∧ ∃ vs,KV kvs vs ∧ s.heap.DictOf (mixKind X.prog X.w) p vs:=I.hok p _ hx
      have hlen:kvs.length = vs.length:=Paired.length r
      exact wpAny_truthy_dict hS m (by omega) ⟨H,I.tok _,by rw [isEmpty_kv r]; exact q⟩
  | _ => exact (show False from e).elim
theorem op_add_str:OpR X (binaryOp .Add) (fun x y H Q => ∃ i j,x = .str i ∧ y = .str j ∧ i.length + j.length ≤ sizeLine ∧ Q (.str (i ++ j)) H):=by
  intro pins s σ H x y v u Q I rx ry h
  obtain ⟨i,j,rfl,rfl,hz,q⟩:=h
  obtain ⟨t,rfl⟩:=rx
  obtain ⟨t',rfl⟩:=ry
  exact add_str (fun t' tk => ⟨.str (i ++ j),H,I.tok _,⟨_,rfl⟩,q⟩) hz
theorem vals1 {x:V} {us:List Value} (r:Vals [x] us):∃ u,us = [u] ∧ RelV x u:=by
  cases r with
  | cons r1 r2 => cases r2; exact ⟨_,rfl,r1⟩
theorem vals2 {x y:V} {us:List Value} (r:Vals [x,y] us):∃ u w',us = [u,w'] ∧ RelV x u ∧ RelV y w':=by
  cases r with
  | cons r1 r2 =>
    cases r2 with
    | cons r3 r4 => cases r4; exact ⟨_,_,rfl,r1,r3⟩
def LenV (K:PySem.W.Frag) (x:V) (H:Hp) (n:Nat):Prop :=
  match x with
  | .str y => y.length ≤ sizeLine ∧ n = y.length
  | .byt y => y.size ≤ sizeLine ∧ n = y.size
  | .ref p => (∃ xs,SqL K H p xs ∧ n = xs.length) ∨ ∃ xs,SqT K H p xs ∧ n = xs.length
  | _ => False
theorem call_len:CallR X (.builtin "len") (fun xs H Q => ∃ x n,xs = [x] ∧ LenV X.K x H n ∧ Q (.int n) H):=by
  intro pins s σ H xs us Q I r h
  obtain ⟨x,n,rfl,e,q⟩:=h
  obtain ⟨u,rfl,rx⟩:=vals1 r
  have hl:=line63
  have hs:sizeLine = 16777216:=sizeLine_eq
  cases x with
  | str y =>
    obtain ⟨t,rfl⟩:=rx
    obtain ⟨hy,e'⟩:y.length ≤ sizeLine ∧ n = y.length:=e
    subst e'
    exact len_str (by omega) ⟨.int _,H,I.tok _,⟨_,rfl⟩,q⟩
  | byt y =>
    obtain ⟨t,rfl⟩:=rx
    obtain ⟨hy,e'⟩:y.size ≤ sizeLine ∧ n = y.size:=e
    subst e'
    exact PySem.W.len_bytes (by omega) ⟨.int _,H,I.tok _,⟨_,rfl⟩,q⟩
  | ref p =>
    cases rx
    have e':(∃ xs,SqL X.K H p xs ∧ n = xs.length) ∨ ∃ xs,SqT X.K H p xs ∧ n = xs.length:=e
    rcases e' with ⟨xs,hx,e'⟩ | ⟨xs,hx,e'⟩
    · subst e'
      obtain ⟨its,r',pl,hz⟩:=I.list hx
      have hlen:=r'.length
      exact Calls.call_len_list pl.isList (by simp only [List.size_toArray]; omega) ⟨.int xs.length,H,I.tok _,⟨_,by simp only [List.size_toArray]; rw [hlen]⟩,q⟩
    · subst e'
      obtain ⟨its,r',pl,hz⟩:=I.tuple hx
      have hlen:=r'.length
      exact len_tuple pl (by simp only [List.size_toArray]; omega) ⟨.int xs.length,H,I.tok _,⟨_,by simp only [List.size_toArray]; rw [hlen]⟩,q⟩
  | _ => exact (show False from e).elim
end
end L2
namespace L2
open PySem PySem.Spec PyProof.Rows
structure ObjM (h:Heap) (x dx C:Addr) (mA:Str → Option Value):Prop where
  obj:h.get? x = some (PySem.W.instObj C dx)
  ns:h.Ns1 dx mA
  ne:dx ≠ x
theorem lookIn_ns {h:Heap} {dx:Addr} {mA:Str → Option Value} (n:h.Ns1 dx mA):∃ od,h.get? dx = some od ∧ ∀ name,PySem.W.lookIn name od = some (mA name):=by
  obtain ⟨o,es,ep,ho,hd,hk,_,hm⟩:=n
  refine ⟨o,ho,fun name => ?_⟩
  have e:=hm name
  unfold nsFind findBy at e
  rw [← Array.find?_toList] at e
  unfold PySem.W.lookIn
  rw [hd]
  dsimp only
  split
  · rename_i y q
    rw [q] at e
    exact congrArg some e
  · rename_i q
    rw [q] at e
    have a:es.toList.any (·.refKey) = false:=by
      rw [List.any_eq_false]
      intro y hy
      obtain ⟨z,t,hkey⟩:=hk y (Array.mem_toList_iff.mp hy)
      simp [DictEntry.refKey,hkey]
    have a':¬ es.toList.any (·.refKey) = true:=by rw [a]; exact Bool.false_ne_true
    rw [if_neg a']
    exact congrArg some e
theorem ObjM.look {h:Heap} {x dx C:Addr} {mA:Str → Option Value} (I:ObjM h x dx C mA):∃ od,PySem.W.InstAt h x (PySem.W.instObj C dx) C (some od) ∧ ∀ name,PySem.W.lookIn name od = some (mA name) :=
  let ⟨od,ho,hl⟩:=lookIn_ns I.ns
  ⟨od,⟨I.obj,rfl,rfl,ho⟩,hl⟩
section
variable {prog:Program} {w:World} {A:Around} {E:Value → Shared → Prop} {s:Shared} {K:PySem.W.Frag} {x dx C f:Addr} {mA:Str → Option Value} {name:Str} {v:Value}
end
theorem RelO.none_of {o:Option Value} (r:RelO none o):o = none:=by
  cases o with
  | none => rfl
  | some u => exact (show False from r).elim
section
variable {P:Program} {w:World} {H H':Hp} {h h':Heap} {a C dx:Addr} {fs fs':List (Str × V)}
theorem ins_get (hok:HOk P w H h) (e:H a = some (.ins C dx fs)):∃ mA,ObjM h a dx C mA ∧ (∀ f,RelO (fs.lookup f) (mA f)) ∧ PySem.Within mA (fs.map (·.1)) ∧ fs.length ≤ 1000 ∧ H dx = some (.own a):=by
  obtain ⟨d,z,ne,ob,mA,n,r,q⟩:=(show ObjOk P w H h a (.ins C dx fs) from hok a _ e)
  exact ⟨mA,⟨ob,n,ne⟩,r,q,z,d⟩
end
structure Cls (K:PySem.W.Frag) (C:Addr):Prop where
  pg:PySem.W.plainGet K C Str.empty = true
  hd:PySem.W.hasDictIn K C = true
  po:PySem.W.plainOver K C = true
  sa:PySem.W.findIn K (.ref C) "__setattr__" = some (some (.builtin "object.__setattr__"))
theorem Cls.get {K:PySem.W.Frag} {C:Addr} (c:Cls K C) (f:Str):PySem.W.plainGet K C f = true:=c.pg
section
variable {X:Cx} {pins:List (Addr × Obj)} {σ:St} {H:Hp} {s:Shared} {a C dx:Addr} {fs:List (Str × V)} {f:Str} {v:V} {A:Around} {E:Value → Shared → Prop}
theorem Inv.made (I:Inv X pins σ H s):Inv X pins σ (upd (upd H s.heap.objs.size (.own (s.heap.objs.size + 1))) (s.heap.objs.size + 1) (.ins C s.heap.objs.size []))
    { s with heap:=(s.heap.push PySem.W.emptyDict).push (PySem.W.instObj C s.heap.objs.size) }:=by
  have e1:(s.heap.push PySem.W.emptyDict).get? s.heap.objs.size = some PySem.W.emptyDict:=Heap.get?_push_size s.heap rfl
  have e2:((s.heap.push PySem.W.emptyDict).push (PySem.W.instObj C s.heap.objs.size)).get? (s.heap.objs.size + 1) = some (PySem.W.instObj C s.heap.objs.size):=by
    have:=Heap.get?_push_size (s.heap.push PySem.W.emptyDict) (o:=PySem.W.instObj C s.heap.objs.size) rfl
    rwa [Heap.size_push] at this
  have e3:(s.heap.push PySem.W.emptyDict).Ns s.heap.objs.size (fun _ => none):=⟨PySem.W.emptyDict,#[],_,e1,rfl,(fun e he => absurd he (by simp)),fun _ => rfl⟩
  have I1:=I.laid (a:=s.heap.objs.size) (o:=.own (s.heap.objs.size + 1)) (h':=s.heap.push PySem.W.emptyDict) (t':=s.toks) (fun b u q => Heap.get?_push_of_some _ q) (Nat.le_refl _) ⟨_,e1⟩
  refine I1.laid (a:=s.heap.objs.size + 1) (o:=.ins C s.heap.objs.size []) (t':=s.toks) (fun b u q => Heap.get?_push_of_some _ q) (Nat.le_of_eq (Heap.size_push _ _)) ?_
  have ne:s.heap.objs.size ≠ s.heap.objs.size + 1:=Nat.ne_of_lt (Nat.lt_succ_self _)
  refine ⟨by rw [upd_ne ne,upd_same],Nat.zero_le _,ne,e2,fun _ => none,(Heap.Ns1.of_empty e3).at fun o q => Heap.get?_push_of_some _ q,fun _ => True.intro,fun y hy => absurd rfl hy⟩
theorem attr_of {prog:Program} {w:World} {env:Env} {e:Expr} {f:Str} {pos:Pos} {s:Shared} {Q:Value → Shared → Prop} (hb:attributeBase e f env (eval e env) = eval e env)
    (h:wpAny (model prog w) A (eval e env) (fun o s₁ => wpAny (model prog w) A (getAttr o f true) Q E s₁) E s):wpAny (model prog w) A (eval (.Attribute e f pos) env) Q E s :=
  Attribute_any_ h (by rw [arm_eval_Attribute,hb])
end
section
variable {X:Cx} {o e value:Expr} {f:Str} {pos pos' tpos:Pos} {ta tv:TE}
end
section
variable {X:Cx} {pins:List (Addr × Obj)} {σ:St} {H:Hp} {s:Shared} {A:Around} {E:Value → Shared → Prop} {Q:Value → Shared → Prop} {c:Value} {b:Bool}
inductive TyOf (K:PySem.W.Frag) (H:Hp):V → Value → Prop where
  | non:TyOf K H .non (.type "NoneType")
  | bl (x:Bool):TyOf K H (.bl x) (.type "bool")
  | int (i:Int):TyOf K H (.int i) (.type "int")
  | str (x:Str):TyOf K H (.str x) (.type "str")
  | flt (x:UInt64):TyOf K H (.flt x) (.type "float")
  | lst {a:Addr} {xs:List V} (e:H a = some (.lst xs)):TyOf K H (.ref a) (.type "list")
  | frz {a:Addr} {o:Obj} {xs:List V} (e:H a = some (.frz o (.lst xs))):TyOf K H (.ref a) (.type "list")
  | tup {a:Addr} {xs:List V} (e:H a = some (.tup xs)):TyOf K H (.ref a) (.type "tuple")
  | dK {a:Addr} {kvs:List (Key × V)} (e:H a = some (.dK kvs)):TyOf K H (.ref a) (.type "dict")
  | dT {a:Addr} {kvs:List (List Key × V)} (e:H a = some (.dT kvs)):TyOf K H (.ref a) (.type "dict")
  | ins {a C dx:Addr} {fs:List (Str × V)} (e:H a = some (.ins C dx fs)) (cl:Cls K C) (ha:PySem.W.findIn K (.ref C) "__class__" = some (some (.builtin "object.__class__")))
      (hn:PySem.W.specialIn K (.builtin "object.__class__") "__get__" = some (some (.builtin "getset_descriptor.__get__"))) (htk:PySem.W.takesIn K (.builtin "object.__class__") = some true)
      (hm:PySem.W.mroIn K C (.type "object") = some true):TyOf K H (.ref a) (.ref C)
theorem isinst_ok {x:V} {u t:Value} (I:Inv X pins σ H s) (rx:RelV x u) (ty:TyOf X.K H x t) (e:PySem.W.kitOne X.K t c = some b) (h:∀ tk,Q (.bool b) { s with toks:=tk }) :
    wpAny (model X.prog X.w) A (call (.builtin "isinstance") [u,c]) Q E s:=by
  cases ty with
  | non => cases (show u = Value.none from rx); exact PySem.W.kia_one PySem.W.kitx_none I.kIn True.intro e (fun z => nomatch z) h
  | bl y => cases (show u = Value.bool y from rx); exact PySem.W.kia_one PySem.W.kitx_bool I.kIn True.intro e (fun z => nomatch z) h
  | int i => obtain ⟨t,q⟩:=(show ∃ t,u = Value.int i t from rx); cases q; exact PySem.W.kia_one PySem.W.kitx_int I.kIn True.intro e (fun z => nomatch z) h
  | str y => obtain ⟨t,q⟩:=(show ∃ t,u = Value.str y t from rx); cases q; exact PySem.W.kia_one PySem.W.kitx_str I.kIn True.intro e (fun z => nomatch z) h
  | flt y => obtain ⟨t,q⟩:=(show ∃ t,u = Value.float y t from rx); cases q; exact PySem.W.kia_one PySem.W.kitx_float I.kIn True.intro e (fun z => nomatch z) h
  | @lst a xs ea =>
    cases (show u = Value.ref a from rx)
    obtain ⟨_,_,n,_,h1⟩:=(show ObjOk X.prog X.w H s.heap a (.lst xs) from I.hok a _ ea)
    exact PySem.W.kia_one PySem.W.kitx_list I.kIn ⟨_,h1,rfl⟩ e (fun z => nomatch z) h
  | @frz a ob xs ea =>
    cases (show u = Value.ref a from rx)
    obtain ⟨_,_,_,n,_,h1⟩:=(show ObjOk X.prog X.w H s.heap a (.frz ob (.lst xs)) from I.hok a _ ea)
    exact PySem.W.kia_one PySem.W.kitx_list I.kIn ⟨_,h1,rfl⟩ e (fun z => nomatch z) h
  | @tup a xs ea =>
    cases (show u = Value.ref a from rx)
    obtain ⟨_,_,_,p⟩:=(show ObjOk X.prog X.w H s.heap a (.tup xs) from I.hok a _ ea)
    obtain ⟨o,h1,h2,_⟩:=p
    exact PySem.W.kia_one PySem.W.kitx_tuple I.kIn ⟨o,h1,h2⟩ e (fun z => nomatch z) h
  | @dK a kvs ea =>
    cases (show u = Value.ref a from rx)
    obtain ⟨_,_,vs,_,p⟩:=(show ObjOk X.prog X.w H s.heap a (.dK kvs) from I.hok a _ ea)
    obtain ⟨o,es,ep,h1,h2,_⟩:=p
    exact PySem.W.kia_one PySem.W.kitx_dict I.kIn ⟨o,h1,h2.1⟩ e (fun z => nomatch z) h
  | @dT a kvs ea =>
    cases (show u = Value.ref a from rx)
    obtain ⟨_,_,xs,_,o,es,ep,h1,h2,_⟩:=(show ObjOk X.prog X.w H s.heap a (.dT kvs) from I.hok a _ ea)
    exact PySem.W.kia_one PySem.W.kitx_dict I.kIn ⟨o,h1,h2.1⟩ e (fun z => nomatch z) h
  | @ins a C dx fs ea cl ha hn htk hm =>
    cases (show u = Value.ref a from rx)
    obtain ⟨mA,O,_⟩:=ins_get I.hok ea
    obtain ⟨od,J,_⟩:=O.look
    exact PySem.W.kia_one (PySem.W.kitx_own (cl.get _) cl.hd ha hn htk hm) I.kIn J e (fun z => nomatch z) h
end
end L2
namespace L2
open PySem PySem.Spec PyProof.Rows
structure Room (k:Nat) (A:Around):Prop where
  hd:A.handled = none
  dp:A.depth + 3 * k + 5 < recursionLimit
  un:A.units + 16 * k + 200 < cLine
theorem Room.mono {j k:Nat} {A:Around} (r:Room k A) (h:j ≤ k):Room j A:=⟨r.hd,by have:=r.dp; omega,by have:=r.un; omega⟩
theorem Room.deeper {k:Nat} {A:Around} (r:Room (k + 1) A) (env:Env):Room k (A.deeper env) :=
  ⟨r.hd,by have:=r.dp; show A.depth + 1 + 3 * k + 5 < _; omega,by have:=r.un; show A.units + 3 + 16 * k + 200 < _; omega⟩
theorem Room.in1 {k:Nat} {A:Around} (r:Room (k + 1) A):Room k A.in1 :=
  ⟨r.hd,by have:=r.dp; show A.depth + 3 * k + 5 < _; omega,by have:=r.un; show A.units + 1 + 16 * k + 200 < _; omega⟩
theorem make_depth {A:Around} {C:Addr} {us:List Value} {kw:List (Str × Value)}:(A.under (.builtin "type.__call__" ⟨.ref C :: us,kw⟩)).depth = A.depth + 1:=by
  first | rfl | simp [Around.under,Code.weight,Code.isCreation,Code.isGuard,Code.isCaller,Code.frames,Code.isFrame,guardIds]
theorem make_units {A:Around} {C:Addr} {us:List Value} {kw:List (Str × Value)}:(A.under (.builtin "type.__call__" ⟨.ref C :: us,kw⟩)).units = A.units + 1:=by
  first | rfl | simp [Around.under,Code.cUnits,Code.frames,Code.isFrame]
theorem Room.make {k:Nat} {A:Around} (r:Room (k + 1) A) (C:Addr) (us:List Value) (kw:List (Str × Value)):Room k (A.under (.builtin "type.__call__" ⟨.ref C :: us,kw⟩)) :=
  ⟨r.hd,by have:=r.dp; rw [make_depth]; omega,by have:=r.un; rw [make_units]; omega⟩
theorem Room.depth {k:Nat} {A:Around} (r:Room k A):A.depth < recursionLimit:=by have:=r.dp; omega
theorem Room.units {k:Nat} {A:Around} (r:Room k A):A.units + 64 < cLine:=by have:=r.un; omega
theorem Room.units0 {k:Nat} {A:Around} (r:Room k A):A.units < cLine:=by have:=r.un; omega
def tNil:TA:=fun _ H Q => Q [] H
def tCons (ta:TE) (tr:TA):TA:=fun σ H Q => ta σ H fun x H1 => tr σ H1 fun xs H2 => Q (x :: xs) H2
section
variable {X:Cx} {e:Expr} {es:List Expr} {te:TE} {t:TA} {pos:Pos}
theorem pa_nil:PA X [] tNil:=fun _ _ _ _ H Q I h => Calls.spliced_nil ⟨[],H,I,.nil,h⟩
theorem pa_cons (ha:PE X e te) (hr:PA X es t) (hs:starEach (e :: es) X.env = (false,eval e X.env) :: starEach es X.env:=by rfl):PA X (e :: es) (tCons te t):=by
  intro pos pins s σ H Q I h
  rw [hs]
  show wpAny _ _ (spliced ((false,eval e X.env) :: backTo pos (starEach es X.env))) _ _ s
  refine Calls.spliced_cons (thn (ha pins s σ H _ I h) fun u s1 ⟨x,H1,I1,r1,q1⟩ => ?_)
  exact thn (hr pos pins s1 σ H1 _ I1 q1) fun us s2 ⟨xs,H2,I2,r2,q2⟩ => ⟨x :: xs,H2,I2,.cons r1 r2,q2⟩
def tTup (t:TA):TE:=fun σ H Q => t σ H fun xs H1 => xs.length ≤ sizeLine ∧ ∀ p,H1 p = none → Q (.ref p) (upd H1 p (.tup xs))
def tLst (t:TA):TE:=fun σ H Q => t σ H fun xs H1 => xs.length ≤ sizeLine ∧ ∀ p,H1 p = none → Q (.ref p) (upd H1 p (.lst xs))
theorem pe_tup {x1} (h:PA X es t):PE X (.Tuple es x1 pos) (tTup t):=by
  intro pins s σ H Q I hq
  refine wpAny_Tuple_spliced (thn (h pos pins s σ H _ I hq) fun us s1 ⟨xs,H1,I1,r,z,q⟩ => ⟨by rw [← r.length]; exact z,?_⟩)
  have hf:H1 s1.heap.objs.size = none:=I1.hok.fresh (Nat.le_refl _)
  refine ⟨.ref s1.heap.objs.size,upd H1 s1.heap.objs.size (.tup xs),I1.laid (t':=s1.toks) (fun b u e => Heap.get?_push_of_some _ e) (Nat.le_refl _) ?_,rfl,q _ hf⟩
  exact ⟨z,us,r,⟨_,Heap.get?_push_size _ rfl,rfl,_,rfl⟩⟩
theorem pe_lst (h:PA X es t):PE X (.List es pos) (tLst t):=by
  intro pins s σ H Q I hq
  refine wpAny_List_spliced (thn (h pos pins s σ H _ I hq) fun us s1 ⟨xs,H1,I1,r,z,q⟩ => ⟨by rw [← r.length]; exact z,?_⟩)
  have hf:H1 s1.heap.objs.size = none:=I1.hok.fresh (Nat.le_refl _)
  refine ⟨.ref s1.heap.objs.size,upd H1 s1.heap.objs.size (.lst xs),I1.laid (t':=s1.toks) (fun b u e => Heap.get?_push_of_some _ e) (Nat.le_refl _) ?_,rfl,q _ hf⟩
  exact ⟨z,us,0,r,Heap.get?_push_size _ rfl⟩
end
abbrev Sp:=List V → Hp → VK → XK → Prop
abbrev CXT:=List Env → Hp → Shared → XK → Value → Shared → Prop
structure Env0 (P:Program) (w:World) (K:PySem.W.Frag) (mg:Str → Option Value) (base:Heap) (A:Around) (outer:List Env) (s:Shared) (H:Hp):Prop where
  frames:A.frames = some outer
  mod:Mod K mg base
  bs:∀ b o,base.get? b = some o → s.heap.get? b = some o ∧ H b = none
  bsz:base.objs.size ≤ s.heap.objs.size
  funs:s.heap.FunFrames base outer
  frf:∀ b ∈ frs outer,H b = none
  hok:HOk P w H s.heap
  bare:AllBare s.gens
def CE (outer:List Env) (P:Program) (w:World) (H:Hp) (s:Shared) (Q:VK) (u:Value) (s':Shared):Prop :=
  ∃ v H',s'.os = s.os ∧ AllBare s'.gens ∧ Un (frs outer) [] H H' s.heap s'.heap ∧ HOk P w H' s'.heap ∧ RelV v u ∧ Q v H'
def CR (CX:CXT) (outer:List Env) (P:Program) (w:World) (H:Hp) (s:Shared) (Q:VK) (E:XK) (r:Result) (s':Shared):Prop :=
  match r with
  | .ok (.ret u) => CE outer P w H s Q u s'
  | .ok _ => False
  | .error e => CX outer H s E e s'
structure FnOk (P:Program) (w:World) (K:PySem.W.Frag) (mg:Str → Option Value) (base:Heap) (CX:CXT) (k:Nat) (f:Addr) (fd:FuncData) (ps:List Str) (sp:Sp):Prop where
  len:∀ vs H Q E,sp vs H Q E → vs.length = ps.length
  run:∀ (A:Around) (outer:List Env) (s:Shared) (H:Hp) (args:Args) (us:List Value) (vs:List V) (Q:VK) (E:XK),Room k A → Env0 P w K mg base A outer s H → BindsTo s fd args (ps.zip us) → Vals vs us → sp vs H Q E →
    codeAny (model P w) A (.call (.ref f) args) (CR CX outer P w H s Q E) s
theorem FnOk.mono {P:Program} {w:World} {K:PySem.W.Frag} {mg:Str → Option Value} {base:Heap} {CX:CXT} {j k:Nat} {f:Addr} {fd:FuncData} {ps:List Str} {sp:Sp} (F:FnOk P w K mg base CX j f fd ps sp) (h:j ≤ k) :
    FnOk P w K mg base CX k f fd ps sp:=⟨F.len,fun A outer s H args us vs Q E hr => F.run A outer s H args us vs Q E (hr.mono h)⟩
theorem FnOk.imp {P:Program} {w:World} {K:PySem.W.Frag} {mg:Str → Option Value} {base:Heap} {CX:CXT} {k:Nat} {f:Addr} {fd:FuncData} {ps:List Str} {sp sp':Sp} (F:FnOk P w K mg base CX k f fd ps sp)
    (h:∀ vs H Q E,sp' vs H Q E → sp vs H Q E):FnOk P w K mg base CX k f fd ps sp' :=
  ⟨fun vs H Q E q => F.len vs H Q E (h _ _ _ _ q),fun A outer s H args us vs Q E hr he hb hv hs => F.run A outer s H args us vs Q E hr he hb hv (h _ _ _ _ hs)⟩
theorem Env0.make {P:Program} {w:World} {K:PySem.W.Frag} {mg:Str → Option Value} {base:Heap} {A:Around} {outer:List Env} {s:Shared} {H:Hp} (e:Env0 P w K mg base A outer s H) (C:Addr) (us:List Value) (kw:List (Str × Value)) :
    Env0 P w K mg base (A.under (.builtin "type.__call__" ⟨.ref C :: us,kw⟩)) outer s H:=⟨by first | exact e.frames | (simpa [Around.under,Code.envs,Code.isFrame,pushEnvs] using e.frames),e.mod,e.bs,e.bsz,e.funs,e.frf,e.hok,e.bare⟩
theorem Env0.in1 {P:Program} {w:World} {K:PySem.W.Frag} {mg:Str → Option Value} {base:Heap} {A:Around} {outer:List Env} {s:Shared} {H:Hp} (e:Env0 P w K mg base A outer s H) :
    Env0 P w K mg base A.in1 outer s H:=⟨e.frames,e.mod,e.bs,e.bsz,e.funs,e.frf,e.hok,e.bare⟩
section
variable {X:Cx} {pins:List (Addr × Obj)} {σ:St} {H:Hp} {s s':Shared}
theorem Inv.env0 (I:Inv X pins σ H s):Env0 X.prog X.w X.K X.mg X.base X.A X.stack s H :=
  ⟨I.ok.frames,I.ok.mod,I.bs,Nat.le_trans I.ok.bsz I.sz,I.stack,I.stkFree,I.hok,I.bare⟩
theorem Inv.after {Q:VK} {u:Value} (I:Inv X pins σ H s) (h:CE X.stack X.prog X.w H s Q u s'):EP X pins σ Q u s':=by
  obtain ⟨v,H',os,bare,un,hok,r,q⟩:=h
  obtain ⟨hh,g,d,t,os'⟩:=s'
  obtain rfl:os' = s.os:=os
  exact ⟨v,H',I.call (h':=hh) (g':=g) (d':=d) (t':=t) (ch:=[]) un hok bare (fun b z => absurd z (by simp)),r,q⟩
end
def tCall (sp:Sp) (dvs:List V) (E:XK) (t:TA):TE:=fun σ H Q => t σ H fun vs H1 => sp (vs ++ dvs) H1 Q E
def Binds (K:PySem.W.Frag) (fd:FuncData) (ps:List Str) (ds:List Value):Prop :=
  ∀ (s:Shared) (us:List Value),K.In s.heap → (us ++ ds).length = ps.length → BindsTo s fd ⟨us,[]⟩ (ps.zip (us ++ ds))
theorem Binds.all {K:PySem.W.Frag} {fd:FuncData} {ps:List Str} (h:∀ us:List Value,us.length = ps.length → bindArgs fd ⟨us,[]⟩ = pure (ps.zip us)):Binds K fd ps []:=fun s us _ hl => by
  rw [List.append_nil] at hl ⊢
  exact .of_eq (h us hl)
def Passes (CX:CXT) (X:Cx) (E:XK):Prop:=∀ (pins:List (Addr × Obj)) (σ:St) (H:Hp) (s:Shared) (e:Value) (s':Shared),Inv X pins σ H s → CX X.stack H s E e s' → X.xe e s'
section
variable {X:Cx} {CX:CXT} {k:Nat} {f C:Addr} {fd:FuncData} {ps:List Str} {sp:Sp} {dvs:List V} {ds:List Value} {E:XK} {x m:Str} {p pos apos:Pos} {e o:Expr} {es:List Expr} {ta:TE} {t:TA}
theorem run_fn {pins:List (Addr × Obj)} {σ:St} {H:Hp} {s:Shared} {Q:VK} {us:List Value} {vs:List V} (F:FnOk X.prog X.w X.K X.mg X.base CX k f fd ps sp) (hr:Room k X.A) (hb:Binds X.K fd ps ds) (hd:Vals dvs ds) (hx:Passes CX X E)
    (I:Inv X pins σ H s) (r:Vals vs us) (h:sp (vs ++ dvs) H Q E):wpAny (model X.prog X.w) X.A (call (.ref f) us) (EP X pins σ Q) X.xe s:=by
  have r2:Vals (vs ++ dvs) (us ++ ds):=r.append hd
  have hl:(us ++ ds).length = ps.length:=by rw [← r2.length]; exact F.len _ _ _ _ h
  refine wpAny_call (codeAny_mono (F.run X.A X.stack s H ⟨us,[]⟩ (us ++ ds) (vs ++ dvs) Q E hr I.env0 (hb s us I.kIn hl) r2 h) fun r s' hq => ?_)
  cases r with
  | error e => exact hx pins σ H s e s' I hq
  | ok fl =>
    cases fl with
    | ret u => exact I.after hq
    | next => exact False.elim hq
    | brk => exact False.elim hq
    | cont => exact False.elim hq
theorem pe_call (F:FnOk X.prog X.w X.K X.mg X.base CX k f fd ps sp) (hr:Room k X.A) (hg:Gl X x) (hm:X.mg x = some (.ref f)) (hk:PySem.W.keepIn X.K (.ref f) = true) (hb:Binds X.K fd ps ds) (hd:Vals dvs ds) (hx:Passes CX X E)
    (ha:PA X (e :: es) t) (hdb:(x == ("__debug__" : Str)) = false:=by decide) (he:starEach (e :: es) X.env = (false,eval e X.env) :: starEach es X.env:=by rfl) (hpl:(backTo pos (starEach es X.env)).any (·.1) = false:=by rfl) :
    PE X (.Call (.Name x p) (e :: es) [] pos) (tCall sp dvs E t):=by
  intro pins s σ H Q I h
  refine wpAny_Call_Name_kw (ld_glob I hg hm ?_ hdb)
  refine PySem.W.callWith_K (h₀:=X.base) I.ok.mod.kin hk (thn (ha pos pins s σ H _ I h) fun us s1 ⟨vs,H1,I1,r,q⟩ => ⟨I1.kIn,?_⟩) he hpl
  exact run_fn F hr hb hd hx I1 r q
end
section
variable {X:Cx} {CX:CXT} {k:Nat} {f C:Addr} {fd:FuncData} {ps ks:List Str} {sp:Sp} {E:XK} {x m:Str} {p pos apos kpos:Pos} {e o:Expr} {es:List Expr} {kws:List Keyword} {te ta:TE} {t tk:TA} {nm:Option Str}
variable {g:List Value → List Value → List Value} {gV:List V → List V → List V}
end
structure FnScope (N P:List Str) (sc:Scope):Prop where
  kind:sc.kind = .function
  co:sc.isCoroutine = false
  gen:sc.isGenerator = false
  nd:N.Nodup
  pre:N.take P.length = P
  par:∀ x ∈ P,sc.names.lookup x = some .local ∨ sc.names.lookup x = some .cell
  nofree:∀ y ∈ sc.names,y.2 ≠ .free
theorem bindL_out {kindOf:Str → Option NameKind} {x:Str}:∀ {binds:List (Str × Value)} {m:Str → Option Value},(∀ v,(x,v) ∉ binds) → bindL kindOf binds m x = m x
  | [],_,_ => rfl
  | (n,v) :: r,m,h => by
    unfold bindL
    rw [bindL_out fun w hw => h w (List.mem_cons_of_mem _ hw)]
    split
    · have:x ≠ n:=by rintro rfl; exact h v List.mem_cons_self
      simp [this]
    · rfl
theorem bindC_out {kindOf:Str → Option NameKind} {x:Str}:∀ {binds:List (Str × Value)} {m:Str → Option Value},(∀ v,(x,v) ∉ binds) → bindC kindOf binds m x = m x
  | [],_,_ => rfl
  | (n,v) :: r,m,h => by
    unfold bindC
    rw [bindC_out fun w hw => h w (List.mem_cons_of_mem _ hw)]
    split
    · rfl
    · have:x ≠ n:=by rintro rfl; exact h v List.mem_cons_self
      simp [this]
theorem bindL_get {kindOf:Str → Option NameKind} {x:Str} {v:Value}:∀ {P:List Str} {vs:List Value} {i:Nat} {m:Str → Option Value},P.Nodup → P[i]? = some x → vs[i]? = some v → kindOf x = some .local →
    bindL kindOf (P.zip vs) m x = some v
  | [],_,_,_,_,h,_,_ => by simp at h
  | _ :: _,[],_,_,_,_,h,_ => by simp at h
  | p :: P,w :: vs,0,m,nd,h1,h2,hk => by
    simp at h1 h2; subst h1; subst h2
    show bindL kindOf ((p,w) :: P.zip vs) m p = _
    unfold bindL
    rw [bindL_out fun v hv => (List.nodup_cons.mp nd).1 (List.of_mem_zip hv).1,if_pos hk]
    simp
  | p :: P,w :: vs,i + 1,m,nd,h1,h2,hk => by
    show bindL kindOf ((p,w) :: P.zip vs) m x = _
    unfold bindL
    exact bindL_get (i:=i) (List.nodup_cons.mp nd).2 (by simpa using h1) (by simpa using h2) hk
theorem bindC_get {kindOf:Str → Option NameKind} {x:Str} {v:Value}:∀ {P:List Str} {vs:List Value} {i:Nat} {m:Str → Option Value},P.Nodup → P[i]? = some x → vs[i]? = some v → kindOf x ≠ some .local →
    bindC kindOf (P.zip vs) m x = some v
  | [],_,_,_,_,h,_,_ => by simp at h
  | _ :: _,[],_,_,_,_,h,_ => by simp at h
  | p :: P,w :: vs,0,m,nd,h1,h2,hk => by
    simp at h1 h2; subst h1; subst h2
    show bindC kindOf ((p,w) :: P.zip vs) m p = _
    unfold bindC
    rw [bindC_out fun v hv => (List.nodup_cons.mp nd).1 (List.of_mem_zip hv).1,if_neg hk]
    simp
  | p :: P,w :: vs,i + 1,m,nd,h1,h2,hk => by
    show bindC kindOf ((p,w) :: P.zip vs) m x = _
    unfold bindC
    exact bindC_get (i:=i) (List.nodup_cons.mp nd).2 (by simpa using h1) (by simpa using h2) hk
def start (N:List Str) (vs:List V):St:=vs.map some ++ List.replicate (N.length - vs.length) none
def cxOf (CX:CXT) (P:Program) (w:World) (K:PySem.W.Frag) (mg:Str → Option Value) (base:Heap) (N:List Str) (qual:Str) (scope:Scope) (f:Addr) (cd:Value) (A:Around) (outer:List Env) (s:Shared) (H:Hp) (E:XK):Cx where
  prog:=P
  w:=w
  K:=K
  mg:=mg
  base:=base
  A:=A.deeper (envOfC qual scope s.heap.objs.size f cd)
  N:=N
  s₀:=s
  H₀:=H
  env:=envOfC qual scope s.heap.objs.size f cd
  outer:=outer
  stack:=envOfC qual scope s.heap.objs.size f cd :: outer
  ex:=[]
  calm:=true
  fn:=fun _ => true
  pn:=[]
  xe:=fun e s' => wpAny (model P w) (A.deeper (envOfC qual scope s.heap.objs.size f cd)) (leaving (envOfC qual scope s.heap.objs.size f cd) e) (fun _ s'' => CX outer H s E e s'') (fun e' s'' => CX outer H s E e' s'') s'
theorem cell_has {sc:Scope} {n:Nat} {x:Str} (h:sc.names.lookup x = some .cell):∃ c,(cellsFrom n sc.names []).lookup x = some c:=by
  have q:=PySem.W.cellsFrom_some sc.names n [] (.inl h)
  exact Option.isSome_iff_exists.mp q
theorem inv_start {CX:CXT} {P:Program} {w:World} {K:PySem.W.Frag} {mg:Str → Option Value} {base:Heap} {N ps:List Str} {qual:Str} {scope:Scope} {f:Addr} {cd:Value} {A:Around} {outer:List Env} {s s1:Shared} {H:Hp} {E:XK} {us:List Value} {vs:List V}
    (S:FnScope N ps scope) (hd:A.handled = none) (e0:Env0 P w K mg base A outer s H) (hl:vs.length = ps.length) (r:Vals vs us)
    (x:InCallC s s.heap.objs.size (bindL (envOfC qual scope s.heap.objs.size f cd).kindOf (ps.zip us) fun _ => none) (cellsFrom (s.heap.objs.size + 1) scope.names []) (bindC (envOfC qual scope s.heap.objs.size f cd).kindOf (ps.zip us) fun _ => none) s1) :
    Inv (cxOf CX P w K mg base N qual scope f cd A outer s H E) [] (start N vs) H s1:=by
  have hpl:ps.length ≤ N.length:=by have:=congrArg List.length S.pre; rw [List.length_take] at this; omega
  obtain ⟨h1,tk,rfl,hk⟩:=x.done
  have noA:∀ b:Addr,b ∉ (cxOf CX P w K mg base N qual scope f cd A outer s H E).ex:=fun b z => absurd (show b ∈ ([]:List Addr) from z) (by simp)
  refine ⟨⟨e0.mod,S.kind,rfl,rfl,Nat.le_refl _,fun y z c h1 h2 => ?_,fun y hy => ?_,fun y c _ h => ?_,fun _ => hd,Around.frames_deeper e0.frames,.inr ⟨rfl,rfl⟩,fun b z => absurd z (noA b),e0.bs,e0.bsz,fun b _ _ => noA b,fun b z => absurd z (noA b),e0.funs,e0.frf⟩,
    rfl,e0.bare,Un.kept hk,⟨_,x.toInCall.ns,fun i y v h1 h2 h3 => ?_⟩,fun y c h => ⟨_,x.cell y c h⟩,e0.hok.fresh (Nat.le_refl _),fun y c h => ?_,fun p hp => absurd (show p ∈ ([]:List (Addr × Obj)) from hp) (by simp),e0.hok.kept hk,?_⟩
  · exact name_of_addr x.apart (PySem.mem_of_lookup h1) (PySem.mem_of_lookup h2)
  · have hy:scope.names.lookup y = some .cell ∨ scope.names.lookup y = some .free:=hy
    rcases hy with hy | hy
    · exact cell_has hy
    · exact absurd rfl (S.nofree _ (PySem.mem_of_lookup hy))
  · exact Nat.le_of_lt (x.above y c (PySem.mem_of_lookup h))
  · have hi:i < vs.length:=by
      unfold start at h2
      by_cases hi:i < vs.length
      · exact hi
      · rw [List.getElem?_append_right (by simpa using hi)] at h2
        rw [List.getElem?_replicate] at h2
        split at h2 <;> cases h2
    have ha:vs[i]? = some v:=by
      unfold start at h2
      rw [List.getElem?_append_left (by simpa using hi),List.getElem?_map] at h2
      cases e:vs[i]? with
      | none => rw [e] at h2; cases h2
      | some a => rw [e] at h2; cases h2; rfl
    obtain ⟨u,hu,rv⟩:=r.get ha
    have hp:ps[i]? = some y:=by
      rw [← S.pre,List.getElem?_take_of_lt (by omega)]; exact h1
    have ndP:ps.Nodup:=by rw [← S.pre]; exact S.nd.sublist (List.take_sublist _ _)
    refine ⟨u,rv,?_⟩
    rcases S.par y (List.mem_of_getElem? hp) with k | k
    · exact .inl ⟨k,bindL_get ndP hp hu k⟩
    · obtain ⟨c,e⟩:=cell_has (n:=s.heap.objs.size + 1) k
      refine .inr ⟨.inl k,c,e,?_⟩
      have q:=x.cell y c e
      rw [bindC_get ndP hp hu (by show scope.names.lookup y ≠ _; rw [k]; decide)] at q
      exact q
  · exact e0.hok.fresh (Nat.le_of_lt (x.above y c (PySem.mem_of_lookup h)))
  · unfold start
    show _ = N.length
    rw [List.length_append,List.length_map,List.length_replicate]
    omega
theorem fn_of {CX:CXT} {P:Program} {w:World} {K:PySem.W.Frag} {mg:Str → Option Value} {base:Heap} {k:Nat} {f:Addr} {name qual:Str} {params:Arguments} {body:List Stmt} {scope:Scope} {dV kV doc pm cdv ct oc:Value} {an od:Option Addr}
    {osl:Array (Option Value)} {N ps:List Str} {sp:Sp} (lk:K.lookup f = some ⟨oc,od,.func (PySem.W.fnOf name qual params body scope dV kV doc pm an cdv ct),osl⟩) (hcd:PySem.W.codeIn K cdv qual = true) (S:FnScope N ps scope)
    (len:∀ vs H Q E,sp vs H Q E → vs.length = ps.length)
    (hbody:∀ (A:Around) (outer:List Env) (s:Shared) (H:Hp) (vs:List V) (Q:VK) (E:XK),Room k (A.deeper (envOfC qual scope s.heap.objs.size f cdv)) → sp vs H Q E →
      ∃ t,PSs (cxOf CX P w K mg base N qual scope f cdv A outer s H E) body t ∧ t { nx:=fun _ H' => Q .non H',rt:=Q } (start N vs) H) :
    FnOk P w K mg base CX (k + 1) f (PySem.W.fnOf name qual params body scope dV kV doc pm an cdv ct) ps sp:=by
  refine ⟨len,fun A outer s H args us vs Q E hr e0 hb r hsp => ?_⟩
  have hl:=len _ _ _ _ hsp
  have KX:K.In s.heap:=e0.mod.kin.keeps fun b o e => (e0.bs b o e).1
  have lim:s.heap.NoLimit:=e0.mod.nolimit.keeps fun b o e => (e0.bs b o e).1
  have hkind:∀ y ∈ ps.zip us,scope.names.lookup y.1 = some .local ∨ (scope.names.lookup y.1 = some .cell ∧ ((cellsFrom (s.heap.objs.size + 1) scope.names []).lookup y.1).isSome = true):=fun ⟨n,v⟩ hy => by
    rcases S.par n (List.of_mem_zip hy).1 with q | q
    · exact .inl q
    · exact .inr ⟨q,PySem.W.cellsFrom_some _ _ _ (.inl q)⟩
  refine codeAny_call_function hr.depth (KX _ _ lk) rfl S.co S.gen rfl (PySem.W.codeRec_of KX hcd) (hb _ _ _ _ ?_)
  refine wpAny_newFunctionEnv_cells S.kind hkind fun env he s1 x => ?_
  subst he
  refine ⟨lim.keeps x.toInCall.keep,codeAny_func ?_⟩
  obtain ⟨t,ht,hq⟩:=hbody A outer s H vs Q E (hr.deeper _) hsp
  have I:Inv (cxOf CX P w K mg base N qual scope f cdv A outer s H E) [] (start N vs) H s1:=inv_start S hr.hd e0 hl r x
  refine wpAny_mono (ht [] s1 (start N vs) H _ I hq) (fun fl s' hs => ?_) fun e s' hs => hs
  have fin:∀ {σ':St} {H':Hp} {v:V} {u:Value},Inv (cxOf CX P w K mg base N qual scope f cdv A outer s H E) [] σ' H' s' → RelV v u → Q v H' → CE outer P w H s Q u s' :=
    fun {σ' H' v u} J rv q => ⟨v,H',J.os,J.bare,J.base,J.hok,rv,q⟩
  cases fl with
  | ret u =>
    obtain ⟨v,σ',H',J,rv,q⟩:=hs
    exact fin J rv q
  | next =>
    obtain ⟨σ',H',J,q⟩:=hs
    exact fin (v:=V.non) (u:=Value.none) J rfl q
  | brk =>
    obtain ⟨_,_,_,q⟩:=hs
    exact False.elim q
  | cont =>
    obtain ⟨_,_,_,q⟩:=hs
    exact False.elim q
end L2
namespace L2
open PySem PySem.Spec PyProof.Rows
section
variable {X:Cx} {x:Str} {p pos:Pos} {e:Expr} {es:List Expr} {t:TA} {id T:String} {r:List V → Hp → VK → Prop}
def tCB (r:List V → Hp → VK → Prop) (t:TA):TE:=fun σ H Q => t σ H fun vs H1 => r vs H1 Q
theorem pe_callB (hc:CallR X (.builtin id) r) (hg:Gl X x) (hm:X.mg x = none) (hv:bootBuiltins x = some (.builtin id)) (ha:PA X (e :: es) t) (hn:x ≠ "__name__" := by decide) (hdb:(x == ("__debug__" : Str)) = false:=by decide)
    (he:starEach (e :: es) X.env = (false,eval e X.env) :: starEach es X.env:=by rfl) (hpl:(backTo pos (starEach es X.env)).any (·.1) = false:=by rfl):PE X (.Call (.Name x p) (e :: es) [] pos) (tCB r t):=by
  intro pins s σ H Q I h
  refine wpAny_Call_Name_kw (ld_blt I hg hm hv ?_ hn hdb)
  exact PyProof.Rows.callWith_builtin1 (thn (ha pos pins s σ H _ I h) fun us s1 ⟨vs,H1,I1,r1,q1⟩ => hc pins s1 σ H1 vs us Q I1 r1 q1) he hpl
end
end L2
namespace HT
open PySem PyProof.Rows
section
open PySem.SeqAt
open PySem.AutoSeq1 (wpAny_loadPart')
open PySem.MeetsSeq PySem.MeetsSeq2 PySem.MeetsSeq3
end
section
variable {prog:Program} {w:World} {A:Around} {E:Value → Shared → Prop} {s:Shared}
def sIx (n d:Nat):Option Int → Nat
  | none => d
  | some v => if v < 0 then (v + (n:Int)).toNat else min v.toNat n
end
end HT
namespace L2
open PySem PySem.Spec PyProof.Rows
abbrev TO:=St → Hp → (Option Int → Hp → Prop) → Prop
def PO (X:Cx) (e:Option Expr) (t:TO):Prop :=
  ∀ (pins:List (Addr × Obj)) (s:Shared) (σ:St) (H:Hp) (Q:Option Int → Hp → Prop),Inv X pins σ H s → t σ H Q →
    wpAny (model X.prog X.w) X.A (evalPart e X.env) (fun u s' => ∃ o H',Inv X pins σ H' s' ∧ IsPart u o ∧ Q o H') X.xe s
def tNoPart:TO:=fun _ H Q => Q none H
section
variable {X:Cx} {e:Expr} {te:TE} {lo hi:Option Expr} {tl th:TO} {pos p2:Pos}
theorem po_none:PO X none tNoPart:=by
  intro pins s σ H Q I h
  rw [evalPart_none]
  exact wpAny_pure ⟨none,H,I,.none,h⟩
def SlR (X:Cx) (r:V → Option Int → Option Int → Hp → VK → Prop):Prop :=
  ∀ (pins:List (Addr × Obj)) (s:Shared) (σ:St) (H:Hp) (x:V) (v vl vu:Value) (lo hi:Option Int) (sl:Addr) (Q:VK),Inv X pins σ H s → RelV x v → s.heap.IsSliceOf sl vl vu .none → IsPart vl lo → IsPart vu hi → r x lo hi H Q →
    ∃ T id,typeLookup (.type T) "__getitem__" = pure (some (.builtin id)) ∧ s.TypeIs v T ∧ wpAny (model X.prog X.w) X.A (getItem v (.ref sl)) (EP X pins σ Q) X.xe s
theorem SlR.or {r r':V → Option Int → Option Int → Hp → VK → Prop} (h:SlR X r) (h':SlR X r'):SlR X (fun x lo hi H Q => r x lo hi H Q ∨ r' x lo hi H Q):=by
  intro pins s σ H x v vl vu lo hi sl Q I rx hs pl pu q
  rcases q with q | q
  · exact h pins s σ H x v vl vu lo hi sl Q I rx hs pl pu q
  · exact h' pins s σ H x v vl vu lo hi sl Q I rx hs pl pu q
def tSl (r:V → Option Int → Option Int → Hp → VK → Prop) (te:TE) (tl th:TO):TE:=fun σ H Q => te σ H fun x H1 => tl σ H1 fun l H2 => th σ H2 fun u H3 => r x l u H3 Q
theorem pe_slice {r:V → Option Int → Option Int → Hp → VK → Prop} (hr:SlR X r) (he:PE X e te) (hl:PO X lo tl) (hu:PO X hi th):PE X (.Subscript e (.Slice lo hi none p2) pos) (tSl r te tl th):=by
  intro pins s σ H Q I h
  refine Subscript_ (thn (he pins s σ H _ I h) fun v s1 ⟨x,H1,I1,r1,q1⟩ => ?_)
  refine wpAny_Slice (thn (hl pins s1 σ H1 _ I1 q1) fun vl s2 ⟨l,H2,I2,pl,q2⟩ => thn (hu pins s2 σ H2 _ I2 q2) fun vu s3 ⟨u,H3,I3,pu,q3⟩ => ?_)
  rw [evalPart_none]
  refine wpAny_pure ?_
  have I4:Inv X pins σ H3 { s3 with heap:=s3.heap.push { cls:=.type "slice",data:=.fields #[vl,vu,.none] } }:=I3.kept (t':=s3.toks) fun b ob q => Heap.get?_push_of_some _ q
  obtain ⟨T,id,hT,ht,hg⟩:=hr pins { s3 with heap:=s3.heap.push { cls:=.type "slice",data:=.fields #[vl,vu,.none] } } σ H3 x v vl vu l u s3.heap.objs.size Q I4 r1 (Heap.IsSliceOf.new ..) pl pu q3
  show wpAny (model X.prog X.w) X.A (subscriptTail e (.Slice lo hi none p2) v (.ref s3.heap.objs.size)) (EP X pins σ Q) X.xe { s3 with heap:=s3.heap.push { cls:=.type "slice",data:=.fields #[vl,vu,.none] } }
  exact tail_any (ops:=[.ref s3.heap.objs.size,v]) ht hT hg (by with_unfolding_all rfl)
def cutV (xs:List V) (lo hi:Option Int):List V:=(xs.drop (HT.sIx xs.length 0 lo)).take (HT.sIx xs.length xs.length hi - HT.sIx xs.length 0 lo)
theorem cutV_length (xs:List V) (lo hi:Option Int):(cutV xs lo hi).length ≤ xs.length:=by
  unfold cutV
  rw [List.length_take,List.length_drop]
  omega
end
end L2
namespace L2
open PySem PySem.Spec PyProof.Rows
def ixN (n:Nat) (i:Int):Option Nat:=if 0 ≤ i then (if i < n then some i.toNat else none) else if -(n:Int) ≤ i then some (i + n).toNat else none
def atI {α:Type} (xs:List α) (i:Int):Option α:=(ixN xs.length i).bind fun j => xs[j]?
theorem ixN_seq {n:Nat} {i:Int} {j:Nat} (h:ixN n i = some j):seqIndex? i n = some j ∧ j < n ∧ -(n:Int) ≤ i ∧ i < n:=by
  unfold ixN at h
  by_cases h0:0 ≤ i
  · rw [if_pos h0] at h
    by_cases h1:i < n
    · rw [if_pos h1] at h
      have e:i.toNat = j:=Option.some.inj h
      exact ⟨by rw [seqIndex_of h0 h1,e],by omega,by omega,h1⟩
    · rw [if_neg h1] at h; cases h
  · rw [if_neg h0] at h
    by_cases h1:-(n:Int) ≤ i
    · rw [if_pos h1] at h
      have e:(i + n).toNat = j:=Option.some.inj h
      exact ⟨by rw [seqIndex_neg (by omega) h1,e],by omega,h1,by omega⟩
    · rw [if_neg h1] at h; cases h
theorem atI_get {α:Type} {xs:List α} {i:Int} {v:α} (h:atI xs i = some v):∃ j,seqIndex? i xs.length = some j ∧ xs[j]? = some v ∧ j < xs.length ∧ -(xs.length:Int) ≤ i ∧ i < xs.length:=by
  unfold atI at h
  cases e:ixN xs.length i with
  | none => rw [e] at h; cases h
  | some j =>
    rw [e] at h
    obtain ⟨h1,h2,h3,h4⟩:=ixN_seq e
    exact ⟨j,h1,h,h2,h3,h4⟩
theorem atI_nat {α:Type} {xs:List α} {j:Nat} {v:α} (h:xs[j]? = some v):atI xs (j:Int) = some v:=by
  have hj:j < xs.length:=(List.getElem?_eq_some_iff.mp h).1
  have e:ixN xs.length (j:Int) = some j:=by
    unfold ixN
    rw [if_pos (by omega),if_pos (by omega)]; simp
  unfold atI; rw [e]; exact h
def PlainIx (b:Expr):Prop:=∀ o i,subscripted b false o i = operate [o,i] (getItem o i)
def IxR (X:Cx) (r:R2):Prop :=
  ∀ (value slice:Expr) (pins:List (Addr × Obj)) (s:Shared) (σ:St) (H:Hp) (x y:V) (v u:Value) (Q:VK),Inv X pins σ H s → RelV x v → RelV y u → r x y H Q →
    subscripted slice false v u = operate [v,u] (getItem v u) → wpAny (model X.prog X.w) X.A (subscriptTail value slice v u) (EP X pins σ Q) X.xe s
def MtR (X:Cx) (id:String) (r:V → List V → Hp → VK → Prop):Prop :=
  ∀ (pins:List (Addr × Obj)) (s:Shared) (σ:St) (H:Hp) (x:V) (xs:List V) (v:Value) (us:List Value) (Q:VK),Inv X pins σ H s → RelV x v → Vals xs us → r x xs H Q →
    wpAny (model X.prog X.w) X.A (call (.builtin id) (v :: us)) (EP X pins σ Q) X.xe s
section
variable {X:Cx} {a b:Expr} {ta tb:TE} {pos:Pos}
theorem IxR.or {r r':R2} (h:IxR X r) (h':IxR X r'):IxR X (fun x y H Q => r x y H Q ∨ r' x y H Q):=by
  intro value slice pins s σ H x y v u Q I rx ry q hs
  rcases q with q | q
  · exact h value slice pins s σ H x y v u Q I rx ry q hs
  · exact h' value slice pins s σ H x y v u Q I rx ry q hs
theorem MtR.or {id:String} {r r':V → List V → Hp → VK → Prop} (h:MtR X id r) (h':MtR X id r'):MtR X id (fun x xs H Q => r x xs H Q ∨ r' x xs H Q):=by
  intro pins s σ H x xs v us Q I rx rs q
  rcases q with q | q
  · exact h pins s σ H x xs v us Q I rx rs q
  · exact h' pins s σ H x xs v us Q I rx rs q
theorem pe_ix {r:R2} (hr:IxR X r) (ha:PE X a ta) (hb:PE X b tb) (hs:PlainIx b):PE X (.Subscript a b pos) (tOp r ta tb):=by
  intro pins s σ H Q I h
  exact Subscript_ (binT ha hb I h fun v u s2 x y H2 I2 rx ry q => hr a b pins s2 σ H2 x y v u Q I2 rx ry q (hs _ _))
def rIxL (K:PySem.W.Frag):R2:=fun x y H Q => ∃ p xs i v,x = .ref p ∧ y = .int i ∧ SqL K H p xs ∧ atI xs i = some v ∧ Q v H
def rIxT (K:PySem.W.Frag):R2:=fun x y H Q => ∃ p xs i v,x = .ref p ∧ y = .int i ∧ SqT K H p xs ∧ atI xs i = some v ∧ Q v H
def rIxS:R2:=fun x y H Q => ∃ z i c,x = .str z ∧ y = .int i ∧ z.length ≤ sizeLine ∧ atI z.cps.toList i = some c ∧ Q (.str ⟨#[c]⟩) H
theorem ix_list:IxR X (rIxL X.K):=by
  intro value slice pins s σ H x y v u Q I rx ry h hs
  obtain ⟨p,xs,i,z,rfl,rfl,hq,he,q⟩:=h
  cases rx
  obtain ⟨t,rfl⟩:=ry
  obtain ⟨its,r,pl,hz⟩:=I.list hq
  obtain ⟨j,h1,h2,h3,h4,h5⟩:=atI_get he
  obtain ⟨w,ew,rw'⟩:=r.get h2
  have hl:=r.length
  have hn:=line63
  have fin:EP X pins σ Q w s:=⟨z,H,I,rw',q⟩
  by_cases h0:0 ≤ i
  · have hj:i.toNat = j:=by
      rw [seqIndex_of h0 h5] at h1
      exact Option.some.inj h1
    exact item_listR pl.isList h0 (by omega) (by rw [hj]; simpa using ew) fin hs
  · have hj:(i + (its.toArray.size:Int)).toNat = j:=by
      rw [seqIndex_neg (by omega) h4] at h1
      rw [List.size_toArray,← hl]
      exact Option.some.inj h1
    exact subscriptTail_builtinR (x:=w) pl.isList.typeIs slot_list_getitem.lookup
      (wpAny_getItem_list_neg (Q:=fun r s' => r = w ∧ EP X pins σ Q r s') pl.isList (by omega) (by rw [List.size_toArray] <;> omega) (by omega) (by rw [hj]; simpa using ew) ⟨rfl,fin⟩) hs
theorem ix_tup:IxR X (rIxT X.K):=by
  intro value slice pins s σ H x y v u Q I rx ry h hs
  obtain ⟨p,xs,i,z,rfl,rfl,hq,he,q⟩:=h
  cases rx
  obtain ⟨t,rfl⟩:=ry
  obtain ⟨its,r,pl,hz⟩:=I.tuple hq
  obtain ⟨j,h1,h2,h3,h4,h5⟩:=atI_get he
  obtain ⟨w,ew,rw'⟩:=r.get h2
  have hl:=r.length
  have hn:=line63
  have fin:EP X pins σ Q w s:=⟨z,H,I,rw',q⟩
  exact subscriptTail_builtinR (x:=w) pl.typeIs slot_tuple_getitem.lookup
    (getItem_tuple (j:=j) (Q:=fun r s' => r = w ∧ EP X pins σ Q r s') pl (by omega) (by omega) (by rw [List.size_toArray,← hl]; exact h1) (by simpa using ew) ⟨rfl,fin⟩) hs
theorem ix_str:IxR X rIxS:=by
  intro value slice pins s σ H x y v u Q I rx ry h hs
  obtain ⟨z,i,c,rfl,rfl,hz,he,q⟩:=h
  obtain ⟨t,rfl⟩:=rx
  obtain ⟨t',rfl⟩:=ry
  obtain ⟨j,h1,h2,h3,h4,h5⟩:=atI_get he
  have hl:z.cps.toList.length = z.length:=by simp [Str.length]
  rw [hl] at h1 h4 h5
  have hn:=line63
  exact tail_any (typeIs_str s z t) slot_str_getitem.lookup (getItem_str (c:=c) (by
    have e1:decide (i < -(2 ^ 63:Int)) = false:=decide_eq_false (by omega)
    have e2:decide (i ≥ 2 ^ 63) = false:=decide_eq_false (by omega)
    rw [e1,e2,Bool.or_false]) (by rw [h1]; simpa using h2) ⟨.str ⟨#[c]⟩,H,I.tok _,⟨_,rfl⟩,q⟩) hs
def rIx (K:PySem.W.Frag):R2:=fun x y H Q => rIxL K x y H Q ∨ rIxT K x y H Q ∨ rIxS x y H Q
theorem ix_seq:IxR X (rIx X.K):=ix_list.or (ix_tup.or ix_str)
theorem Inv.lst {pins:List (Addr × Obj)} {σ:St} {H:Hp} {s:Shared} {p:Addr} {xs:List V} (I:Inv X pins σ H s) (h:H p = some (.lst xs)) :
    ∃ (its:List Value) (n:Nat),Vals xs its ∧ s.heap.get? p = some { cls:=.type "list",data:=.seq its.toArray n } ∧ xs.length ≤ sizeLine:=by
  obtain ⟨z,its,n,r,e⟩:=I.hok p _ h
  exact ⟨its,n,r,e,z⟩
theorem slice_bounds (lo hi:Option Int) (n:Nat):(sliceBounds lo hi none n).1 = ((HT.sIx n 0 lo:Nat):Int) ∧ (sliceBounds lo hi none n).2.1 = ((HT.sIx n n hi:Nat):Int) ∧ (sliceBounds lo hi none n).2.2 = 1:=by
  refine ⟨?_,?_,rfl⟩
  · cases lo with
    | none => simp [sliceBounds,HT.sIx]
    | some i =>
      simp only [sliceBounds,HT.sIx,Option.getD_none,show (1:Int) > 0 by decide,if_true]
      by_cases h:i < 0
      · simp only [h,if_true] <;> omega
      · simp only [h,if_false] <;> omega
  · cases hi with
    | none => simp [sliceBounds,HT.sIx]
    | some i =>
      simp only [sliceBounds,HT.sIx,Option.getD_none,show (1:Int) > 0 by decide,if_true]
      by_cases h:i < 0
      · simp only [h,if_true] <;> omega
      · simp only [h,if_false] <;> omega
theorem slicePick_cut (its:List Value) (lo hi:Option Int):slicePick its.toArray lo hi none = ((its.drop (HT.sIx its.length 0 lo)).take (HT.sIx its.length its.length hi - HT.sIx its.length 0 lo)).toArray:=by
  obtain ⟨h1,h2,h3⟩:=slice_bounds lo hi its.toArray.size
  unfold slicePick
  rw [h1,h2,h3]
  simp only [sliceRange_one,pick_run,List.size_toArray] <;> rfl
def rSlL (K:PySem.W.Frag):V → Option Int → Option Int → Hp → VK → Prop:=fun x lo hi H Q => ∃ a xs,x = .ref a ∧ SqL K H a xs ∧ ∀ p,H p = none → Q (.ref p) (upd H p (.lst (cutV xs lo hi)))
theorem sl_list:SlR X (rSlL X.K):=by
  intro pins s σ H x v vl vu lo hi sl Q I rx hs pl pu h
  obtain ⟨a,xs,rfl,hx,q⟩:=h
  cases rx
  obtain ⟨its,r,ht,hz⟩:=I.list hx
  have hlen:=r.length
  refine ⟨"list",_,slot_list_getitem.lookup,ht.isList.typeIs,?_⟩
  refine wpAny_getItem_list_slice ht.isList hs pl pu .none (by simp) ?_ (by rw [List.size_toArray] <;> omega)
  rw [slicePick_cut,← hlen]
  refine ⟨.ref s.heap.objs.size,_,I.laid (t':=s.toks) (o:=.lst (cutV xs lo hi)) (fun b ob q => Heap.get?_push_of_some _ q) (Nat.le_refl _) ?_,rfl,q _ (I.hok.fresh (Nat.le_refl _))⟩
  exact ⟨Nat.le_trans (cutV_length xs lo hi) hz,_,0,(r.drop (HT.sIx xs.length 0 lo)).take (HT.sIx xs.length xs.length hi - HT.sIx xs.length 0 lo),Heap.get?_push_size _ rfl⟩
def flatV:V → Bool
  | .non => true
  | .bl _ => true
  | .int _ => true
  | .str _ => true
  | _ => false
def eqV:V → V → Bool
  | .non,.non => true
  | .bl a,.bl b => a == b
  | .bl a,.int b => (if a then 1 else 0) == b
  | .int a,.bl b => a == (if b then 1 else 0)
  | .int a,.int b => a == b
  | .str a,.str b => a == b
  | _,_ => false
theorem eqAt_V {A:Around} {s:Shared} {y x:V} {u v:Value} (ry:RelV y u) (rx:RelV x v) (fy:flatV y = true) (fx:flatV x = true):SeqAt.EqAt A s u v (eqV y x):=by
  cases y with
  | non =>
    cases ry
    cases x with
    | non => cases rx; exact SeqAt.EqAt.same _
    | bl b => cases rx; exact SeqAt.EqAt.none_bool b
    | int b => obtain ⟨t,rfl⟩:=rx; exact SeqAt.EqAt.none_int b t
    | str b => obtain ⟨t,rfl⟩:=rx; exact SeqAt.EqAt.none_str b t
    | _ => exact absurd (show false = true from fx) Bool.false_ne_true
  | bl a =>
    cases ry
    cases x with
    | non => cases rx; exact SeqAt.EqAt.bool_none a
    | bl b => cases rx; exact SeqAt.EqAt.bool_bool a b
    | int b => obtain ⟨t,rfl⟩:=rx; exact SeqAt.EqAt.bool_int a b t
    | str b => obtain ⟨t,rfl⟩:=rx; exact SeqAt.EqAt.bool_str a b t
    | _ => exact absurd (show false = true from fx) Bool.false_ne_true
  | int a =>
    obtain ⟨t',rfl⟩:=ry
    cases x with
    | non => cases rx; exact SeqAt.EqAt.int_none a t'
    | bl b => cases rx; exact SeqAt.EqAt.int_bool a t' b
    | int b => obtain ⟨t,rfl⟩:=rx; exact SeqAt.EqAt.int_int a t' b t
    | str b => obtain ⟨t,rfl⟩:=rx; exact SeqAt.EqAt.int_str a t' b t
    | _ => exact absurd (show false = true from fx) Bool.false_ne_true
  | str a =>
    obtain ⟨t',rfl⟩:=ry
    cases x with
    | non => cases rx; exact SeqAt.EqAt.str_none a t'
    | bl b => cases rx; exact SeqAt.EqAt.str_bool a t' b
    | int b => obtain ⟨t,rfl⟩:=rx; exact SeqAt.EqAt.str_int a t' b t
    | str b => obtain ⟨t,rfl⟩:=rx; exact SeqAt.EqAt.str_str a t' b t
    | _ => exact absurd (show false = true from fx) Bool.false_ne_true
  | _ => exact absurd (show false = true from fy) Bool.false_ne_true
def eqU (x:V) (u:Value):Bool:=match u with
  | .none => eqV .non x
  | .bool b => eqV (.bl b) x
  | .int i _ => eqV (.int i) x
  | .str z _ => eqV (.str z) x
  | _ => false
theorem eqU_of {x y:V} {u:Value} (r:RelV y u) (f:flatV y = true):eqU x u = eqV y x:=by
  cases y with
  | non => cases r; rfl
  | bl b => cases r; rfl
  | int i => obtain ⟨t,rfl⟩:=r; rfl
  | str z => obtain ⟨t,rfl⟩:=r; rfl
  | _ => exact absurd (show false = true from f) Bool.false_ne_true
theorem any_eqU {x:V}:∀ {xs:List V} {us:List Value},Vals xs us → xs.all flatV = true → us.any (eqU x) = xs.any fun y => eqV y x
  | _,_,.nil,_ => rfl
  | y :: xs,u :: us,.cons r t,f => by
    rw [List.all_cons,Bool.and_eq_true] at f
    rw [List.any_cons,List.any_cons,eqU_of r f.1,any_eqU t f.2]
theorem mem_eqAt {A:Around} {s:Shared} {x:V} {v:Value} (rx:RelV x v) (fx:flatV x = true):∀ {xs:List V} {us:List Value},Vals xs us → xs.all flatV = true → ∀ u ∈ us,SeqAt.EqAt A s u v (eqU x u)
  | _,_,.nil,_ => fun u hu => by cases hu
  | y :: xs,u :: us,.cons r t,f => fun u' hu => by
    rw [List.all_cons,Bool.and_eq_true] at f
    rcases List.mem_cons.mp hu with rfl | hu
    · rw [eqU_of r f.1]; exact eqAt_V r rx f.1 fx
    · exact mem_eqAt rx fx t f.2 u' hu
def inV (x:V) (xs:List V):Bool:=xs.any fun y => eqV y x
def rIn (K:PySem.W.Frag) (neg:Bool):R2:=fun x y H Q => ∃ p xs,y = .ref p ∧ (SqL K H p xs ∨ SqT K H p xs) ∧ flatV x = true ∧ xs.all flatV = true ∧ Q (.bl (if neg then !inV x xs else inV x xs)) H
theorem op_notIn_seq:OpR X (compareOp .NotIn) (rIn X.K true):=by
  intro pins s σ H x y v u Q I rx ry h
  obtain ⟨p,xs,rfl,hq,fx,fs,q⟩:=h
  cases ry
  rcases hq with hq | hq
  · obtain ⟨its,r,pl,hz⟩:=I.list hq
    refine SeqAt.notIn_listAt (eqU x) pl.isList (fun w hw => mem_eqAt rx fx r fs w (by simpa using hw)) ⟨.bl _,H,I,rfl,?_⟩
    rw [show its.toArray.any (eqU x) = its.any (eqU x) by simp,any_eqU r fs]
    exact q
  · obtain ⟨its,r,pl,hz⟩:=I.tuple hq
    refine SeqAt.notIn_tupleAt (eqU x) pl (fun w hw => mem_eqAt rx fx r fs w (by simpa using hw)) ⟨.bl _,H,I,rfl,?_⟩
    rw [show its.toArray.any (eqU x) = its.any (eqU x) by simp,any_eqU r fs]
    exact q
theorem call_len_seq:CallR X (.builtin "len") (fun xs H Q => ∃ p ys,xs = [.ref p] ∧ (SqL X.K H p ys ∨ SqT X.K H p ys) ∧ Q (.int ys.length) H):=by
  intro pins s σ H xs us Q I r h
  obtain ⟨p,ys,rfl,hq,q⟩:=h
  obtain ⟨u,rfl,rx⟩:=vals1 r
  cases rx
  have hn:=line63
  rcases hq with hq | hq
  · obtain ⟨its,r',pl,hz⟩:=I.list hq
    have hlen:=r'.length
    exact Calls.call_len_list pl.isList (by simp only [List.size_toArray] <;> omega) ⟨.int ys.length,H,I.tok _,⟨s.toks + 1,by rw [List.size_toArray,hlen]⟩,q⟩
  · obtain ⟨its,r',pl,hz⟩:=I.tuple hq
    have hlen:=r'.length
    exact len_tuple pl (by simp only [List.size_toArray] <;> omega) ⟨.int ys.length,H,I.tok _,⟨s.toks + 1,by rw [List.size_toArray,hlen]⟩,q⟩
theorem CallR.or {f:Value} {r r':List V → Hp → VK → Prop} (h:CallR X f r) (h':CallR X f r'):CallR X f (fun xs H Q => r xs H Q ∨ r' xs H Q):=by
  intro pins s σ H xs us Q I rs q
  rcases q with q | q
  · exact h pins s σ H xs us Q I rs q
  · exact h' pins s σ H xs us Q I rs q
def tyV (K:PySem.W.Frag) (T:String) (x:V) (H:Hp):Prop:=match x with
  | .str _ => T = "str"
  | .int _ => T = "int"
  | .ref p => (T = "list" ∧ ∃ xs,SqL K H p xs) ∨ (T = "tuple" ∧ ∃ o,K.lookup p = some o ∧ o.cls = .type "tuple" ∧ o.dict = none) ∨
      (T = "dict" ∧ ((∃ kvs,H p = some (.dK kvs)) ∨ ∃ kvs,H p = some (.dT kvs))) ∨ (T = "set" ∧ ∃ S n,H p = some (.set S n))
  | _ => False
theorem tyV_is {pins:List (Addr × Obj)} {σ:St} {H:Hp} {s:Shared} {T:String} {x:V} {v:Value} (I:Inv X pins σ H s) (r:RelV x v) (ty:tyV X.K T x H) :
    s.TypeIs v T ∧ ∀ a,v = .ref a → ∃ ob,s.heap.get? a = some ob ∧ ob.dict = none:=by
  cases x with
  | str z =>
    obtain ⟨t,rfl⟩:=r
    cases (show T = "str" from ty)
    exact ⟨typeIs_str s z t,fun _ e => nomatch e⟩
  | int i =>
    obtain ⟨t,rfl⟩:=r
    cases (show T = "int" from ty)
    exact ⟨typeIs_int s i t,fun _ e => nomatch e⟩
  | ref p =>
    cases r
    rcases ty with ⟨rfl,xs,hq⟩ | ⟨rfl,o,hk,hc,hd⟩ | ⟨rfl,hk⟩ | ⟨rfl,S,n,hk⟩
    · obtain ⟨its,_,pl,_⟩:=I.list hq
      refine ⟨pl.isList.typeIs,fun a e => ?_⟩
      cases e
      obtain ⟨o,n,e,c,hd,_⟩:=pl
      exact ⟨o,e,hd⟩
    · refine ⟨⟨o,I.kIn p o hk,hc⟩,fun a e => ?_⟩
      cases e
      exact ⟨o,I.kIn _ o hk,hd⟩
    · have z:∃ o,s.heap.get? p = some o ∧ o.ExactDict:=by
        rcases hk with ⟨kvs,hk⟩ | ⟨kvs,hk⟩
        · obtain ⟨_,_,_,_,o,_,_,e,ex,_⟩:=I.hok p _ hk
          exact ⟨o,e,ex⟩
        · obtain ⟨_,_,_,_,o,_,_,e,ex,_⟩:=I.hok p _ hk
          exact ⟨o,e,ex⟩
      obtain ⟨o,e,ex⟩:=z
      refine ⟨⟨o,e,ex.1⟩,fun a e2 => ?_⟩
      cases e2
      exact ⟨o,e,ex.2.1⟩
    · obtain ⟨o,_,_,_,e,ex,_⟩:=I.hok p _ hk
      refine ⟨⟨o,e,ex.1⟩,fun a e2 => ?_⟩
      cases e2
      exact ⟨o,e,ex.2.1⟩
  | _ => exact False.elim ty
variable {o e:Expr} {es:List Expr} {to:TE} {t:TA} {name:Str} {apos cpos:Pos} {T id:String} {r:V → List V → Hp → VK → Prop}
end
end L2
namespace L2
open PySem PySem.Spec PyProof.Rows
def MtM (X:Cx) (id:String) (r:V → List V → Hp → VK → Prop):Prop :=
  ∀ (pins:List (Addr × Obj)) (s:Shared) (σ:St) (H:Hp) (x:V) (xs:List V) (v:Value) (us:List Value) (Q:VK),Inv X pins σ H s → RelV x v → Vals xs us → r x xs H Q →
    wpAny (model X.prog X.w) X.A (call (.builtin id) (v :: us)) (EP X pins σ Q) X.xe s
theorem Vals.one:∀ {x:V} {us:List Value},Vals [x] us → ∃ u,us = [u] ∧ RelV x u
  | _,_,.cons r .nil => ⟨_,rfl,r⟩
theorem Vals.two:∀ {x y:V} {us:List Value},Vals [x,y] us → ∃ u v,us = [u,v] ∧ RelV x u ∧ RelV y v
  | _,_,_,.cons r (.cons q .nil) => ⟨_,_,rfl,r,q⟩
theorem Vals.zero:∀ {us:List Value},Vals [] us → us = []
  | _,.nil => rfl
theorem Vals.rep {xs:List V} {us:List Value} (h:Vals xs us):∀ k:Nat,Vals (List.replicate k xs).flatten (List.replicate k us).flatten
  | 0 => .nil
  | k + 1 => by
    rw [List.replicate_succ,List.replicate_succ,List.flatten_cons,List.flatten_cons]
    exact Vals.append h (Vals.rep h k)
theorem foldl_rep (its:List Value):∀ (k:Nat) (acc:List Value),
    List.foldl (fun x1 x2 => x1 ++ x2) acc.toArray (List.replicate k its.toArray) = (acc ++ (List.replicate k its).flatten).toArray
  | 0,acc => by simp
  | k + 1,acc => by
    have e:acc.toArray ++ its.toArray = (acc ++ its).toArray:=by simp
    have e2:(acc ++ its) ++ (List.replicate k its).flatten = acc ++ (List.replicate (k + 1) its).flatten:=by
      rw [List.replicate_succ,List.flatten_cons,List.append_assoc]
    rw [← e2,← foldl_rep its k (acc ++ its),← e,List.replicate_succ,List.foldl_cons]
section
variable {X:Cx} {pins:List (Addr × Obj)} {σ:St} {H:Hp} {s:Shared} {l b:Addr} {xs ys zs:List V}
theorem Inv.lset {its its':List Value} {n:Nat} {f:Array Value → Array Value} {t':Nat} (I:Inv X pins σ H s) (hH:H l = some (.lst xs))
    (e:s.heap.get? l = some { cls:=.type "list",data:=.seq its.toArray n }) (hf:f its.toArray = its'.toArray) (hv:Vals ys its') (hz:ys.length ≤ sizeLine) :
    Inv X pins σ (upd H l (.lst ys)) { s with heap:=s.heap.update l (Obj.mapSeq f),toks:=t' }:=by
  have q:=PySem.IsL.update e f
  rw [hf] at q
  refine I.write (x:=l) (e:=l) (by rw [hH]; exact trivial) (.inl rfl) (fun b' u hb hu => (Heap.get?_update_other s.heap (Obj.mapSeq f) (Ne.symm hb)).trans hu) ⟨_,q⟩ ?_
  exact ⟨hz,its',_,hv,q⟩
theorem Inv.lnew {its:List Value} {t':Nat} (I:Inv X pins σ H s) (hv:Vals ys its) (hz:ys.length ≤ sizeLine) :
    Inv X pins σ (upd H s.heap.objs.size (.lst ys)) { s with heap:=s.heap.push { cls:=.type "list",data:=.seq its.toArray },toks:=t' } :=
  I.laid (fun _ _ q => Heap.get?_push_of_some _ q) (Nat.le_refl _) ⟨hz,its,0,hv,Heap.get?_push_size _ rfl⟩
theorem Inv.fresh (I:Inv X pins σ H s):H s.heap.objs.size = none:=I.hok.fresh (Nat.le_refl _)
theorem Inv.lstM (I:Inv X pins σ H s) (hH:H l = some (.lst xs)):xs.length ≤ sizeLine ∧ ∃ (its:List Value) (n:Nat),Vals xs its ∧ xs.length = its.length ∧ s.heap.get? l = some { cls:=.type "list",data:=.seq its.toArray n }:=by
  obtain ⟨z,its,n,r,e⟩:=I.hok l _ hH
  exact ⟨z,its,n,r,r.length,e⟩
theorem notLongL {n:Nat} (h:n ≤ sizeLine):Builtin.List.listTooLong n = false:=by
  unfold Builtin.List.listTooLong
  exact decide_eq_false (by omega)
end
section
variable {X:Cx}
def rAppend:V → List V → Hp → VK → Prop:=fun x vs H Q => ∃ l xs y,x = .ref l ∧ vs = [y] ∧ H l = some (.lst xs) ∧ xs.length < sizeLine ∧ Q .non (upd H l (.lst (xs ++ [y])))
theorem mt_append:MtM X "list.append" rAppend:=by
  intro pins s σ H x vs v us Q I rx rv h
  obtain ⟨l,xs,y,rfl,rfl,hH,hz,q⟩:=h
  cases rx
  obtain ⟨u,rfl,ru⟩:=rv.one
  obtain ⟨z,its,n,r,hl,e⟩:=I.lstM hH
  refine call_meets F.slot_list_append ⟨_,e,rfl⟩ F.entry_list_append (F.args_list_append_2 _ _) (PySem.list_append l its.toArray n u (by rw [List.size_toArray]; omega)) ⟨e,?_⟩
  refine ⟨.non,_,I.lset (its':=its ++ [u]) hH e (by simp) (r.append (.cons ru .nil)) ?_,rfl,q⟩
  rw [List.length_append,List.length_singleton]
  omega
def rExtend:V → List V → Hp → VK → Prop:=fun x vs H Q => ∃ l b xs zs,x = .ref l ∧ vs = [.ref b] ∧ H l = some (.lst xs) ∧ H b = some (.lst zs) ∧ xs.length + zs.length ≤ sizeLine ∧ Q .non (upd H l (.lst (xs ++ zs)))
theorem mt_extend:MtM X "list.extend" rExtend:=by
  intro pins s σ H x vs v us Q I rx rv h
  obtain ⟨l,b,xs,zs,rfl,rfl,hH,hB,hz,q⟩:=h
  cases rx
  obtain ⟨u,rfl,ru⟩:=rv.one
  cases ru
  obtain ⟨z,its,n,r,hl,e⟩:=I.lstM hH
  obtain ⟨z2,its2,n2,r2,hl2,e2⟩:=I.lstM hB
  have hsz:its.toArray.size + its2.toArray.size ≤ sizeLine:=by rw [List.size_toArray,List.size_toArray]; omega
  have hlong:¬ (!its.toArray.isEmpty && Builtin.List.listTooLong (its.toArray.size + its2.toArray.size)) = true:=by
    rw [notLongL hsz,Bool.and_false]
    exact Bool.false_ne_true
  refine call_meets F.slot_list_extend ⟨_,e,rfl⟩ F.entry_list_extend (F.args_list_extend_2 _ _)
    (AutoSeq1.list_extend_list_list_0 l its.toArray n b its2.toArray n2 hlong (by rw [List.size_toArray]; omega) (by omega)) ⟨e,e2,?_⟩
  refine ⟨.non,_,I.lset (its':=its ++ its2) hH e (by simp) (r.append r2) ?_,rfl,q⟩
  rw [List.length_append]
  omega
def rCat:R2:=fun x y H Q => ∃ l b xs zs,x = .ref l ∧ y = .ref b ∧ H l = some (.lst xs) ∧ H b = some (.lst zs) ∧ xs.length + zs.length ≤ sizeLine ∧ ∀ p,H p = none → Q (.ref p) (upd H p (.lst (xs ++ zs)))
theorem op_cat:OpR X (binaryOp .Add) rCat:=by
  intro pins s σ H x y v u Q I rx ry h
  obtain ⟨l,b,xs,zs,rfl,rfl,hH,hB,hz,q⟩:=h
  cases rx
  cases ry
  obtain ⟨z,its,n,r,hl,e⟩:=I.lstM hH
  obtain ⟨z2,its2,n2,r2,hl2,e2⟩:=I.lstM hB
  refine PySem.P.add_list e e2 ?_ (by rw [List.size_toArray,List.size_toArray]; omega)
  have ea:its.toArray ++ its2.toArray = (its ++ its2).toArray:=by simp
  rw [ea]
  exact ⟨.ref _,_,I.lnew (t':=s.toks) (r.append r2) (by rw [List.length_append]; omega),rfl,q _ I.fresh⟩
def rRep:R2:=fun x y H Q => ∃ l k xs,x = .ref l ∧ y = .int k ∧ H l = some (.lst xs) ∧ -(2 ^ 63) ≤ k ∧ k < 2 ^ 63 ∧ xs.length * k.toNat ≤ sizeLine ∧
  ∀ p,H p = none → Q (.ref p) (upd H p (.lst (List.replicate k.toNat xs).flatten))
theorem len_rep {α:Type} (xs:List α) (k:Nat):(List.replicate k xs).flatten.length = k * xs.length:=by
  induction k with
  | zero => simp
  | succ k ih => rw [List.replicate_succ,List.flatten_cons,List.length_append,ih,Nat.succ_mul,Nat.add_comm]
theorem op_rep:OpR X (binaryOp .Mult) rRep:=by
  intro pins s σ H x y v u Q I rx ry h
  obtain ⟨l,k,xs,rfl,rfl,hH,h1,h2,hz,q⟩:=h
  cases rx
  obtain ⟨t,rfl⟩:=ry
  obtain ⟨z,its,n,r,hl,e⟩:=I.lstM hH
  have hlen:its.toArray.size * k.toNat ≤ sizeLine:=by rw [List.size_toArray,← hl]; exact hz
  have hcap:¬ its.toArray.size * k.toNat > (2 ^ 63 - 1) / 8:=by
    have:(sizeLine:Nat) ≤ (2 ^ 63 - 1) / 8:=by decide
    omega
  have hfit:¬ (!Builtin.List.listFitsIndex k) = true:=by
    rw [fitsIndex_both h1 h2]
    exact Bool.false_ne_true
  have hlong:¬ Builtin.List.listTooLong (its.toArray.size * k.toNat) = true:=by
    rw [notLongL hlen]
    exact Bool.false_ne_true
  have hnew:List.foldl (fun x1 x2 => x1 ++ x2) #[] (List.replicate (if its.toArray.isEmpty = true then 0 else k.toNat) its.toArray) = (List.replicate k.toNat its).flatten.toArray:=by
    have f0:∀ m:Nat,List.foldl (fun x1 x2 => x1 ++ x2) #[] (List.replicate m its.toArray) = (List.replicate m its).flatten.toArray:=fun m => by
      have:=foldl_rep its m []
      rw [List.nil_append] at this
      exact this
    rw [f0]
    cases its with
    | nil => simp
    | cons a r' => rw [if_neg (by simp)]
  refine wpAny_binaryOp_repeat_ref (T := "list") (U := "int") (by decide) ⟨_,e,rfl⟩ (fun s' => typeIs_int s' k t) noFill_list_mul F.fills_int_mul F.slot_int_rmul repeat_list F.slot_int_index.lookup
    (call_meets F.slot_int_rmul (typeIs_int s k t) F.entry_int_rmul (F.args_int_rmul_2 _ _) (int___rmul___int_list k t l its.toArray n)
      ⟨e,rfl,⟨_,e,rfl⟩,call_meets F.slot_list_mul ⟨_,e,rfl⟩ F.entry_list_mul (F.args_list_mul_2 _ _) (AutoListH.list___mul___list_int_3 l its.toArray n k t hfit hcap hlong) ⟨e,?_⟩⟩)
  rw [hnew]
  exact ⟨.ref _,_,I.lnew (t':=s.toks) (r.rep k.toNat) (by rw [len_rep,Nat.mul_comm]; exact hz),rfl,q _ I.fresh⟩
end
section
variable {prog:Program} {w:World} {A:Around} {E:Value → Shared → Prop} {s:Shared}
end
section
variable {X:Cx}
end
end L2
namespace Att
open PySem PySem.W PySem.Calls PyProof.Rows
theorem ints_of_wellAll {P:Params} {h:Heap}:∀ (ns:List Int) (vs:List Value),WellAll P h vs (ns.map WData.int) → IntsAre vs ns:=by
  intro ns
  induction ns with
  | nil =>
    intro vs w
    rw [List.map_nil] at w
    cases w
    exact .nil
  | cons n ns ih =>
    intro vs w
    rw [List.map_cons] at w
    cases w with
    | cons a b =>
      cases a
      exact .cons _ _ (ih _ b)
theorem script_of {l:OpenLaw} {n:Nat} (hn:l.most = some n) {P:Params} {h:Heap} {args:List WData} {vals:List Value}
    (hpre:l.row.toRowW.claim.pre args = true) (hwl:WellAll P h vals args) :
    ∃ a vs ns,vals = [Value.ref a] ∧ args = [WData.list (ns.map WData.int)] ∧ h.get? a = some { cls:=.type "list",data:=.seq vs.toArray } ∧ IntsAre vs ns ∧ ns.length ≤ n:=by
  have hsh:WShape.hasAll [] args [.list .int] = true:=(pre_splitW hpre).1
  have hc:l.pre.holds [] { args:=args } = true:=(pre_splitW hpre).2
  obtain ⟨d,r,rfl,h1,h2⟩:=hasAllW_cons hsh
  obtain rfl:=hasAllW_nil h2
  obtain ⟨xs,rfl,h3⟩:=hasW_list h1
  obtain ⟨ns,rfl⟩:=items_int h3
  have hlen:ns.length ≤ n:=by
    unfold OpenLaw.pre at hc
    have h4:(WTm.not (.lt (.lit (.int (n:Int))) (.len (.arg 0)))).holds [] { args:=[.list (ns.map .int)] } = true:=by
      have h4:=(holds_andW hc).1
      rw [hn] at h4
      exact h4
    have h5:=condW_of h4 (w_not (w_lt w_lit (w_len_list (w_arg rfl))))
    rw [List.length_map] at h5
    refine Nat.le_of_not_lt fun q => ?_
    have q':(n:Int) < ((ns.length:Nat):Int):=by omega
    first
      | (rw [decide_eq_true q'] at h5; exact absurd h5 (by decide))
      | (simp at h5; omega)
  cases hwl with
  | cons w1 w2 =>
    cases w2
    cases w1 with
    | list ho hall => exact ⟨_,_,ns,rfl,rfl,ho,ints_of_wellAll ns _ hall,hlen⟩
theorem post_true (l:OpenLaw) (args:List WData):l.row.toRowW.claim.post args (.bool true) args = true :=
  postW_of (r:=l.row.toRowW) (X:=(true == true))
    (show WShape.has [] (.bool true) .bool = true by first | rfl | decide | simp [WShape.has,WShape.arms,WShape.armsAll])
    (show (WTm.eq .res (.lit (.bool true))).value [] { args:=args,res:=some (.bool true),after:=args } = some (.bool (true == true)) from w_eq_bool (w_res rfl) w_lit) rfl
theorem attach_call {l:OpenLaw} {n:Nat} {q:Program} {loose:List Str} {XP:(Str → Option Value) → Heap → Prop} {YP:World → Heap → Prop} {d:DefRec}
    (hn:l.most = some n) (hdf:d.params.defaults = [])
    (call:∀ (w:World) (s₀ s₁:Shared) (mg mb:Str → Option Value) (fa:Addr) (o:Obj) (pm cd doc:Value) (a:Addr) (vs:List Value) (ns:List Int),
      Ground q loose [] XP w s₀ mg mb s₁.heap → YP w s₁.heap →
      s₁.heap.get? fa = some o → o.data = .func (docDef d.name d.params d.body d.scope pm cd doc) → s₁.heap.CodeRec cd d.name → mg d.name = some (.ref fa) →
      s₁.heap.get? a = some { cls:=.type "list",data:=.seq vs.toArray } → IntsAre vs ns → ns.length ≤ n → s₁.gens = #[] →
      codeAny (model l.prog w) callerA (.call (.ref fa) ⟨[.ref a],[]⟩) (fun r s' => r = .ok (.ret (.bool true)) ∧ OldK s₁.heap s'.heap ∧ s'.os = s₁.os ∧ AllBare s'.gens) s₁) :
    WalkO q loose XP YP l.row.toRowW d [] (fun f vs => PySem.call f vs):=by
  intro w s₀ s₁ mg mb G Y fa o pm cd doc dV kV ho hd hcd hD hmg hg args vals as hpre hlay hrd hwl hlo
  obtain rfl:dV = .none:=Dflts.none hD hdf
  obtain rfl:kV = .none:=Dflts.noKw hD
  obtain ⟨a,vs,ns,rfl,rfl,hobj,hints,hlen⟩:=script_of hn hpre hwl
  refine enter_call (codeAny_mono (call w s₀ s₁ mg mb fa o pm cd doc a vs ns G Y ho (fd_plain hd) hcd hmg hobj hints hlen hg) fun r s' hq => ?_)
  obtain ⟨rfl,h2,h3,h4⟩:=hq
  exact ⟨.inl ⟨.bool true,.bool true,[],rfl,fun _ => rfl,.bool true,post_true l _,fun _ => ⟨List.Pairwise.nil,fun _ hm => (nomatch hm)⟩⟩,h2,h3,h4⟩
section
variable {prog:Program} {w:World} {A:Around} {E:Value → Shared → Prop} {s:Shared} {K:Frag}
end
end Att
namespace L2
open PySem PySem.Spec PyProof.Rows
theorem vals_ints:∀ {vs:List Value} {ns:List Int},IntsAre vs ns → Vals (ns.map V.int) vs
  | _,_,.nil => .nil
  | _,_,.cons n t h => .cons ⟨t,rfl⟩ (vals_ints h)
def Only (H:Hp):Prop:=∀ b,H b = none ∨ ∃ o xs,H b = some (.frz o (.lst xs))
theorem law_call {P:Program} {w:World} {K:PySem.W.Frag} {mg mb:Str → Option Value} {CX:CXT} {k:Nat} {fa a:Addr} {fd:FuncData} {x:Str} {sp:Sp} {s₁:Shared} {vs:List Value} {ns:List Int}
    (KX:K.In s₁.heap) (hns:s₁.heap.Ns mainGlobals mg) (hb:s₁.heap.Ns builtinsNs mb) (hbb:∀ x:Str,x ≠ "__name__" → mb x = bootBuiltins x) (hlim:s₁.heap.NoLimit) (hg:s₁.gens = #[])
    (ha:s₁.heap.get? a = some { cls:=.type "list",data:=.seq vs.toArray }) (hi:IntsAre vs ns) (hl:ns.length ≤ sizeLine) (hr:Room k callerA)
    (F:∀ base:Heap,K.In base → base.Ns mainGlobals mg → FnOk P w K mg base CX k fa fd [x] sp) (hbind:∀ (s:Shared) (u:Value),BindsTo s fd ⟨[u],[]⟩ [(x,u)])
    (hsp:∀ H:Hp,Only H → SqL K H a (ns.map V.int) → sp [.ref a] H (fun v _ => v = .bl true) fun _ _ _ => False)
    (hCX:∀ H e s',CX [] H s₁ (fun _ _ _ => False) e s' → False) :
    codeAny (model P w) callerA (.call (.ref fa) ⟨[.ref a],[]⟩) (fun r s' => r = .ok (.ret (.bool true)) ∧ OldK s₁.heap s'.heap ∧ s'.os = s₁.os ∧ AllBare s'.gens) s₁:=by
  have rv:=vals_ints hi
  have lenV:=hi.length
  -- from an abstract heap in which nothing but the script may be tracked
  have core:∀ H:Hp,Only H → SqL K H a (ns.map V.int) → HOk P w H s₁.heap → (∀ b,H b ≠ none → b = a) → (H a ≠ none → K.lookup a = none) →
      codeAny (model P w) callerA (.call (.ref fa) ⟨[.ref a],[]⟩) (fun r s' => r = .ok (.ret (.bool true)) ∧ OldK s₁.heap s'.heap ∧ s'.os = s₁.os ∧ AllBare s'.gens) s₁:=by
    intro H hO hS hok hA hK
    have base_of:∀ {b:Addr} {o:Obj},s₁.heap.get? b = some o → H b = none → (hidT s₁.heap H).get? b = some o:=fun e n => hidT_get e n
    have noA:∀ {b:Addr} {o:Obj} {es:Array DictEntry} {ep:Nat},s₁.heap.get? b = some o → o.data = .dict es ep → H b = none:=fun {b o es ep} e d => by
      cases q:H b with
      | none => rfl
      | some u =>
        have e':b = a:=hA b (by rw [q]; simp)
        subst e'
        rw [ha] at e; cases e
        have d':Data.seq vs.toArray _ = Data.dict es ep:=d
        cases d'
    have nsK:∀ {b:Addr} {m:Str → Option Value},s₁.heap.Ns b m → (hidT s₁.heap H).Ns b m:=fun {b m} ⟨o,es,ep,e,d,r⟩ => ⟨o,es,ep,base_of e (noA e d),d,r⟩
    have hKb:K.In (hidT s₁.heap H):=fun b o e => base_of (KX b o e) (by
      cases q:H b with
      | none => rfl
      | some u =>
        have e':b = a:=hA b (by rw [q]; simp)
        subst e'
        rw [hK (by rw [q]; simp)] at e; cases e)
    have hM:Mod K mg (hidT s₁.heap H):=⟨hKb,nsK hns,⟨mb,nsK hb,hbb⟩,let ⟨mc,h1,h2⟩:=hlim; ⟨mc,nsK h1,h2⟩⟩
    have e0:Env0 P w K mg (hidT s₁.heap H) callerA [] s₁ H:=⟨rfl,hM,fun b o e => of_hidT e,Nat.le_of_eq (hidT_size _ _),trivial,fun b hb => absurd (show b ∈ ([]:List Addr) from hb) (by simp),hok,.of_eq hg⟩
    refine codeAny_mono ((F _ hKb (nsK hns)).run callerA [] s₁ H ⟨[.ref a],[]⟩ [.ref a] [.ref a] _ _ hr e0 (hbind s₁ (.ref a)) (.cons rfl .nil) (hsp H hO hS)) fun r s' h => ?_
    cases r with
    | error e => exact (hCX H e s' h).elim
    | ok fl =>
      cases fl with
      | next => exact False.elim h
      | brk => exact False.elim h
      | cont => exact False.elim h
      | ret u =>
        obtain ⟨v,H',os,bare,un,hok',r',q⟩:=h
        have q':v = .bl true:=q
        subst q'
        obtain rfl:u = Value.bool true:=r'
        refine ⟨rfl,OldK.of_keep fun b o e => ?_,os,bare⟩
        cases q:H b with
        | none => exact un.keep b o e q (by intro z; exact absurd (show b ∈ ([]:List Addr) from z) (by simp)) (by simp)
        | some u =>
          rcases hO b with z | ⟨ob,xs,z⟩
          · rw [q] at z; cases z
          · have z2:=un.frzs b ob _ z
            obtain ⟨e1,_⟩:=hok b _ z
            obtain ⟨e2,_⟩:=hok' b _ z2
            rw [e] at e1; cases e1
            exact e2
  cases hk:K.lookup a with
  | some o =>
    -- the script is one of the module's own objects
    have e:=KX a o hk
    rw [ha] at e
    cases e
    refine core (fun _ => none) (fun _ => .inl rfl) (.inr ⟨_,vs.toArray,_,hk,rfl,rfl,rfl,by rw [List.size_toArray,lenV]; exact hl,by simpa using rv⟩) (fun b u z => by have z':(none:Option HO) = some u:=z; cases z') (fun b z => absurd rfl z) fun z => absurd rfl z
  | none =>
    refine core (fun b => if b = a then some (.frz { cls:=.type "list",data:=.seq vs.toArray } (.lst (ns.map V.int))) else none) (fun b => ?_) (.inl (.inr ⟨{ cls:=.type "list",data:=.seq vs.toArray },if_pos rfl⟩)) (fun b u z => ?_) (fun b z => ?_) fun _ => hk
    · by_cases hb:b = a
      · exact .inr ⟨_,_,if_pos hb⟩
      · exact .inl (if_neg hb)
    · by_cases hb:b = a
      · have z':=(if_pos hb).symm.trans z
        cases z'
        subst hb
        exact ⟨ha,by rw [List.length_map]; exact hl,vs,_,rv,ha⟩
      · have z':=(if_neg hb).symm.trans z
        cases z'
    · by_cases hb:b = a
      · exact hb
      · exact absurd (if_neg hb) z
end L2
namespace L2
open PySem PySem.Spec PyProof.Rows
theorem walk_of {l:PySem.W.OpenLaw} {n k:Nat} {q:Program} {loose:List Str} {XP:(Str → Option Value) → Heap → Prop} {YP:World → Heap → Prop} {d:DefRec} {K:Params → PySem.W.Frag} {CX:World → CXT} {sp:World → Sp} {x:Str}
    (hn:l.most = some n) (hn2:n ≤ sizeLine) (hdf:d.params.defaults = []) (hr:Room k callerA)
    (hY:∀ (w:World) (h:Heap),YP w h → (K w.params).In h)
    (F:∀ (w:World) (mg:Str → Option Value) (fa:Addr) (h:Heap),(K w.params).In h → h.Ns mainGlobals mg → mg d.name = some (.ref fa) →
      ∃ fd:FuncData,(∀ (s:Shared) (u:Value),BindsTo s fd ⟨[u],[]⟩ [(x,u)]) ∧
        ∀ base:Heap,(K w.params).In base → base.Ns mainGlobals mg → FnOk l.prog w (K w.params) mg base (CX w) k fa fd [x] (sp w))
    (hsp:∀ (w:World) (H:Hp) (a:Addr) (ns:List Int),ns.length ≤ n → Only H → SqL (K w.params) H a (ns.map V.int) → sp w [.ref a] H (fun v _ => v = .bl true) fun _ _ _ => False)
    (hCX:∀ (w:World) (H:Hp) (s:Shared) (e:Value) (s':Shared),CX w [] H s (fun _ _ _ => False) e s' → False) :
    PySem.W.WalkO q loose XP YP l.row.toRowW d [] (fun f vs => PySem.call f vs):=by
  refine Att.attach_call hn hdf fun w s₀ s₁ mg mb fa o pm cd doc a vs ns G Y ho hd hcd hmg hobj hints hlen hg => ?_
  have KX:=hY w _ Y
  obtain ⟨fd,hb,hF⟩:=F w mg fa _ KX G.T.g hmg
  exact law_call KX G.T.g G.T.b G.T.builtins G.T.nolimit hg hobj hints (Nat.le_trans hlen hn2) hr hF hb (fun H hO hS => hsp w H a ns hlen hO hS) fun H e s' => hCX w H s₁ e s'
end L2
namespace L2
open PySem PySem.Spec PyProof.Rows
def defArgs (s:Stmt):Arguments:=match s with
  | .FunctionDef _ a _ _ _ _ _ _ _ _ => a
  | _ => { posonlyargs:=[],args:=[],vararg:=none,kwonlyargs:=[],kw_defaults:=[],kwarg:=none,defaults:=[] }
def defBody (s:Stmt):List Stmt:=match s with
  | .FunctionDef _ _ b _ _ _ _ _ _ _ => b
  | _ => []
def defScope (s:Stmt):Scope:=match s with
  | .FunctionDef _ _ _ _ _ _ sc _ _ _ => sc
  | _ => { kind:=.function,names:=[],isGenerator:=false,isCoroutine:=false }
abbrev CX0:CXT:=fun _ _ _ _ _ _ => False
abbrev E0:XK:=fun _ _ _ => False
theorem pass0 {X:Cx}:Passes CX0 X E0:=fun _ _ _ _ _ _ _ h => h.elim
structure Fun (K:PySem.W.Frag) (x qual:Str) (st:Stmt) (f:Addr) (fd:FuncData):Prop where
  ex:∃ (oc:Value) (od:Option Addr) (kV doc pm:Value) (an:Option Addr) (cdv ct:Value) (osl:Array (Option Value)),
    fd = PySem.W.fnOf x qual (defArgs st) (defBody st) (defScope st) .none kV doc pm an cdv ct ∧ K.lookup f = some ⟨oc,od,.func fd,osl⟩ ∧ PySem.W.codeIn K cdv qual = true
  kp:PySem.W.keepIn K (.ref f) = true
section
variable {P:Program} {w:World} {K:PySem.W.Frag} {mg:Str → Option Value} {base:Heap}
theorem Fun.ok {x qual:Str} {st:Stmt} {f:Addr} {fd:FuncData} {N ps:List Str} {k:Nat} {sp:Sp} (F:Fun K x qual st f fd) (S:FnScope N ps (defScope st)) (len:∀ vs H Q E,sp vs H Q E → vs.length = ps.length)
    (hbody:∀ (cdv:Value) (A:Around) (outer:List Env) (s:Shared) (H:Hp) (vs:List V) (Q:VK) (E:XK),Room k (A.deeper (envOfC qual (defScope st) s.heap.objs.size f cdv)) → sp vs H Q E →
      ∃ t,PSs (cxOf CX0 P w K mg base N qual (defScope st) f cdv A outer s H E).nox (defBody st) t ∧ t { nx:=fun _ H' => Q .non H',rt:=Q } (start N vs) H):FnOk P w K mg base CX0 (k + 1) f fd ps sp:=by
  obtain ⟨oc,od,kV,doc,pm,an,cdv,ct,osl,rfl,lk,hcd⟩:=F.ex
  refine fn_of lk hcd S len fun A outer s H vs Q E hr hsp => ?_
  obtain ⟨t,h,q⟩:=hbody cdv A outer s H vs Q E hr hsp
  exact ⟨t,h.nox,q⟩
theorem Fun.binds {x qual:Str} {st:Stmt} {f:Addr} {fd:FuncData} {ps:List Str} (F:Fun K x qual st f fd)
    (h:∀ (kV doc pm:Value) (an:Option Addr) (cdv ct:Value) (us:List Value),us.length = ps.length → bindArgs (PySem.W.fnOf x qual (defArgs st) (defBody st) (defScope st) .none kV doc pm an cdv ct) ⟨us,[]⟩ = pure (ps.zip us)):Binds K fd ps []:=by
  obtain ⟨oc,od,kV,doc,pm,an,cdv,ct,osl,rfl,lk,hcd⟩:=F.ex
  exact .all (h kV doc pm an cdv ct)
theorem fun_mk {x qual:Str} {st:Stmt} {f:Addr} {oc:Value} {od an:Option Addr} {osl:Array (Option Value)} {kV doc pm cdv ct:Value} (l:K.lookup f = some ⟨oc,od,.func (PySem.W.fnOf x qual (defArgs st) (defBody st) (defScope st) .none kV doc pm an cdv ct),osl⟩)
    (c:PySem.W.codeIn K cdv qual = true) (k:PySem.W.keepIn K (.ref f) = true):Fun K x qual st f (PySem.W.fnOf x qual (defArgs st) (defBody st) (defScope st) .none kV doc pm an cdv ct):=⟨⟨oc,od,kV,doc,pm,an,cdv,ct,osl,rfl,l,c⟩,k⟩
end
section
variable {X:Cx}
theorem pv (i:Nat) {x:Str} {pos:Pos} (hN:X.N[i]? = some x:=by rfl) (hv:Vis X.env.scope x:=by first | exact Or.inl rfl | exact Or.inr (Or.inl rfl) | exact Or.inr (Or.inr rfl)) (hd:(x == ("__debug__" : Str)) = false:=by decide)
    (hcd:(x == ("__classdict__" : Str)) = false:=by decide):PE X (.Name x pos) (tVar i):=pe_var hN hv hd hcd
end
theorem iteF {A B:Prop} (h:B):if false = true then A else B:=by
  rw [if_neg Bool.false_ne_true]
  exact h
theorem iteT {A B:Prop} (h:A):if true = true then A else B:=by
  rw [if_pos rfl]
  exact h
theorem ite2 {c A B:Prop} [Decidable c] (h1:c → A) (h2:¬ c → B):if c then A else B:=by
  by_cases h:c
  · rw [if_pos h]
    exact h1 h
  · rw [if_neg h]
    exact h2 h
def Same (H H':Hp):Prop:=∀ b o,H b = some o → H' b = some o
theorem Same.refl (H:Hp):Same H H:=fun _ _ h => h
theorem Same.trans {H H1 H2:Hp} (a:Same H H1) (b:Same H1 H2):Same H H2:=fun c o h => b c o (a c o h)
theorem Same.free {H H':Hp} (e:Same H H') {l:Addr} (h:H' l = Option.none):H l = Option.none:=by
  cases q:H l with
  | none => rfl
  | some o =>
    rw [e l o q] at h
    cases h
theorem Same.seq {K:PySem.W.Frag} {H H':Hp} {a:Addr} {xs:List V} (e:Same H H') (h:SqL K H a xs):SqL K H' a xs:=by
  rcases h with (h | ⟨o,h⟩) | h
  · exact .inl (.inl (e _ _ h))
  · exact .inl (.inr ⟨o,e _ _ h⟩)
  · exact .inr h
end L2
set_option maxHeartbeats 4000000
namespace FlT
open PySem PySem.Spec PyProof.Rows
def sIx (n d:Nat):Option Int → Nat
  | none => d
  | some v => if v < 0 then (v + (n:Int)).toNat else min v.toNat n
theorem foldl_cat:∀ (ys:List Str) (acc:Array Nat),(ys.foldl (fun acc p => acc ++ (#[]:Array Nat) ++ p.cps) acc).toList = acc.toList ++ (ys.map fun y => y.cps.toList).flatten
  | [],acc => by simp
  | y :: r,acc => by
    rw [List.foldl_cons,foldl_cat r]
    simp
theorem join_cps (ys:List Str):(Txt.join ⟨#[]⟩ ys).cps.toList = (ys.map fun y => y.cps.toList).flatten:=by
  cases ys with
  | nil => rfl
  | cons y r =>
    have e:=foldl_cat r y.cps
    rw [List.map_cons,List.flatten_cons,← e]
    rfl
theorem app_cps (x y:Str):(x ++ y).cps.toList = x.cps.toList ++ y.cps.toList:=by
  show (x.cps ++ y.cps).toList = _
  simp
theorem str_ext {x y:Str} (h:x.cps.toList = y.cps.toList):x = y:=by
  obtain ⟨⟨x⟩⟩:=x
  obtain ⟨⟨y⟩⟩:=y
  cases h
  rfl
end FlT
set_option maxHeartbeats 4000000
namespace L2
open PySem PySem.Spec PyProof.Rows
theorem PE.imp {X:Cx} {e:Expr} {t t':TE} (h:PE X e t) (i:∀ σ H Q,t' σ H Q → t σ H Q):PE X e t':=fun pins s σ H Q I q => h pins s σ H Q I (i σ H Q q)
theorem PT.imp {X:Cx} {e:Expr} {t t':TT} (h:PT X e t) (i:∀ σ H Q,t' σ H Q → t σ H Q):PT X e t':=fun pins s σ H Q I q => h pins s σ H Q I (i σ H Q q)
theorem OpR.imp {X:Cx} {f:Value → Value → Sem Value} {r r':R2} (h:OpR X f r) (i:∀ x y H Q,r' x y H Q → r x y H Q):OpR X f r':=fun pins s σ H x y v u Q I rx ry q => h pins s σ H x y v u Q I rx ry (i x y H Q q)
theorem CallR.imp {X:Cx} {f:Value} {r r':List V → Hp → VK → Prop} (h:CallR X f r) (i:∀ xs H Q,r' xs H Q → r xs H Q):CallR X f r':=fun pins s σ H xs us Q I rx q => h pins s σ H xs us Q I rx (i xs H Q q)
theorem MtR.imp {X:Cx} {id:String} {r r':V → List V → Hp → VK → Prop} (h:MtR X id r) (i:∀ x xs H Q,r' x xs H Q → r x xs H Q):MtR X id r':=fun pins s σ H x xs v us Q I rx rs q => h pins s σ H x xs v us Q I rx rs (i x xs H Q q)
theorem IxR.imp {X:Cx} {r r':R2} (h:IxR X r) (i:∀ x y H Q,r' x y H Q → r x y H Q):IxR X r':=fun value slice pins s σ H x y v u Q I rx ry q hs => h value slice pins s σ H x y v u Q I rx ry (i x y H Q q) hs
theorem SlR.imp {X:Cx} {r r':V → Option Int → Option Int → Hp → VK → Prop} (h:SlR X r) (i:∀ x lo hi H Q,r' x lo hi H Q → r x lo hi H Q):SlR X r':=fun pins s σ H x v vl vu lo hi sl Q I rx hs pl pu q => h pins s σ H x v vl vu lo hi sl Q I rx hs pl pu (i x lo hi H Q q)
def Its (z:Str):It:=⟨fun i _ => i < z.cps.size,fun i H x H' => H' = H ∧ ∃ c,z.cps[i]? = some c ∧ x = .str ⟨#[c]⟩,fun i _ => z.cps.size ≤ i⟩
theorem turn_ascii {P:Program} {w:World} {K:PySem.W.Frag} {tg:Expr} (z:Str) (t:Tok) (it:Addr):Turn P w K tg (Its z) [it] it (fun i h => h.IsStrIter it "str_ascii_iterator" z t i) where
  mem:=by simp
  obj:=fun i h st b hb => by
    have e:b = it:=by simpa using hb
    subst e
    obtain ⟨o,e,c,d⟩:=st
    exact ⟨o,e,fun v z => by rw [d] at z; cases z⟩
  keep:=fun i h h' st k => let ⟨o,ho,r⟩:=st; ⟨o,k it (by simp) o ho,r⟩
  item:=by
    intro X hP hw hK hc i pins s σ H E I hf st hg
    subst hP hw hK
    obtain ⟨f0,f1,f2,f3,f4,f5⟩:=hf it (by simp)
    have hi:i < z.cps.size:=hg
    refine wpAny_pyNext_ascii_item st (c:=z.cps[i]) (by simp [hi]) fun h' st' sb => ?_
    have I1:Inv X pins σ H { s with heap:=h',toks:=s.toks + 1 }:=I.turned (fun b o hb e => (sb.2 b hb).trans e) f0 f1 f3 f4 f5
    obtain ⟨o,e,c,d⟩:=id st'
    exact ⟨_,rfl,go_of (s:={ s with heap:=h',toks:=s.toks + 1 }) e c d (by decide) ⟨.str ⟨#[z.cps[i]]⟩,H,I1,⟨_,rfl⟩,⟨rfl,_,by simp [hi],rfl⟩,st',fun b hb => (hf b hb).1⟩⟩
  done:=by
    intro X hP hw hK hc i pins s σ H E I hf st hg
    subst hP hw hK
    obtain ⟨f0,f1,f2,f3,f4,f5⟩:=hf it (by simp)
    have hi:z.cps.size ≤ i:=hg
    exact wpAny_pyNext_ascii_end (I.ok.hd hc) st (by simp [hi]) fun h' eb => ⟨rfl,I.turned (t':=s.toks) (fun b o hb e => eb b o hb e) f0 f1 f3 f4 f5⟩
  self:=fun _ _ _ _ _ st h => wpAny_pyIter_striter_ascii st h
theorem turn_wide {P:Program} {w:World} {K:PySem.W.Frag} {tg:Expr} (z:Str) (t:Tok) (it:Addr):Turn P w K tg (Its z) [it] it (fun i h => h.IsStrIter it "str_iterator" z t i) where
  mem:=by simp
  obj:=fun i h st b hb => by
    have e:b = it:=by simpa using hb
    subst e
    obtain ⟨o,e,c,d⟩:=st
    exact ⟨o,e,fun v z => by rw [d] at z; cases z⟩
  keep:=fun i h h' st k => let ⟨o,ho,r⟩:=st; ⟨o,k it (by simp) o ho,r⟩
  item:=by
    intro X hP hw hK hc i pins s σ H E I hf st hg
    subst hP hw hK
    obtain ⟨f0,f1,f2,f3,f4,f5⟩:=hf it (by simp)
    have hi:i < z.cps.size:=hg
    refine wpAny_pyNext_wide_item st (c:=z.cps[i]) (by simp [hi]) fun h' st' sb => ?_
    have I1:Inv X pins σ H { s with heap:=h',toks:=s.toks + 1 }:=I.turned (fun b o hb e => (sb.2 b hb).trans e) f0 f1 f3 f4 f5
    obtain ⟨o,e,c,d⟩:=id st'
    exact ⟨_,rfl,go_of (s:={ s with heap:=h',toks:=s.toks + 1 }) e c d (by decide) ⟨.str ⟨#[z.cps[i]]⟩,H,I1,⟨_,rfl⟩,⟨rfl,_,by simp [hi],rfl⟩,st',fun b hb => (hf b hb).1⟩⟩
  done:=by
    intro X hP hw hK hc i pins s σ H E I hf st hg
    subst hP hw hK
    obtain ⟨f0,f1,f2,f3,f4,f5⟩:=hf it (by simp)
    have hi:z.cps.size ≤ i:=hg
    exact wpAny_pyNext_wide_end (I.ok.hd hc) st (by simp [hi]) fun h' eb => ⟨rfl,I.turned (t':=s.toks) (fun b o hb e => eb b o hb e) f0 f1 f3 f4 f5⟩
  self:=fun _ _ _ _ _ st h => wpAny_pyIter_striter_wide st h
section
variable {X:Cx} {tg:Expr}
end
section
variable {X:Cx} {a b c:Expr} {ta tb tc:TE} {pos:Pos}
def rSlS:V → Option Int → Option Int → Hp → VK → Prop:=fun x lo hi H Q => ∃ z,x = .str z ∧ z.length ≤ sizeLine ∧ Q (.str (Txt.slice z lo hi)) H
theorem sl_str:SlR X rSlS:=by
  intro pins s σ H x v vl vu lo hi sl Q I rx hs pl pu h
  obtain ⟨z,rfl,hz,q⟩:=h
  obtain ⟨t,rfl⟩:=rx
  refine ⟨"str",_,PySem.F.slot_str_getitem.lookup,typeIs_str _ _ _,?_⟩
  cases pl with
  | none =>
    cases pu with
    | none => exact wpAny_getItem_str_slice (l:=none) (u:=none) (st:=none) hs rfl (post_val_or_str ⟨Nat.le_trans (Txt.slice_le z _ _) hz,fun t' k => ⟨.str (Txt.slice z none none),H,I.tok _,⟨_,rfl⟩,q⟩⟩)
    | int j uj => exact wpAny_getItem_str_slice (l:=none) (u:=some (j,uj)) (st:=none) hs rfl (post_val_or_str ⟨Nat.le_trans (Txt.slice_le z _ _) hz,fun t' k => ⟨.str (Txt.slice z none (some j)),H,I.tok _,⟨_,rfl⟩,q⟩⟩)
  | int i ui =>
    cases pu with
    | none => exact wpAny_getItem_str_slice (l:=some (i,ui)) (u:=none) (st:=none) hs rfl (post_val_or_str ⟨Nat.le_trans (Txt.slice_le z _ _) hz,fun t' k => ⟨.str (Txt.slice z (some i) none),H,I.tok _,⟨_,rfl⟩,q⟩⟩)
    | int j uj => exact wpAny_getItem_str_slice (l:=some (i,ui)) (u:=some (j,uj)) (st:=none) hs rfl (post_val_or_str ⟨Nat.le_trans (Txt.slice_le z _ _) hz,fun t' k => ⟨.str (Txt.slice z (some i) (some j)),H,I.tok _,⟨_,rfl⟩,q⟩⟩)
theorem strsAre_of {ys:List Str}:∀ {us:List Value},Vals (ys.map V.str) us → StrsAre us ys:=by
  induction ys with
  | nil => intro us r; rw [List.map_nil] at r; cases r; exact .nil
  | cons n ns ih =>
    intro us r
    rw [List.map_cons] at r
    cases r with
    | cons r1 r2 =>
      obtain ⟨t,e⟩:=r1
      subst e
      exact .cons n t (ih r2)
def rJoin (K:PySem.W.Frag):V → List V → Hp → VK → Prop:=fun x vs H Q => ∃ z p ys,x = .str z ∧ vs = [.ref p] ∧ SqL K H p (ys.map V.str) ∧ (ys.map (·.length)).sum + ys.length * z.length ≤ 16777216 ∧ Q (.str (Txt.join z ys)) H
theorem mt_join:MtR X "str.join" (rJoin X.K):=by
  intro pins s σ H x vs v us Q I rx rv h
  obtain ⟨z,p,ys,rfl,rfl,hp,hz,q⟩:=h
  obtain ⟨t,rfl⟩:=rx
  obtain ⟨u,rfl,ru⟩:=rv.one
  cases ru
  obtain ⟨its,r,pl,_⟩:=I.list hp
  exact join_list pl.isList (by simpa using strsAre_of r) hz fun t' k => ⟨.str (Txt.join z ys),H,I.tok _,⟨_,rfl⟩,q⟩
theorem call_isinst:CallR X (.builtin "isinstance") (fun xs H Q => ∃ x T t b,xs = [x,.ty T] ∧ TyOf X.K H x t ∧ PySem.W.kitOne X.K t (.type T) = some b ∧ Q (.bl b) H):=by
  intro pins s σ H xs us Q I r h
  obtain ⟨x,T,t,b,rfl,ty,e,q⟩:=h
  obtain ⟨u,w',rfl,rx,ry⟩:=vals2 r
  cases (show w' = Value.type T from ry)
  exact isinst_ok I rx ty e fun tk => ⟨.bl b,H,I.tok _,rfl,q⟩
theorem boolsAre_of {bs:List Bool}:∀ {us:List Value},Vals (bs.map V.bl) us → LSm.BoolsAre us bs:=by
  induction bs with
  | nil => intro us r; rw [List.map_nil] at r; cases r; exact .nil
  | cons n ns ih =>
    intro us r
    rw [List.map_cons] at r
    cases r with
    | cons r1 r2 =>
      cases r1
      exact .cons n (ih r2)
theorem call_all_list (hc:X.calm = true):CallR X (.builtin "all") (fun xs H Q => ∃ (p:Addr) (bs:List Bool),xs = [.ref p] ∧ SqL X.K H p (bs.map V.bl) ∧ Q (.bl (bs.all id)) H):=by
  intro pins s σ H xs us Q I r h
  obtain ⟨p,bs,rfl,hp,q⟩:=h
  obtain ⟨u,rfl,ru⟩:=vals1 r
  cases ru
  obtain ⟨its,rv,pl,hz⟩:=I.list hp
  have hb:=boolsAre_of rv
  have hl:=pl.isList
  have hlt:p < s.heap.objs.size:=by obtain ⟨_,e,_⟩:=hl; exact Heap.lt_size e
  refine call_all_walk (wpAny_pyIter_list hl ?_)
  refine ⟨s.heap.objs.size,[s.heap.objs.size,p],[s.heap.objs.size],its.toArray.size,_,_,fun i => (bs[i]?).getD true,rfl,Walks.list (A:=X.A.in1) (I.ok.hd hc) _ p (Nat.ne_of_lt hlt) its.toArray,
    ⟨⟨_,Heap.get?_push_size _ rfl,rfl,rfl⟩,hl.push _⟩,fun i v s' Q' E' hP hQ => ?_,fun h' tk hk => ?_⟩
  · obtain ⟨b,e,rfl⟩:=hb.get i v (by simpa using hP)
    simp only [e,Option.getD_some] at hQ
    exact wpAny_truthy_bool hQ
  · have e:((List.range its.toArray.size).all fun i => (bs[i]?).getD true) = bs.all id:=by
      rw [List.size_toArray,hb.length]; exact LSm.range_all bs
    rw [e]
    exact ⟨.bl (bs.all id),H,I.kept (LSm.kept_iter hk),rfl,q⟩
def eqVs (xs ys:List V):Bool:=xs.length == ys.length && (List.range xs.length).all fun j => eqV (xs.getD j .non) (ys.getD j .non)
theorem Vals.getD_rel {xs:List V} {us:List Value} {j:Nat} (r:Vals xs us) (h:j < us.length):RelV (xs.getD j .non) us[j]:=by
  have hl:=r.length
  have hx:j < xs.length:=by omega
  obtain ⟨u,hu,ru⟩:=r.get (List.getElem?_eq_getElem hx)
  rw [List.getElem?_eq_getElem h] at hu
  cases hu
  rw [List.getD_eq_getElem?_getD,List.getElem?_eq_getElem hx]
  exact ru
theorem flat_getD {xs:List V} (h:xs.all flatV = true) (j:Nat):flatV (xs.getD j .non) = true:=by
  rw [List.getD_eq_getElem?_getD]
  cases e:xs[j]? with
  | none => rfl
  | some x => exact List.all_eq_true.mp h x (List.mem_of_getElem? e)
def rEqL (K:PySem.W.Frag) (neg:Bool):R2:=fun x y H Q => ∃ p q xs ys,x = .ref p ∧ y = .ref q ∧ SqL K H p xs ∧ SqL K H q ys ∧ xs.all flatV = true ∧ ys.all flatV = true ∧ Q (.bl (if neg then !eqVs xs ys else eqVs xs ys)) H
theorem eqVs_len {xs ys:List V} (h:xs.length ≠ ys.length):eqVs xs ys = false:=by
  unfold eqVs
  rw [beq_eq_false_iff_ne.mpr h,Bool.false_and]
theorem eqVs_same {xs ys:List V} (h:xs.length = ys.length):eqVs xs ys = (List.range xs.length).all fun j => eqV (xs.getD j .non) (ys.getD j .non):=by
  unfold eqVs
  rw [h,beq_self_eq_true,Bool.true_and]
theorem op_eq_list (hu:X.A.units < cLine):OpR X (compareOp .Eq) (rEqL X.K false):=by
  intro pins s σ H x y v u Q I rx ry h
  obtain ⟨p,q,xs,ys,rfl,rfl,hp,hq,fx,fy,k⟩:=h
  cases rx
  cases ry
  obtain ⟨its,r1,l1,_⟩:=I.list hp
  obtain ⟨its2,r2,l2,_⟩:=I.list hq
  have e1:=r1.length
  have e2:=r2.length
  by_cases hl:xs.length = ys.length
  · refine SeqAt.eq_listAt (e:=fun j => eqV (xs.getD j .non) (ys.getD j .non)) l1.isList l2.isList (by simp only [List.size_toArray]; omega) hu (fun j h1 h2 => ?_) ?_
    · have h1':j < its.length:=by simpa using h1
      have h2':j < its2.length:=by simpa using h2
      simpa using eqAt_V (A:=X.A.in1) (s:=s) (r1.getD_rel h1') (r2.getD_rel h2') (flat_getD fx j) (flat_getD fy j)
    · refine ⟨.bl (eqVs xs ys),H,I,?_,k⟩
      rw [eqVs_same hl]
      simp only [List.size_toArray,← e1]
      rfl
  · refine SeqAt.eq_list_lengthsAt l1.isList l2.isList (by simp only [List.size_toArray,bne_iff_ne]; omega) hu ⟨.bl (eqVs xs ys),H,I,?_,k⟩
    rw [eqVs_len hl]
    rfl
end
end L2
set_option maxHeartbeats 4000000
namespace L2
open PySem PySem.Spec PyProof.Rows
def rdO:Option HO → Option (List V)
  | some (.lst xs) => some xs
  | some (.frz _ (.lst xs)) => some xs
  | _ => none
def rdL (H:Hp) (a:Addr):Option (List V):=rdO (H a)
theorem rdL_sq {K:PySem.W.Frag} {H:Hp} {a:Addr} {xs:List V} (h:rdL H a = some xs):SqL K H a xs:=by
  unfold rdL rdO at h
  split at h
  · cases h; exact .inl (.inl (by assumption))
  · cases h; exact .inl (.inr ⟨_,by assumption⟩)
  · cases h
theorem rdL_of {H:Hp} {a:Addr} {xs:List V} (h:H a = some (.lst xs)):rdL H a = some xs:=by unfold rdL; rw [h]; rfl
theorem rdL_same {H:Hp} {a:Addr} {xs:List V}:rdL (upd H a (.lst xs)) a = some xs:=rdL_of upd_same
theorem rdL_ne {H:Hp} {a b:Addr} {o:HO} (h:b ≠ a):rdL (upd H a o) b = rdL H b:=by unfold rdL; rw [upd_ne h]
theorem rdL_keep {H H':Hp} {a:Addr} {xs:List V} (e:Same H H') (h:rdL H a = some xs):rdL H' a = some xs:=by
  unfold rdL at h ⊢
  cases q:H a with
  | none => rw [q] at h; cases h
  | some o => rw [e a o q,← q]; exact h
theorem rdL_has {H:Hp} {a:Addr} {xs:List V} (h:rdL H a = some xs):∃ o,H a = some o:=by
  unfold rdL at h
  cases q:H a with
  | none => rw [q] at h; cases h
  | some o => exact ⟨o,rfl⟩
theorem rdL_fresh {H:Hp} {a p:Addr} {xs:List V} (h:rdL H a = some xs) (hp:H p = none):a ≠ p:=by
  obtain ⟨o,e⟩:=rdL_has h
  exact ne_of_none e hp
theorem same_upd {H:Hp} {p:Addr} (h:H p = none) (o:HO):Same H (upd H p o):=fun b u q => by rw [upd_ne (ne_of_none q h)]; exact q
def mutL (H:Hp) (a:Addr):Option (List V):=match H a with | some (.lst xs) => some xs | _ => none
theorem mutL_of {H:Hp} {a:Addr} {xs:List V} (h:H a = some (.lst xs)):mutL H a = some xs:=by unfold mutL; rw [h]
theorem of_mutL {H:Hp} {a:Addr} {xs:List V} (h:mutL H a = some xs):H a = some (.lst xs):=by
  unfold mutL at h
  split at h
  · cases h; assumption
  · cases h
theorem mutL_same {H:Hp} {a:Addr} {xs:List V}:mutL (upd H a (.lst xs)) a = some xs:=mutL_of upd_same
theorem mutL_ne {H:Hp} {a b:Addr} {o:HO} (h:b ≠ a):mutL (upd H a o) b = mutL H b:=by unfold mutL; rw [upd_ne h]
def tupL (H:Hp) (a:Addr):Option (List V):=match H a with | some (.tup xs) => some xs | _ => none
theorem tupL_of {H:Hp} {a:Addr} {xs:List V} (h:H a = some (.tup xs)):tupL H a = some xs:=by unfold tupL; rw [h]
theorem of_tupL {H:Hp} {a:Addr} {xs:List V} (h:tupL H a = some xs):H a = some (.tup xs):=by
  unfold tupL at h
  split at h
  · cases h; assumption
  · cases h
theorem tupL_same {H:Hp} {a:Addr} {xs:List V}:tupL (upd H a (.tup xs)) a = some xs:=tupL_of upd_same
section
variable {X:Cx} {a b c:Expr} {ta tb tc:TE} {pos:Pos}
def mVar (i:Nat):TE:=fun σ H Q => match σ[i]? with | some (some v) => Q v H | _ => False
theorem mv (i:Nat) {x:Str} {pos:Pos} (hN:X.N[i]? = some x:=by rfl) (hv:Vis X.env.scope x:=by first | exact Or.inl rfl | exact Or.inr (Or.inl rfl) | exact Or.inr (Or.inr rfl)) (hd:(x == ("__debug__" : Str)) = false:=by decide)
    (hcd:(x == ("__classdict__" : Str)) = false:=by decide):PE X (.Name x pos) (mVar i):=(pv i hN hv hd hcd).imp fun σ H Q q => by
  unfold mVar at q
  split at q
  · exact ⟨_,by assumption,q⟩
  · exact q.elim
def mI (g:Int → Int → V):R2:=fun x y H Q => match x,y with | .int i,.int j => Q (g i j) H | _,_ => False
theorem mI_imp {g:Int → Int → V} {x y:V} {H:Hp} {Q:VK} (q:mI g x y H Q):rI0 g x y H Q:=by
  unfold mI at q
  split at q
  · exact ⟨_,_,rfl,rfl,q⟩
  · exact q.elim
def mIC (C:Int → Int → Prop) (g:Int → Int → V):R2:=fun x y H Q => match x,y with | .int i,.int j => C i j ∧ Q (g i j) H | _,_ => False
theorem mIC_imp {C:Int → Int → Prop} {g:Int → Int → V} {x y:V} {H:Hp} {Q:VK} (q:mIC C g x y H Q):rI C g x y H Q:=by
  unfold mIC at q
  split at q
  · exact ⟨_,_,rfl,rfl,q.1,q.2⟩
  · exact q.elim
def mAdd:R2:=fun x y H Q => match x,y with
  | .int i,.int j => Q (.int (i + j)) H
  | .str z,.str y => z.length + y.length ≤ sizeLine ∧ Q (.str (z ++ y)) H
  | .ref p,.ref q => (match mutL H p,mutL H q with
    | some xs,some zs => xs.length + zs.length ≤ sizeLine ∧ ∀ r,H r = none → Q (.ref r) (upd H r (.lst (xs ++ zs)))
    | _,_ => False)
  | _,_ => False
theorem m_add:OpR X (binaryOp .Add) mAdd:=by
  intro pins s σ H x y v u Q I rx ry q
  unfold mAdd at q
  split at q
  · exact op_add pins s σ H _ _ v u Q I rx ry ⟨_,_,rfl,rfl,q⟩
  · exact op_add_str pins s σ H _ _ v u Q I rx ry ⟨_,_,rfl,rfl,q.1,q.2⟩
  · split at q
    · exact op_cat pins s σ H _ _ v u Q I rx ry ⟨_,_,_,_,rfl,rfl,of_mutL (by assumption),of_mutL (by assumption),q.1,q.2⟩
    · exact q.elim
  · exact q.elim
theorem m_mul:OpR X (binaryOp .Mult) (mIC CMul fun i j => .int (i * j)):=op_mul.imp fun _ _ _ _ q => mIC_imp q
theorem m_mod:OpR X (binaryOp .Mod) (mIC (fun _ j => 0 < j) fun i j => .int (i % j)):=op_mod.imp fun _ _ _ _ q => mIC_imp q
theorem m_fdiv:OpR X (binaryOp .FloorDiv) (mIC CDiv fun i j => .int (i / j)):=op_fdiv.imp fun _ _ _ _ q => mIC_imp q
theorem m_lt:OpR X (compareOp .Lt) (mI fun i j => .bl (decide (i < j))):=op_lt.imp fun _ _ _ _ q => mI_imp q
theorem m_le:OpR X (compareOp .LtE) (mI fun i j => .bl (decide (i ≤ j))):=op_le.imp fun _ _ _ _ q => mI_imp q
theorem m_gt:OpR X (compareOp .Gt) (mI fun i j => .bl (decide (j < i))):=op_gt.imp fun _ _ _ _ q => mI_imp q
theorem m_ge:OpR X (compareOp .GtE) (mI fun i j => .bl (decide (j ≤ i))):=op_ge.imp fun _ _ _ _ q => mI_imp q
def mNeg:V → Hp → VK → Prop:=fun x H Q => match x with | .int i => Q (.int (-i)) H | _ => False
def mEq:R2:=fun x y H Q => scal x y = true ∧ Q (.bl (decide (x = y))) H
theorem m_eq:OpR X (compareOp .Eq) mEq:=op_eq
def mNe:R2:=fun x y H Q => scal x y = true ∧ Q (.bl (!decide (x = y))) H
theorem m_ne:OpR X (compareOp .NotEq) mNe:=op_ne
def mEqL (neg:Bool):R2:=fun x y H Q => match x,y with
  | .ref p,.ref q => (match rdL H p,rdL H q with
    | some xs,some ys => xs.all flatV = true ∧ ys.all flatV = true ∧ Q (.bl (if neg then !eqVs xs ys else eqVs xs ys)) H
    | _,_ => False)
  | _,_ => False
theorem mEqL_imp {K:PySem.W.Frag} {neg:Bool} {x y:V} {H:Hp} {Q:VK} (q:mEqL neg x y H Q):rEqL K neg x y H Q:=by
  unfold mEqL at q
  split at q
  · split at q
    · exact ⟨_,_,_,_,rfl,rfl,rdL_sq (by assumption),rdL_sq (by assumption),q.1,q.2.1,q.2.2⟩
    · exact q.elim
  · exact q.elim
theorem m_eqL (hu:X.A.units < cLine):OpR X (compareOp .Eq) (mEqL false):=(op_eq_list hu).imp fun _ _ _ _ q => mEqL_imp q
def subIn (y x:Str):Bool:=!(Builtin.Str.occurrences x y 0 x.length 1).isEmpty
theorem subIn_one (x:Str) (c:Nat):subIn ⟨#[c]⟩ x = decide (c ∈ x.cps.toList):=PySem.StrLaws.found_one x c
def mInS (neg:Bool):R2:=fun x y H Q => match x,y with | .str i,.str j => Q (.bl (if neg then !subIn i j else subIn i j)) H | _,_ => False
theorem m_inS:OpR X (compareOp .In) (mInS false):=op_in_str.imp fun _ _ _ _ q => by
  unfold mInS at q
  split at q
  · exact ⟨_,_,rfl,rfl,q⟩
  · exact q.elim
theorem m_notInS:OpR X (compareOp .NotIn) (mInS true):=op_notin_str.imp fun _ _ _ _ q => by
  unfold mInS at q
  split at q
  · exact ⟨_,_,rfl,rfl,q⟩
  · exact q.elim
def mInL (neg:Bool):R2:=fun x y H Q => match y with
  | .ref p => (match rdL H p with | some xs => flatV x = true ∧ xs.all flatV = true ∧ Q (.bl (if neg then !inV x xs else inV x xs)) H | none => False)
  | _ => False
theorem mInL_imp {K:PySem.W.Frag} {neg:Bool} {x y:V} {H:Hp} {Q:VK} (q:mInL neg x y H Q):rIn K neg x y H Q:=by
  unfold mInL at q
  split at q
  · split at q
    · exact ⟨_,_,rfl,.inl (rdL_sq (by assumption)),q.1,q.2.1,q.2.2⟩
    · exact q.elim
  · exact q.elim
theorem m_notInL:OpR X (compareOp .NotIn) (mInL true):=op_notIn_seq.imp fun _ _ _ _ q => mInL_imp q
def mB (Q:Bool → Hp → Prop):VK:=fun x H => match x with | .bl k => Q k H | _ => False
theorem mB_ex {Q:Bool → Hp → Prop} {x:V} {H:Hp} (q:mB Q x H):∃ k,x = .bl k ∧ Q k H:=by
  unfold mB at q
  split at q
  · exact ⟨_,rfl,q⟩
  · exact q.elim
def mTest (t:TE):TT:=fun σ H Q => t σ H (mB Q)
theorem mt_cmp {op:CmpOp} {r:R2} (ho:OpR X (compareOp op) r) (ha:PE X a ta) (hb:PE X b tb) (hm:behindInMarks op b = false):PT X (.Compare a [op] [b] pos) (mTest (tOp r ta tb)):=by
  intro pins s σ H Q I h
  refine wpAny_isTrue_Compare1 (thn (ha pins s σ H _ I h) fun v s1 ⟨x,H1,I1,r1,q1⟩ => thn (hb pins s1 σ H1 _ I1 q1) fun u s2 ⟨y,H2,I2,r2,q2⟩ =>
    thn (ho pins s2 σ H2 x y v u _ I2 r1 r2 q2) fun c s3 ⟨z,H3,I3,r3,q⟩ => ?_) hm
  obtain ⟨k,e,q3⟩:=mB_ex q
  subst e
  cases r3
  exact wpAny_truthy_bool ⟨H3,I3,q3⟩
def mTru (Q:Bool → Hp → Prop):VK:=fun x H => match x with
  | .non => Q false H
  | .bl k => Q k H
  | .int i => Q (i != 0) H
  | .str y => y.length ≤ sizeLine ∧ Q ((y.length:Int) != 0) H
  | .ref p => (match rdL H p with
    | some xs => Q (!xs.isEmpty) H
    | none => (match H p with | some (.dK kvs) => Q (!kvs.isEmpty) H | _ => False))
  | _ => False
theorem mTru_ex {K:PySem.W.Frag} {Q:Bool → Hp → Prop} {x:V} {H:Hp} (q:mTru Q x H):∃ k,TruV K x H k ∧ Q k H:=by
  unfold mTru at q
  split at q
  · exact ⟨_,rfl,q⟩
  · exact ⟨_,rfl,q⟩
  · exact ⟨_,rfl,q⟩
  · exact ⟨_,⟨q.1,rfl⟩,q.2⟩
  · split at q
    · exact ⟨_,.inl ⟨_,rdL_sq (by assumption),rfl⟩,q⟩
    · split at q
      · exact ⟨_,.inr (.inr ⟨_,by assumption,rfl⟩),q⟩
      · exact q.elim
  · exact q.elim
def mTruth (t:TE):TT:=fun σ H Q => t σ H (mTru Q)
theorem mt_truth (ha:PE X a ta) (he:∀ whole,isTrue a X.env whole = (do let v ← whole; standAt a.pos; holding [v] (truthy v)):=by intro _; rfl):PT X a (mTruth ta):=by
  intro pins s σ H Q I h
  refine isTrue_plain (thn (ha pins s σ H _ I h) fun v s1 ⟨x,H1,I1,r1,q1⟩ => tru_ok pins s1 σ H1 x v Q I1 r1 (mTru_ex q1)) (he _)
def mChain (r r':R2) (ta tb tc:TE):TE:=fun σ H Q => ta σ H fun x H1 => tb σ H1 fun y H2 => r x y H2 (mB fun k H3 => if k = true then tc σ H3 fun w' H4 => r' y w' H4 Q else Q (.bl false) H3)
theorem me_chain {op op':CmpOp} {r r':R2} (ho:OpR X (compareOp op) r) (ho':OpR X (compareOp op') r') (ha:PE X a ta) (hb:PE X b tb) (hc:PE X c tc)
    (hm:lastMarks [op,op'] [b,c] = false:=by with_unfolding_all rfl):PE X (.Compare a [op,op'] [b,c] pos) (mChain r r' ta tb tc):=by
  intro pins s σ H Q I h
  refine Compare_chain (thn (ha pins s σ H _ I h) fun v s1 ⟨x,H1,I1,r1,q1⟩ => chain_link (thn (hb pins s1 σ H1 _ I1 q1) fun u s2 ⟨y,H2,I2,r2,q2⟩ =>
    thn (ho pins s2 σ H2 x y v u _ I2 r1 r2 q2) fun d s3 ⟨z,H3,I3,r3,q⟩ => ?_)) hm
  obtain ⟨k,e,q3⟩:=mB_ex q
  subst e
  cases r3
  refine wpAny_truthy_bool ?_
  cases k with
  | false => exact ite_ff ⟨.bl false,H3,I3,rfl,q3⟩
  | true => exact ite_tt (chain_last (thn (hc pins s3 σ H3 _ I3 q3) fun w' s4 ⟨z',H4,I4,r4,q4⟩ => ho' pins s4 σ H4 y z' u w' Q I4 r2 r4 q4))
variable {rest:List Expr}
def mAndV (ta tb:TE):TE:=fun σ H Q => ta σ H (mB fun c H1 => if c = true then tb σ H1 Q else Q (.bl false) H1)
def mOrV (ta tb:TE):TE:=fun σ H Q => ta σ H (mB fun c H1 => if c = true then Q (.bl true) H1 else tb σ H1 Q)
def mNotV (ta:TE):TE:=fun σ H Q => ta σ H (mB fun c H1 => Q (.bl (!c)) H1)
theorem me_and (ha:PE X a ta) (hb:PE X (.BoolOp .And (b :: rest) pos) tb):PE X (.BoolOp .And (a :: b :: rest) pos) (mAndV ta tb):=by
  intro pins s σ H Q I h
  refine BoolOp_and (thn (ha pins s σ H _ I h) fun v s1 ⟨x,H1,I1,r1,q1⟩ => ?_)
  obtain ⟨c,rfl,q1⟩:=mB_ex q1
  cases r1
  refine wpAny_truthy_bool ?_
  cases c with
  | true => exact hb pins s1 σ H1 Q I1 q1
  | false => exact ⟨.bl false,H1,I1,rfl,q1⟩
theorem me_or (ha:PE X a ta) (hb:PE X (.BoolOp .Or (b :: rest) pos) tb):PE X (.BoolOp .Or (a :: b :: rest) pos) (mOrV ta tb):=by
  intro pins s σ H Q I h
  refine BoolOp_or (thn (ha pins s σ H _ I h) fun v s1 ⟨x,H1,I1,r1,q1⟩ => ?_)
  obtain ⟨c,rfl,q1⟩:=mB_ex q1
  cases r1
  refine wpAny_truthy_bool ?_
  cases c with
  | false => exact hb pins s1 σ H1 Q I1 q1
  | true => exact ⟨.bl true,H1,I1,rfl,q1⟩
theorem me_not (ha:PE X a ta):PE X (.UnaryOp .Not a pos) (mNotV ta):=by
  intro pins s σ H Q I h
  refine UnaryOp_ (thn (ha pins s σ H _ I h) fun v s1 ⟨x,H1,I1,r1,q1⟩ => ?_)
  obtain ⟨c,rfl,q1⟩:=mB_ex q1
  cases r1
  exact not_of (wpAny_truthy_bool ⟨.bl (!c),H1,I1,rfl,q1⟩)
def mIx:R2:=fun x y H Q => match x,y with
  | .str z,.int i => z.length ≤ sizeLine ∧ (match atI z.cps.toList i with | some c => Q (.str ⟨#[c]⟩) H | none => False)
  | .ref p,.int i => (match rdL H p with
    | some xs => (match atI xs i with | some v => Q v H | none => False)
    | none => (match tupL H p with
      | some xs => (match atI xs i with | some v => Q v H | none => False)
      | none => False))
  | _,_ => False
theorem mIx_imp {K:PySem.W.Frag} {x y:V} {H:Hp} {Q:VK} (q:mIx x y H Q):rIx K x y H Q:=by
  unfold mIx at q
  split at q
  · obtain ⟨h1,q⟩:=q
    split at q
    · exact .inr (.inr ⟨_,_,_,rfl,rfl,h1,by assumption,q⟩)
    · exact q.elim
  · split at q
    · split at q
      · exact .inl ⟨_,_,_,_,rfl,rfl,rdL_sq (by assumption),by assumption,q⟩
      · exact q.elim
    · split at q
      · split at q
        · exact .inr (.inl ⟨_,_,_,_,rfl,rfl,SqT.of (of_tupL (by assumption)),by assumption,q⟩)
        · exact q.elim
      · exact q.elim
  · exact q.elim
theorem m_ix:IxR X mIx:=ix_seq.imp fun _ _ _ _ q => mIx_imp q
def mSl:V → Option Int → Option Int → Hp → VK → Prop:=fun x lo hi H Q => match x with
  | .str z => z.length ≤ sizeLine ∧ Q (.str (Txt.slice z lo hi)) H
  | .ref p => (match rdL H p with | some xs => ∀ r,H r = none → Q (.ref r) (upd H r (.lst (cutV xs lo hi))) | none => False)
  | _ => False
theorem m_sl:SlR X mSl:=(sl_list.or sl_str).imp fun _ _ _ _ _ q => by
  unfold mSl at q
  split at q
  · exact .inr ⟨_,rfl,q.1,q.2⟩
  · split at q
    · exact .inl ⟨_,_,rfl,rdL_sq (by assumption),q⟩
    · exact q.elim
  · exact q.elim
def onIntP (Q:Option Int → Hp → Prop):VK:=fun x H1 => match x with | .int i => Q (some i) H1 | _ => False
def mPart (t:TE):TO:=fun σ H Q => t σ H (onIntP Q)
variable {e:Expr} {te:TE}
theorem mo_some (h:PE X e te):PO X (some e) (mPart te):=by
  intro pins s σ H Q I hw
  rw [evalPart_some]
  refine thn (h pins s σ H _ I hw) fun u s1 ⟨x,H1,I1,r1,q1⟩ => ?_
  unfold onIntP at q1
  split at q1
  · obtain ⟨t,rfl⟩:=r1
    exact ⟨_,H1,I1,.int _ t,q1⟩
  · exact q1.elim
def mLen:List V → Hp → VK → Prop:=fun xs H Q => match xs with
  | [.str z] => z.length ≤ sizeLine ∧ Q (.int z.length) H
  | [.ref p] => (match rdL H p with
    | some xs => Q (.int xs.length) H
    | none => (match tupL H p with | some xs => Q (.int xs.length) H | none => False))
  | _ => False
theorem m_len:CallR X (.builtin "len") mLen:=call_len.imp fun _ _ _ q => by
  unfold mLen at q
  split at q
  · exact ⟨_,_,rfl,⟨q.1,rfl⟩,q.2⟩
  · split at q
    · exact ⟨_,_,rfl,.inl ⟨_,rdL_sq (by assumption),rfl⟩,q⟩
    · split at q
      · exact ⟨_,_,rfl,.inr ⟨_,SqT.of (of_tupL (by assumption)),rfl⟩,q⟩
      · exact q.elim
  · exact q.elim
def mList:List V → Hp → VK → Prop:=fun xs H Q => match xs with
  | [.ref p] => (match rdL H p with
    | some ys => ∀ l,H l = none → Q (.ref l) (upd H l (.lst ys))
    | none => (match tupL H p with | some ys => ∀ l,H l = none → Q (.ref l) (upd H l (.lst ys)) | none => False))
  | _ => False
def mTyV (T:String) (x:V) (H:Hp) (P:Prop):Prop:=match x with
  | .str _ => T = "str" ∧ P
  | .ref p => (match rdL H p with | some _ => T = "list" ∧ P | none => False)
  | _ => False
theorem mTyV_imp {K:PySem.W.Frag} {T:String} {x:V} {H:Hp} {P:Prop} (q:mTyV T x H P):tyV K T x H ∧ P:=by
  unfold mTyV at q
  split at q
  · exact ⟨q.1,q.2⟩
  · split at q
    · exact ⟨.inl ⟨q.1,_,rdL_sq (by assumption)⟩,q.2⟩
    · exact q.elim
  · exact q.elim
def mMeth (T:String) (r:V → List V → Hp → VK → Prop) (to:TE) (t:TA):TE:=fun σ H Q => to σ H fun x H1 => mTyV T x H1 (t σ H1 fun xs H2 => r x xs H2 Q)
variable {o:Expr} {es:List Expr} {to:TE} {t:TA} {name:Str} {apos cpos:Pos} {T id:String} {r:V → List V → Hp → VK → Prop}
theorem me_meth (pa:PlainAttrs T) (slot:Slot T name id) (hty:typeOf (.builtin id) = pure (.type "method_descriptor")) (hm:MtR X id r) (ho:PE X o to) (ha:PA X (e :: es) t)
    (hbase:attributeBase o name X.env (eval o X.env) = eval o X.env:=by rfl)
    (hfew:((backTo cpos (starEach (e :: es) X.env)).all (fun x => !x.1) && (backToKw cpos (keywordEach [] X.env)).all (fun x => x.1.isSome)
      && decide ((e :: es).length + ([]:List Keyword).length + (if ([]:List Keyword).isEmpty then 0 else 1) < 30)) = true:=by rfl)
    (hline:(apos.endLine == cpos.line) = true:=by rfl) (hs:starEach (e :: es) X.env = (false,eval e X.env) :: starEach es X.env:=by rfl) (hplain:(backTo cpos (starEach es X.env)).any (·.1) = false:=by rfl) :
    PE X (.Call (.Attribute o name apos) (e :: es) [] cpos) (mMeth T r to t):=by
  intro pins s σ H Q I h
  refine wpAny_Call_method_late hbase hfew hline rfl (thn (ho pins s σ H _ I h) fun v s1 ⟨x,H1,I1,r1,q⟩ => ?_)
  obtain ⟨ty,q1⟩:=mTyV_imp (K:=X.K) q
  obtain ⟨h1,h2⟩:=tyV_is I1 r1 ty
  refine ⟨T,id,pa,slot,hty,h1,h2,?_⟩
  have hA:=ha cpos pins s1 σ H1 _ I1 q1
  rw [hs] at hA ⊢
  refine Calls.callWith_builtin (by show (false || (backTo cpos (starEach es X.env)).any (·.1)) = false; rw [hplain] <;> rfl) (Calls.evalArgs_plain ?_)
  exact thn hA fun us s2 ⟨vs,H2,I2,r2,q2⟩ => hm pins s2 σ H2 x vs v us Q I2 r1 r2 q2
def mApp:V → List V → Hp → VK → Prop:=fun x vs H Q => match x,vs with
  | .ref l,[y] => (match mutL H l with | some xs => xs.length < sizeLine ∧ Q .non (upd H l (.lst (xs ++ [y]))) | none => False)
  | _,_ => False
theorem m_app:MtR X "list.append" mApp:=MtR.imp (r:=rAppend) mt_append fun _ _ _ _ q => by
  unfold mApp at q
  split at q
  · split at q
    · exact ⟨_,_,_,rfl,rfl,of_mutL (by assumption),q.1,q.2⟩
    · exact q.elim
  · exact q.elim
def strsOf:List V → Option (List Str)
  | [] => some []
  | .str z :: r => (strsOf r).map (z :: ·)
  | _ => none
theorem strsOf_map (ys:List Str):strsOf (ys.map V.str) = some ys:=by
  induction ys with
  | nil => rfl
  | cons y r ih => rw [List.map_cons,strsOf,ih]; rfl
theorem of_strsOf:∀ {xs:List V} {ys:List Str},strsOf xs = some ys → xs = ys.map V.str
  | [],_,h => by cases h; rfl
  | .str z :: r,_,h => by
    rw [strsOf] at h
    cases e:strsOf r with
    | none => rw [e] at h; cases h
    | some l => rw [e] at h; cases h; rw [of_strsOf e]; rfl
  | .non :: _,_,h => by cases h
  | .bl _ :: _,_,h => by cases h
  | .int _ :: _,_,h => by cases h
  | .byt _ :: _,_,h => by cases h
  | .flt _ :: _,_,h => by cases h
  | .ref _ :: _,_,h => by cases h
  | .ty _ :: _,_,h => by cases h
def mJoin:V → List V → Hp → VK → Prop:=fun x vs H Q => match x,vs with
  | .str z,[.ref p] => (match rdL H p with
    | some xs => (match strsOf xs with | some ys => (ys.map (·.length)).sum + ys.length * z.length ≤ 16777216 ∧ Q (.str (Txt.join z ys)) H | none => False)
    | none => False)
  | _,_ => False
theorem m_join:MtR X "str.join" mJoin:=mt_join.imp fun _ _ _ _ q => by
  unfold mJoin at q
  split at q
  · split at q
    · split at q
      · have e:=of_strsOf (by assumption)
        subst e
        exact ⟨_,_,_,rfl,rfl,rdL_sq (by assumption),q.1,q.2⟩
      · exact q.elim
    · exact q.elim
  · exact q.elim
def bolsOf:List V → Option (List Bool)
  | [] => some []
  | .bl z :: r => (bolsOf r).map (z :: ·)
  | _ => none
theorem bolsOf_map (ys:List Bool):bolsOf (ys.map V.bl) = some ys:=by
  induction ys with
  | nil => rfl
  | cons y r ih => rw [List.map_cons,bolsOf,ih]; rfl
theorem of_bolsOf:∀ {xs:List V} {ys:List Bool},bolsOf xs = some ys → xs = ys.map V.bl
  | [],_,h => by cases h; rfl
  | .bl z :: r,_,h => by
    rw [bolsOf] at h
    cases e:bolsOf r with
    | none => rw [e] at h; cases h
    | some l => rw [e] at h; cases h; rw [of_bolsOf e]; rfl
  | .non :: _,_,h => by cases h
  | .str _ :: _,_,h => by cases h
  | .int _ :: _,_,h => by cases h
  | .byt _ :: _,_,h => by cases h
  | .flt _ :: _,_,h => by cases h
  | .ref _ :: _,_,h => by cases h
  | .ty _ :: _,_,h => by cases h
def mAll:List V → Hp → VK → Prop:=fun vs H Q => match vs with
  | [.ref p] => (match rdL H p with
    | some xs => (match bolsOf xs with | some bs => Q (.bl (bs.all _root_.id)) H | none => False)
    | none => False)
  | _ => False
theorem m_all (hc:X.calm = true):CallR X (.builtin "all") mAll:=(call_all_list hc).imp fun _ _ _ q => by
  unfold mAll at q
  split at q
  · split at q
    · split at q
      · have e:=of_bolsOf (by assumption)
        subst e
        exact ⟨_,_,rfl,rdL_sq (by assumption),q⟩
      · exact q.elim
    · exact q.elim
  · exact q.elim
def tyN (x:V) (H:Hp):Option String:=match x with
  | .non => some "NoneType"
  | .bl _ => some "bool"
  | .int _ => some "int"
  | .str _ => some "str"
  | .ref p => (match H p with
    | some (.lst _) => some "list"
    | some (.frz _ (.lst _)) => some "list"
    | some (.tup _) => some "tuple"
    | some (.dK _) => some "dict"
    | _ => none)
  | _ => none
theorem tyN_of {K:PySem.W.Frag} {x:V} {H:Hp} {t:String} (h:tyN x H = some t):TyOf K H x (.type t):=by
  unfold tyN at h
  split at h
  · cases h; exact .non
  · cases h; exact .bl _
  · cases h; exact .int _
  · cases h; exact .str _
  · split at h
    · cases h; exact .lst (by assumption)
    · cases h; exact .frz (by assumption)
    · cases h; exact .tup (by assumption)
    · cases h; exact .dK (by assumption)
    · cases h
  · cases h
theorem lenE1 {α:Type} {us:List α} {C:List α → Prop} (h:us.length = 1) (k:∀ a,C [a]):C us:=by obtain ⟨a,e⟩:=List.length_eq_one_iff.mp h; rw [e]; exact k a
theorem lenES {α:Type} {us:List α} {n:Nat} {C:List α → Prop} (h:us.length = n + 1) (k:∀ a l,l.length = n → C (a :: l)):C us:=by
  cases us with
  | nil => cases h
  | cons a l => exact k a l (Nat.succ.inj h)
theorem lenE2 {α:Type} {us:List α} {C:List α → Prop} (h:us.length = 2) (k:∀ a b,C [a,b]):C us:=lenES (C:=C) h fun a l h' => lenE1 (C:=fun l => C (a :: l)) h' (k a)
theorem lenE3 {α:Type} {us:List α} {C:List α → Prop} (h:us.length = 3) (k:∀ a b c,C [a,b,c]):C us:=lenES (C:=C) h fun a l h' => lenE2 (C:=fun l => C (a :: l)) h' (k a)
def isiB (t T:String):Bool:=decide (t = T) || (decide (t = "bool") && decide (T = "int"))
def isiN (t T:String):Bool:=["NoneType", "bool", "int", "str", "list", "tuple", "dict"].contains t && ["bool", "int", "str", "list", "tuple", "dict"].contains T
def isiT (t T:String):Option Bool:=bif isiN t T then some (isiB t T) else none
theorem isi_all {K:PySem.W.Frag}:∀ t ∈ ["NoneType", "bool", "int", "str", "list", "tuple", "dict"],∀ T ∈ ["bool", "int", "str", "list", "tuple", "dict"],PySem.W.kitOne K (.type t) (.type T) = some (isiB t T):=by
  simp only [List.forall_mem_cons,List.not_mem_nil,false_implies,implies_true,and_true]
  refine ⟨⟨rfl,rfl,rfl,rfl,rfl,rfl⟩,⟨rfl,rfl,rfl,rfl,rfl,rfl⟩,⟨rfl,rfl,rfl,rfl,rfl,rfl⟩,⟨rfl,rfl,rfl,rfl,rfl,rfl⟩,⟨rfl,rfl,rfl,rfl,rfl,rfl⟩,⟨rfl,rfl,rfl,rfl,rfl,rfl⟩,⟨rfl,rfl,rfl,rfl,rfl,rfl⟩⟩
theorem isiT_kit {K:PySem.W.Frag} {t T:String} {b:Bool} (h:isiT t T = some b):PySem.W.kitOne K (.type t) (.type T) = some b:=by
  unfold isiT at h
  cases hn:isiN t T with
  | false => rw [hn] at h; cases h
  | true =>
    rw [hn] at h; cases h
    unfold isiN at hn; rw [Bool.and_eq_true] at hn
    exact isi_all t (List.contains_iff_mem.mp hn.1) T (List.contains_iff_mem.mp hn.2)
def mIsi:List V → Hp → VK → Prop:=fun xs H Q => match xs with
  | [x,.ty T] => (match tyN x H with
    | some t => (match isiT t T with | some b => Q (.bl b) H | none => False)
    | none => False)
  | _ => False
theorem m_isi:CallR X (.builtin "isinstance") mIsi:=call_isinst.imp fun _ _ _ q => by
  unfold mIsi at q
  split at q
  · split at q
    · split at q
      · exact ⟨_,_,_,_,rfl,tyN_of (by assumption),isiT_kit (by assumption),q⟩
      · exact q.elim
    · exact q.elim
  · exact q.elim
end
end L2
namespace L2
open PySem PySem.Spec PyProof.Rows
def onStr (R:Str → Hp → Prop):VK:=fun x H => match x with | .str z => R z H | _ => False
theorem onStr_ex {R:Str → Hp → Prop} {x:V} {H:Hp} (q:onStr R x H):∃ z,x = .str z ∧ R z H:=by
  unfold onStr at q
  split at q
  · exact ⟨_,rfl,q⟩
  · exact q.elim
def onL (o:Option (List V)) (P:Prop):Prop:=match o with | some _ => P | none => False
def onRef (R:Addr → Hp → Prop):VK:=fun x H => match x with | .ref a => R a H | _ => False
theorem onRef_ex {R:Addr → Hp → Prop} {x:V} {H:Hp} (q:onRef R x H):∃ a,x = .ref a ∧ R a H:=by
  unfold onRef at q
  split at q
  · exact ⟨_,rfl,q⟩
  · exact q.elim
section
variable {X:Cx} {tg l a b:Expr} {tl ta tb:TE} {p pos:Pos}
def jStr (tl:TE):TI:=fun σ H R => tl σ H (onStr fun z H1 => R (Its z) H1)
theorem pj_str (hl:PE X l tl):PI X tg l (jStr tl):=by
  intro pins s σ H R I h
  refine thn (hl pins s σ H _ I h) fun v s1 ⟨x,H1,I1,r1,q1⟩ => ?_
  obtain ⟨z,rfl,q⟩:=onStr_ex q1
  obtain ⟨t,rfl⟩:=r1
  have fb:∀ b ∈ [s1.heap.objs.size],FpOk X pins H1 b:=fun b hb => by
    have e:b = s1.heap.objs.size:=by simpa using hb
    subst e
    exact I1.fpOk (Nat.le_refl _) (I1.hok.fresh (Nat.le_refl _))
  cases ha:z.cps.all (· < 128)
  · refine wpAny_pyIter_wide ha ?_
    exact ⟨s1.heap.objs.size,[s1.heap.objs.size],_,_,H1,rfl,I1.kept (t':=s1.toks) fun b o e => Heap.get?_push_of_some _ e,turn_wide z t _,⟨_,Heap.get?_push_size _ rfl,rfl,rfl⟩,fb,q⟩
  · refine wpAny_pyIter_ascii ha ?_
    exact ⟨s1.heap.objs.size,[s1.heap.objs.size],_,_,H1,rfl,I1.kept (t':=s1.toks) fun b o e => Heap.get?_push_of_some _ e,turn_ascii z t _,⟨_,Heap.get?_push_size _ rfl,rfl,rfl⟩,fb,q⟩
def jList (K:PySem.W.Frag) (tl:TE):TI:=fun σ H R => tl σ H (onRef fun a H1 => onL (rdL H1 a) (R (Itl K a) H1))
theorem pj_list (hl:PE X l tl):PI X tg l (jList X.K tl):=by
  intro pins s σ H R I h
  refine thn (hl pins s σ H _ I h) fun v s1 ⟨x,H1,I1,r1,q1⟩ => ?_
  obtain ⟨a,rfl,q⟩:=onRef_ex q1
  cases r1
  unfold onL at q
  split at q
  · rename_i xs e
    obtain ⟨its,rv,p,hz⟩:=I1.list (rdL_sq e)
    refine wpAny_pyIter_list p.isList ?_
    refine ⟨s1.heap.objs.size,[s1.heap.objs.size],_,_,H1,rfl,I1.kept (t':=s1.toks) fun b o e => Heap.get?_push_of_some _ e,turn_list a _,⟨_,Heap.get?_push_size _ rfl,rfl,rfl⟩,fun b hb => ?_,q⟩
    have e:b = s1.heap.objs.size:=by simpa using hb
    subst e
    exact I1.fpOk (Nat.le_refl _) (I1.hok.fresh (Nat.le_refl _))
  · exact q.elim
def onI1 (R:Int → Hp → Prop):List V → Hp → Prop:=fun vs H => match vs with | [.int j] => R j H | _ => False
theorem onI1_ex {R:Int → Hp → Prop} {vs:List V} {H:Hp} (q:onI1 R vs H):∃ j,vs = [.int j] ∧ R j H:=by
  unfold onI1 at q
  split at q
  · exact ⟨_,rfl,q⟩
  · exact q.elim
def jRng1 (ta:TA):TI:=fun σ H R => ta σ H (onI1 fun j H1 => (-(2 ^ 62) ≤ j ∧ j < 2 ^ 62) ∧ R (Itr 0 j.toNat) H1)
theorem pj_range1 {ta:TA} (hg:Gl X "range") (hm:X.mg "range" = none) (ha:PA X [a] ta) (hs:starEach [a] X.env = [(false,eval a X.env)]:=by rfl):PI X tg (.Call (.Name "range" p) [a] [] pos) (jRng1 ta):=by
  intro pins s σ H R I h
  refine Call_ (ld_blt I hg hm boot_range (PyProof.Rows.callWith_type1 (thn (ha pos pins s σ H _ I h) fun us s1 ⟨vs,H1,I1,r1,q1⟩ => ?_) hs rfl))
  obtain ⟨j,e,⟨b1,b2⟩,q⟩:=onI1_ex q1
  subst e
  cases r1 with
  | cons r rr =>
    cases rr
    obtain ⟨t,rfl⟩:=r
    exact call_range_1 (range_it I1 (by omega) (by omega) b1 b2 (by simpa using q))
def ForJ (J:It) (g:TG) (tb:TS) (D:Ends) (σ:St) (H1:Hp):Prop:=∃ W:Nat → Nat → St → Hp → Prop,(∃ m,W 0 m σ H1) ∧ ∀ i m σ H,W i m σ H →
  (J.stop i H ∧ D.nx σ H) ∨ (J.go i H ∧ ∃ N:St → Hp → Prop,(∀ σ' H',N σ' H' → ∃ m',m' < m ∧ W (i + 1) m' σ' H') ∧ ∀ x H',J.yld i H x H' → g x σ H' fun σ2 H2 => tb { D with nx:=N,ct:=N,bk:=D.nx } σ2 H2)
def tForJ (wi:TI) (g:TG) (tb:TS):TS:=fun D σ H => wi σ H fun J H1 => ForJ J g tb D σ H1
theorem pj_for {iter:Expr} {body:List Stmt} {wi:TI} {g:TG} {tb:TS} (hp:PassesOwn (model X.prog X.w) X.A X.env X.xe) (hc:X.calm = true) (hi:PI X tg iter wi) (hg:PG X tg g) (hb:PSs X body tb)
    (hs:∀ x,foldedSetIterable iter X.env x = pure x:=by intro _; rfl):PS X (.For tg iter body [] pos) (tForJ wi g tb):=ps_for (wi:=wi) hp hc hi hg hb hs
section
variable {K:PySem.W.Frag} {c:Addr} {xs:List V} {z:Str} {lo:Int} {n:Nat} {g:TG} {tb:TS} {D:Ends} {σ:St} {H:Hp}
theorem fj_list (Pv:Nat → St → Hp → Prop) (h0:Pv 0 σ H) (hl:∀ i σ H,i ≤ xs.length → Pv i σ H → rdL H c = some xs)
    (hs:∀ i x σ H,xs[i]? = some x → Pv i σ H → g x σ H fun σ2 H2 => tb { D with nx:=Pv (i + 1),ct:=Pv (i + 1),bk:=D.nx } σ2 H2) (hd:∀ σ H,Pv xs.length σ H → D.nx σ H):ForJ (Itl K c) g tb D σ H :=
  for_list Pv h0 (fun i σ H hi p => rdL_sq (hl i σ H hi p)) hs hd
theorem fj_range (Pv:Nat → St → Hp → Prop) (h0:Pv 0 σ H)
    (hs:∀ i σ H,i < n → Pv i σ H → g (.int (lo + i)) σ H fun σ2 H2 => tb { D with nx:=Pv (i + 1),ct:=Pv (i + 1),bk:=D.nx } σ2 H2) (hd:∀ σ H,Pv n σ H → D.nx σ H):ForJ (Itr lo n) g tb D σ H :=
  for_range Pv h0 hs hd
end
theorem pe_bty {x:Str} {T:String} (hg:Gl X x) (hm:X.mg x = none) (hv:bootBuiltins x = some (.type T)) (hn:x ≠ "__name__" := by decide) (hd:(x == ("__debug__" : Str)) = false:=by decide):PE X (.Name x pos) (tC (.ty T)):=pe_bltn hg hm hv rfl hn hd
end
end L2
set_option maxHeartbeats 4000000
namespace L2
open PySem PySem.Spec PyProof.Rows
section
variable {K:PySem.W.Frag} {σ:St} {H:Hp} {Q:VK} {QB:Bool → Hp → Prop} {QA:List V → Hp → Prop} {QO:Option Int → Hp → Prop} {D:Ends} {t u:TS} {te ta tb tc:TE} {tt tu:TT} {tA:TA} {r r':R2} {x y v:V} {i j:Int} {z z':Str} {p q:Addr} {xs ys vs:List V} {k n:Nat}
theorem s_seq (h:t { D with nx:=u D } σ H):tSeq t u D σ H:=h
theorem s_next (h:D.nx σ H):tNext D σ H:=h
theorem s_if {c:TT} (h:c σ H fun b H1 => if b = true then t D σ H1 else u D σ H1):tIfS c t u D σ H:=h
theorem s_ret (h:te σ H D.rt):tRet te D σ H:=h
theorem s_drop (h:te σ H fun _ H1 => D.nx σ H1):tDrop te D σ H:=h
theorem s_asg {g:TG} (h:te σ H fun x H1 => g x σ H1 D.nx):tAsg te g D σ H:=h
theorem s_for {wi:TI} {g:TG} {tb:TS} (h:wi σ H fun J H1 => ForJ J g tb D σ H1):tForJ wi g tb D σ H:=h
theorem s_gname {QS:St → Hp → Prop} (h:QS (σ.set k (some v)) H):gName k v σ H QS:=h
theorem s_var (e:σ[k]? = some (some v)) (h:Q v H):mVar k σ H Q:=by unfold mVar; rw [e]; exact h
theorem s_c (h:Q v H):tC v σ H Q:=h
theorem s_op (h:ta σ H fun x H1 => tb σ H1 fun y H2 => r x y H2 Q):tOp r ta tb σ H Q:=h
theorem s_nil (h:QA [] H):tNil σ H QA:=h
theorem s_cons {tr:TA} (h:ta σ H fun x H1 => tr σ H1 fun xs H2 => QA (x :: xs) H2):tCons ta tr σ H QA:=h
theorem s_lst (h:tA σ H fun xs H1 => xs.length ≤ sizeLine ∧ ∀ p,H1 p = none → Q (.ref p) (upd H1 p (.lst xs))):tLst tA σ H Q:=h
theorem s_tup (h:tA σ H fun xs H1 => xs.length ≤ sizeLine ∧ ∀ p,H1 p = none → Q (.ref p) (upd H1 p (.tup xs))):tTup tA σ H Q:=h
theorem s_call {sp:Sp} {E:XK} (h:tA σ H fun vs H1 => sp (vs ++ []) H1 Q E):tCall sp [] E tA σ H Q:=h
theorem s_cb {rc:List V → Hp → VK → Prop} (h:tA σ H fun vs H1 => rc vs H1 Q):tCB rc tA σ H Q:=h
theorem s_sl {rs:V → Option Int → Option Int → Hp → VK → Prop} {tl th:TO} (h:te σ H fun x H1 => tl σ H1 fun l H2 => th σ H2 fun u H3 => rs x l u H3 Q):tSl rs te tl th σ H Q:=h
theorem s_nopart (h:QO none H):tNoPart σ H QO:=h
theorem s_part (h:te σ H (onIntP QO)):mPart te σ H QO:=h
theorem s_onIntP (h:QO (some i) H):onIntP QO (.int i) H:=h
theorem s_meth {T:String} {rm:V → List V → Hp → VK → Prop} {to:TE} (h:to σ H fun x H1 => mTyV T x H1 (tA σ H1 fun xs H2 => rm x xs H2 Q)):mMeth T rm to tA σ H Q:=h
theorem s_tyS {P:Prop} (h:P):mTyV "str" (.str z) H P:=⟨rfl,h⟩
theorem s_tyL {P:Prop} (e:rdL H p = some xs) (h:P):mTyV "list" (.ref p) H P:=by unfold mTyV; simp only [e]; exact ⟨trivial,h⟩
theorem s_test (h:te σ H (mB QB)):mTest te σ H QB:=h
theorem s_truth (h:te σ H (mTru QB)):mTruth te σ H QB:=h
theorem s_mB {b:Bool} (h:QB b H):mB QB (.bl b) H:=h
theorem s_trub {b:Bool} (h:QB b H):mTru QB (.bl b) H:=h
theorem s_and (h:tt σ H fun c H1 => if c = true then tu σ H1 QB else QB false H1):tAnd tt tu σ H QB:=h
theorem s_or (h:tt σ H fun c H1 => if c = true then QB true H1 else tu σ H1 QB):tOr tt tu σ H QB:=h
theorem s_not (h:tt σ H fun c H1 => QB (!c) H1):tNot tt σ H QB:=h
theorem s_andV (h:ta σ H (mB fun c H1 => if c = true then tb σ H1 Q else Q (.bl false) H1)):mAndV ta tb σ H Q:=h
theorem s_orV (h:ta σ H (mB fun c H1 => if c = true then Q (.bl true) H1 else tb σ H1 Q)):mOrV ta tb σ H Q:=h
theorem s_notV (h:ta σ H (mB fun c H1 => Q (.bl (!c)) H1)):mNotV ta σ H Q:=h
theorem s_chain (h:ta σ H fun x H1 => tb σ H1 fun y H2 => r x y H2 (mB fun k H3 => if k = true then tc σ H3 fun w' H4 => r' y w' H4 Q else Q (.bl false) H3)):mChain r r' ta tb tc σ H Q:=h
theorem s_mI {g:Int → Int → V} (h:Q (g i j) H):mI g (.int i) (.int j) H Q:=h
theorem s_mIC {C:Int → Int → Prop} {g:Int → Int → V} (c:C i j) (h:Q (g i j) H):mIC C g (.int i) (.int j) H Q:=⟨c,h⟩
theorem s_addI (h:Q (.int (i + j)) H):mAdd (.int i) (.int j) H Q:=h
theorem s_addS (c:z.length + z'.length ≤ sizeLine) (h:Q (.str (z ++ z')) H):mAdd (.str z) (.str z') H Q:=⟨c,h⟩
theorem s_addL (e:mutL H p = some xs) (e':mutL H q = some ys) (c:xs.length + ys.length ≤ sizeLine) (h:∀ r,H r = none → Q (.ref r) (upd H r (.lst (xs ++ ys)))):mAdd (.ref p) (.ref q) H Q:=by
  unfold mAdd; simp only [e,e']; exact ⟨c,h⟩
theorem s_eqI (h:Q (.bl (decide (i = j))) H):mEq (.int i) (.int j) H Q:=⟨rfl,by
  rw [show decide (V.int i = V.int j) = decide (i = j) by simp]; exact h⟩
theorem s_eqS (h:Q (.bl (decide (z = z'))) H):mEq (.str z) (.str z') H Q:=⟨rfl,by
  rw [show decide (V.str z = V.str z') = decide (z = z') by simp]; exact h⟩
theorem s_neS (h:Q (.bl (!decide (z = z'))) H):mNe (.str z) (.str z') H Q:=⟨rfl,by
  rw [show decide (V.str z = V.str z') = decide (z = z') by simp]; exact h⟩
theorem s_eqL {neg:Bool} (e:rdL H p = some xs) (e':rdL H q = some ys) (f:xs.all flatV = true) (f':ys.all flatV = true) (h:Q (.bl (if neg then !eqVs xs ys else eqVs xs ys)) H):mEqL neg (.ref p) (.ref q) H Q:=by
  unfold mEqL; simp only [e,e']; exact ⟨f,f',h⟩
theorem s_inS {neg:Bool} (h:Q (.bl (if neg then !subIn z z' else subIn z z')) H):mInS neg (.str z) (.str z') H Q:=h
theorem s_inL {neg:Bool} (e:rdL H p = some xs) (f:flatV x = true) (f':xs.all flatV = true) (h:Q (.bl (if neg then !inV x xs else inV x xs)) H):mInL neg x (.ref p) H Q:=by
  unfold mInL; simp only [e]; exact ⟨f,f',h⟩
theorem s_ixS {c:Nat} (l:z.length ≤ sizeLine) (e:atI z.cps.toList i = some c) (h:Q (.str ⟨#[c]⟩) H):mIx (.str z) (.int i) H Q:=by
  unfold mIx; simp only [e]; exact ⟨l,h⟩
theorem s_ixL (e:rdL H p = some xs) (e':atI xs i = some v) (h:Q v H):mIx (.ref p) (.int i) H Q:=by
  unfold mIx; simp only [e,e']; exact h
theorem s_slS {lo hi:Option Int} (l:z.length ≤ sizeLine) (h:Q (.str (Txt.slice z lo hi)) H):mSl (.str z) lo hi H Q:=⟨l,h⟩
theorem s_slL {lo hi:Option Int} (e:rdL H p = some xs) (h:∀ r,H r = none → Q (.ref r) (upd H r (.lst (cutV xs lo hi)))):mSl (.ref p) lo hi H Q:=by
  unfold mSl; simp only [e]; exact h
theorem s_lenS (l:z.length ≤ sizeLine) (h:Q (.int z.length) H):mLen [.str z] H Q:=⟨l,h⟩
theorem s_lenL (e:rdL H p = some xs) (h:Q (.int xs.length) H):mLen [.ref p] H Q:=by unfold mLen; simp only [e]; exact h
theorem s_app (e:mutL H p = some xs) (l:xs.length < sizeLine) (h:Q .non (upd H p (.lst (xs ++ [v])))):mApp (.ref p) [v] H Q:=by unfold mApp; simp only [e]; exact ⟨l,h⟩
theorem s_join {ss:List Str} (e:rdL H p = some (ss.map V.str)) (l:(ss.map (·.length)).sum + ss.length * z.length ≤ 16777216) (h:Q (.str (Txt.join z ss)) H):mJoin (.str z) [.ref p] H Q:=by
  unfold mJoin; simp only [e,strsOf_map]; exact ⟨l,h⟩
theorem s_all {bs:List Bool} (e:rdL H p = some (bs.map V.bl)) (h:Q (.bl (bs.all id)) H):mAll [.ref p] H Q:=by
  unfold mAll; simp only [e,bolsOf_map]; exact h
theorem s_isi {T t:String} {b:Bool} (e:tyN x H = some t) (e':isiT t T = some b) (h:Q (.bl b) H):mIsi [x,.ty T] H Q:=by
  unfold mIsi; simp only [e,e']; exact h
theorem s_jList {tl:TE} {R:It → Hp → Prop} (h:tl σ H (onRef fun a H1 => onL (rdL H1 a) (R (Itl K a) H1))):jList K tl σ H R:=h
theorem s_onRef {R:Addr → Hp → Prop} (h:R p H):onRef R (.ref p) H:=h
theorem s_onL {P:Prop} (e:rdL H p = some xs) (h:P):onL (rdL H p) P:=by unfold onL; simp only [e]; exact h
theorem s_jStr {tl:TE} {R:It → Hp → Prop} (h:tl σ H (onStr fun z H1 => R (Its z) H1)):jStr tl σ H R:=h
theorem s_onStr {R:Str → Hp → Prop} (h:R z H):onStr R (.str z) H:=h
theorem s_jRng1 {R:It → Hp → Prop} (h:tA σ H (onI1 fun j H1 => (-(2 ^ 62) ≤ j ∧ j < 2 ^ 62) ∧ R (Itr 0 j.toNat) H1)):jRng1 tA σ H R:=h
theorem s_onI1 {R:Int → Hp → Prop} (h:R i H):onI1 R [.int i] H:=h
end
theorem atI_lt {α:Type} {xs:List α} {i:Int} (h0:0 ≤ i) (h1:i < xs.length):∃ v,atI xs i = some v ∧ xs[i.toNat]? = some v:=by
  have hk:i.toNat < xs.length:=by omega
  have e:i = ((i.toNat:Nat):Int):=by omega
  have q:atI xs ((i.toNat:Nat):Int) = some xs[i.toNat]:=atI_nat (List.getElem?_eq_getElem hk)
  rw [← e] at q
  exact ⟨xs[i.toNat],q,List.getElem?_eq_getElem hk⟩
theorem len_line {n:Nat} (h:n ≤ 100000):n ≤ sizeLine:=Nat.le_trans h (by decide)
theorem lt_line {n:Nat} (h:n ≤ 100000):n < sizeLine:=Nat.lt_of_le_of_lt h (by decide)
end L2
namespace L2
open PySem PySem.Spec PyProof.Rows
def Cal (P:Program) (w:World) (K:PySem.W.Frag) (mg:Str → Option Value) (base:Heap) (k:Nat) (x:Str) (ps:List Str) (sp:Sp):Prop :=
  ∃ (f:Addr) (fd:FuncData),FnOk P w K mg base CX0 k f fd ps sp ∧ mg x = some (.ref f) ∧ PySem.W.keepIn K (.ref f) = true ∧ Binds K fd ps []
section
variable {X:Cx} {k k':Nat} {ps:List Str} {sp:Sp} {x:Str} {p pos:Pos} {e:Expr} {es:List Expr} {t:TA} {K:PySem.W.Frag} {H:Hp} {Q:VK} {xs:List V} {v:V} {i:Int} {a:Addr}
theorem pe_cal (c:Cal X.prog X.w X.K X.mg X.base k x ps sp) (hr:Room k' X.A) (hk:k ≤ k') (hg:Gl X x)
    (ha:PA X (e :: es) t) (hdb:(x == ("__debug__" : Str)) = false:=by decide) (he:starEach (e :: es) X.env = (false,eval e X.env) :: starEach es X.env:=by rfl) (hpl:(backTo pos (starEach es X.env)).any (·.1) = false:=by rfl) :
    PE X (.Call (.Name x p) (e :: es) [] pos) (tCall sp [] E0 t):=by
  obtain ⟨f,fd,F,hm,hk',hb⟩:=c
  exact pe_call F (hr.mono hk) hg hm hk' hb .nil pass0 ha hdb he hpl
theorem pe_gstr {z:Str} (hg:Gl X x) (h:∃ t,X.mg x = some (.str z t)) (hd:(x == ("__debug__" : Str)) = false:=by decide):PE X (.Name x pos) (tC (.str z)):=by
  obtain ⟨t,h⟩:=h
  exact pe_glob hg h ⟨t,rfl⟩ hd
theorem pe_gint {z:Int} (hg:Gl X x) (h:∃ t,X.mg x = some (.int z t)) (hd:(x == ("__debug__" : Str)) = false:=by decide):PE X (.Name x pos) (tC (.int z)):=by
  obtain ⟨t,h⟩:=h
  exact pe_glob hg h ⟨t,rfl⟩ hd
theorem s_slK {lo hi:Option Int} (e:SqL K H a xs) (h:∀ r,H r = none → Q (.ref r) (upd H r (.lst (cutV xs lo hi)))):rSlL K (.ref a) lo hi H Q:=⟨a,xs,rfl,e,h⟩
theorem s_ixK (e:SqL K H a xs) (e':atI xs i = some v) (h:Q v H):rIxL K (.ref a) (.int i) H Q:=⟨a,xs,i,v,rfl,rfl,e,e',h⟩
end
end L2
namespace L2
open PySem PySem.Spec PyProof.Rows
theorem bt_len:bootBuiltins "len" = some (.builtin "len"):=by decide +kernel
theorem bt_isinstance:bootBuiltins "isinstance" = some (.builtin "isinstance"):=by decide +kernel
theorem bt_all:bootBuiltins "all" = some (.builtin "all"):=by decide +kernel
theorem bt_bool:bootBuiltins "bool" = some (.type "bool"):=by decide +kernel
end L2
namespace L2
theorem iteNT {A B:Prop} (h:B):if (!true) = true then A else B:=h
theorem iteNF {A B:Prop} (h:A):if (!false) = true then A else B:=h
end L2
namespace L2
open PySem PySem.Spec PyProof.Rows
theorem pa_str {X:Cx} {x:Str} {j:Nat} {pos:Pos} {es:List Expr} {t:TA} (h:PA X es t):PA X (.Constant (.str x) j pos :: es) (tCons (tC (.str x)) t):=pa_cons pe_str h rfl
end L2
set_option maxHeartbeats 4000000
namespace L2
open PySem PySem.Spec PyProof.Rows
theorem compLoop_G {prog:Program} {w:World} {A:Around} {R:Result → Shared → Prop} {s:Shared} {elt target iter:Expr} {ifs:List Expr} {scope:Scope} {pos:Pos} {it acc:Value} {env:Env} (I:Nat → Shared → Prop)
    (turn:∀ n s,I n s → wpAny (model prog w) A (pyNext it) (fun r s₁ => match r with
      | none => R (.ok .next) s₁
      | some v => wpAny (model prog w) A (letOwnedTupleGo target it v) (fun _ s₁' => wpAny (model prog w) A (assign target env v) (fun _ s₂ =>
          wpAny (model prog w) A (forIn ifs true fun c r => if r = true then do let ok ← isTrue c env (eval c env); pure (ForInStep.yield ok) else pure (ForInStep.yield r)) (fun ok s₃ =>
            if ok = true then wpAny (model prog w) A (eval elt env) (fun x s₄ =>
              wpAny (model prog w) A (call (.builtin "list.append") [acc,x]) (fun _ s₅ => ∃ m,m < n ∧ I m s₅) (fun _ _ => False) s₄) (fun _ _ => False) s₃
            else ∃ m,m < n ∧ I m s₃) (fun _ _ => False) s₂) (fun _ _ => False) s₁') (fun _ _ => False) s₁) (fun _ _ => False) s)
    (n:Nat) (h:I n s) :
    codeAny (model prog w) A (.compLoop (.ListComp elt [⟨target,iter,ifs,0⟩] scope pos) 0 it acc env) R s:=by
  refine codeAny_loop rfl I (fun n s hI => ?_) n h
  show wpAny _ A ((compTurn (.ListComp elt [⟨target,iter,ifs,0⟩] scope pos) 0 it acc env).onRaise (fun x => do noteFrame x env; theTreesLotGoes x)) _ _ s
  refine wpAny_noted ?_
  rw [compTurn_list]
  refine wpAny_bind (wpAny_standAt (wpAny_bind (wpAny_mono (turn n s hI) (fun r s₁ h₁ => ?_) fun _ _ h' => h'.elim)))
  cases r with
  | none => exact wpAny_pure h₁
  | some v =>
    refine wpAny_bind (wpAny_mono h₁ (fun _ s₁' h₁' => ?_) fun _ _ h' => h'.elim)
    refine wpAny_bind (wpAny_mono h₁' (fun _ s₂ h₂ => wpAny_bind (wpAny_mono h₂ (fun ok s₃ h₃ => ?_) fun _ _ h' => h'.elim)) fun _ _ h' => h'.elim)
    cases ok with
    | false => exact wpAny_pure ⟨rfl,h₃⟩
    | true =>
      exact wpAny_bind (wpAny_bind (wpAny_mono h₃ (fun x s₄ h₄ => wpAny_bind (wpAny_mono h₄ (fun _ s₅ h₅ => wpAny_pure (wpAny_pure ⟨rfl,h₅⟩)) fun _ _ h' => h'.elim)) fun _ _ h' => h'.elim))
def cxC (X:Cx) (N:List Str) (scope:Scope) (cl:List (Str × Addr)) (C:Addr) (s₀:Shared) (H₀:Hp) (ex:List Addr):Cx :=
  { prog:=X.prog,w:=X.w,K:=X.K,mg:=X.mg,base:=X.base,A:=X.A,N:=N,s₀:=s₀,H₀:=H₀,env:=compEnvC scope cl C X.env,outer:=X.stack,stack:=X.stack,ex:=ex,fn:=fun _ => false,calm:=X.calm,pn:=[],xe:=fun _ _ => False }
structure ClOk (X:Cx) (N:List Str) (scope:Scope) (cl:List (Str × Addr)) (vals:St → St):Prop where
  clos:closureFor scope X.env = pure cl
  sub:∀ x c,cl.lookup x = some c → X.env.cells.lookup x = some c
  has:∀ x,((relabel scope X.env).names.lookup x = some .cell ∨ (relabel scope X.env).names.lookup x = some .free) → ∃ c,cl.lookup x = some c
  len:∀ σ,(vals σ).length = N.length
  val:∀ σ (i:Nat) x v,N[i]? = some x → (vals σ)[i]? = some (some v) → ∃ (j:Nat),X.N[j]? = some x ∧ σ[j]? = some (some v) ∧ X.env.scope.names.lookup x = some .cell ∧ (∃ c,cl.lookup x = some c) ∧ (relabel scope X.env).names.lookup x = some .cell
def PF (X:Cx) (ifs:List Expr) (t:TT):Prop:=∀ (pins:List (Addr × Obj)) (s:Shared) (σ:St) (H:Hp) (Q:Bool → Hp → Prop),Inv X pins σ H s → t σ H Q →
  wpAny (model X.prog X.w) X.A (forIn ifs true fun c r => if r = true then do let ok ← isTrue c X.env (eval c X.env); pure (ForInStep.yield ok) else pure (ForInStep.yield r)) (TP X pins σ Q) X.xe s
def tYes:TT:=fun _ H Q => Q true H
theorem pf_nil {X:Cx}:PF X [] tYes:=fun pins s σ H Q I q => wpAny_tests_nil ⟨H,I,q⟩
theorem pf_one {X:Cx} {c:Expr} {t:TT} (h:PT X c t):PF X [c] t:=fun pins s σ H Q I q => wpAny_tests_one (h pins s σ H Q I q)
section
variable {X:Cx} {pins:List (Addr × Obj)} {σ:St} {H2:Hp} {s2:Shared} {N:List Str} {scope:Scope} {cl:List (Str × Addr)} {vals:St → St} {C:Addr} {fp:List Addr}
theorem comp_start {h1:Heap} {t1:Nat} (I:Inv X pins σ H2 s2) (ck:ClOk X N scope cl vals) (hkind:scope.kind = .function) (hf:∀ b ∈ fp,FpOk X pins H2 b) (hlt:∀ b ∈ fp,b < s2.heap.objs.size)
    (hns:h1.Ns s2.heap.objs.size fun _ => none) (hsb:Heap.SameBut s2.heap.objs.size (s2.heap.push { cls:=.type "dict",data:=.dict #[] }) h1) :
    Inv (cxC X N scope cl s2.heap.objs.size s2 H2 fp) [] (vals σ) H2 { s2 with heap:=h1,toks:=t1 }:=by
  have old:∀ b o,s2.heap.get? b = some o → h1.get? b = some o:=fun b o e => (hsb.2 b (Nat.ne_of_lt (Heap.lt_size e))).trans (Heap.get?_push_of_some _ e)
  have hC:H2 s2.heap.objs.size = none:=I.hok.fresh (Nat.le_refl _)
  refine ⟨⟨I.ok.mod,hkind,I.ok.glob,I.ok.blt,Nat.le_refl _,fun x y c h1 h2 => I.ok.inj x y c (ck.sub x c h1) (ck.sub y c h2),ck.has,(fun x c h => nomatch h),I.ok.hd,I.ok.frames,.inl rfl,fun b hb => ⟨Nat.ne_of_lt (hlt b hb),fun x c e => (hf b hb).2.2.2.2.1 x c (ck.sub x c e)⟩,
    I.bs,Nat.le_trans I.ok.bsz I.sz,fun b o e hb => ?_,fun b hb hs => ?_,I.stack,I.stkFree⟩,rfl,I.bare,Un.kept old,⟨_,hns,fun i x v e1 e2 _ => ?_⟩,fun x c e => ?_,hC,fun x c e => I.freeC x c (ck.sub x c e),fun p hp => absurd (show p ∈ ([]:List (Addr × Obj)) from hp) (by simp),I.hok.kept old,ck.len σ⟩
  · rcases (hf b hb).2.2.2.1 with z | z
    · exact I.ok.noex b o e z
    · exact absurd (Nat.lt_of_lt_of_le (Heap.lt_size e) (Nat.le_trans I.ok.bsz z)) (Nat.lt_irrefl _)
  · rcases List.mem_cons.mp (I.stkSub b hs) with z | z
    · exact (hf b hb).2.1 z
    · exact (hf b hb).2.2.1 z
  · obtain ⟨j,h1,h2,h3,⟨c,h4⟩,h5⟩:=ck.val σ i x v e1 e2
    obtain ⟨m,hn,hl⟩:=I.loc
    obtain ⟨u,r,l⟩:=hl j x v h1 h2 (.inr (.inl h3))
    refine ⟨u,r,.inr ⟨.inl h5,c,h4,?_⟩⟩
    rcases l with ⟨z,_⟩ | ⟨_,c',e',z⟩
    · have z':X.env.scope.names.lookup x = some .local:=z
      rw [h3] at z'; cases z'
    · rw [ck.sub x c h4] at e'
      cases e'
      obtain ⟨o,ho,hd⟩:=z
      exact ⟨o,old _ o ho,hd⟩
  · obtain ⟨v,o,ho,hd⟩:=I.cell x c (ck.sub x c e)
    exact ⟨v,o,old _ o ho,hd⟩
theorem comp_back {σ':St} {H':Hp} {s':Shared} {h'':Heap} {pins':List (Addr × Obj)} (I:Inv X pins σ H2 s2) (hf:∀ b ∈ fp,FpOk X pins H2 b)
    (I':Inv (cxC X N scope cl s2.heap.objs.size s2 H2 fp) pins' σ' H' s') (hsb:Heap.SameBut s2.heap.objs.size s'.heap h''):Inv X pins σ H' { s' with heap:=h'' }:=by
  have u1:Un (frs X.stack) (s2.heap.objs.size :: fp) H2 H' s2.heap s'.heap:=I'.base.mono (fun _ z => z) fun b z => List.mem_cons_of_mem _ z
  have hC:H' s2.heap.objs.size = none:=I'.free
  have k:∀ b o,b ≠ s2.heap.objs.size → s'.heap.get? b = some o → h''.get? b = some o:=fun b o hb e => (hsb.2 b hb).trans e
  have u2:Un (frs X.stack) (s2.heap.objs.size :: fp) H' H' s'.heap h'':=⟨fun b o e _ _ hx => k b o (fun z => hx (by simp [z])) e,fun b o e _ _ hx => ⟨o.slots,k b o (fun z => hx (by simp [z])) e⟩,fun _ _ _ n _ => n,
    fun b o e hx => ⟨o,k b o (fun z => hx (by simp [z])) e⟩,fun _ _ e => e,fun _ _ _ e => e,fun b ps e => ⟨#[],by rw [e]; simp⟩⟩
  have hok:HOk X.prog X.w H' h'':=fun b u e => by
    have nC:∀ c v,H' c = some v → c ≠ s2.heap.objs.size:=fun c v e z => by rw [z,hC] at e; cases e
    refine (I'.hok b u e).stay (fun c v hc q => k c v ?_ q) (fun _ q => q) fun _ _ q => q
    rcases hc with z | z
    · rw [z]; exact nC b u e
    · exact nC c _ z
  refine I.call' (s':={ s' with heap:=h'' }) (ch:=s2.heap.objs.size :: fp) I'.os (u1.trans u2) hok I'.bare fun b hb => ?_
  have q:FpOk X pins H2 b:=by
    rcases List.mem_cons.mp hb with z | z
    · subst z; exact I.fpOk (Nat.le_refl _) (I.hok.fresh (Nat.le_refl _))
    · exact hf b z
  exact ⟨q.2.2.2.1,q.2.1,q.2.2.2.2.1,q.2.2.2.2.2⟩
end
def Wk (σ0 σ:St):Prop:=σ0.length = σ.length ∧ ∀ (i:Nat) v,σ0[i]? = some (some v) → σ[i]? = some (some v)
theorem Wk.refl (σ:St):Wk σ σ:=⟨rfl,fun _ _ h => h⟩
theorem Wk.set {σ0 σ:St} {k:Nat} {v:V} (h:σ0[k]? = some none) (w:Wk σ0 σ):Wk σ0 (σ.set k (some v)):=by
  refine ⟨by rw [List.length_set]; exact w.1,fun i u e => ?_⟩
  have ne:k ≠ i:=fun z => by subst z; rw [h] at e; cases e
  rw [List.getElem?_set_ne ne]
  exact w.2 i u e
def tCompW (g:TG) (tests:TT) (te:TE) (σ0:St) (Q:VK) (J:It) (H1:Hp):Prop:=∀ D,H1 D = none → ∃ W:Nat → Nat → Hp → Prop,(∃ m,W 0 m (upd H1 D (.lst []))) ∧ ∀ i m Hc,W i m Hc →
  (J.stop i Hc ∧ Q (.ref D) Hc) ∨ (J.go i Hc ∧ ∀ x H',J.yld i Hc x H' → g x σ0 H' fun σ2 H2 => Wk σ0 σ2 ∧ tests σ2 H2 fun b H3 => if b = true then
    te σ2 H3 fun y H4 => ∃ zs,H4 D = some (.lst zs) ∧ zs.length < sizeLine ∧ ∃ m',m' < m ∧ W (i + 1) m' (upd H4 D (.lst (zs ++ [y]))) else ∃ m',m' < m ∧ W (i + 1) m' H3)
def tComp (wi:TI) (g:TG) (tests:TT) (te:TE) (vals:St → St):TE:=fun σ H Q => wi σ H fun J H1 => tCompW g tests te (vals σ) Q J H1
theorem comp_run {X:Cx} {pins:List (Addr × Obj)} {σ:St} {H2:Hp} {s2:Shared} {N:List Str} {scope:Scope} {cl:List (Str × Addr)} {vals:St → St} {fp:List Addr} {it:Addr} {tn:Nat → Heap → Prop} {J:It} {tg elt iter:Expr} {ifs:List Expr} {pos:Pos}
    {g:TG} {tests:TT} {te:TE} {Q:VK} {E:Value → Shared → Prop} {RR:Value → Addr → Result → Shared → Prop} (I2:Inv X pins σ H2 s2) (T:Turn X.prog X.w X.K tg J fp it tn) (st2:tn 0 s2.heap) (f2:∀ b ∈ fp,FpOk X pins H2 b) (hc:X.calm = true)
    (ck:ClOk X N scope cl vals) (hcell:∀ y ∈ scope.names,y.2 ≠ .cell) (hkind:scope.kind = .function)
    (hg:∀ C s₀ H₀ ex,PG (cxC X N scope cl C s₀ H₀ ex) tg g) (ht:∀ C s₀ H₀ ex,PF (cxC X N scope cl C s₀ H₀ ex) ifs tests) (he:∀ C s₀ H₀ ex,PE (cxC X N scope cl C s₀ H₀ ex) elt te)
    (h:tCompW g tests te (vals σ) Q J H2)
    (hRR:∀ D C s' H' m,s'.heap.Ns C m → Q (.ref D) H' → (∀ h'',Heap.SameBut C s'.heap h'' → Inv X pins σ H' { s' with heap:=h'' }) → FpOk X pins H' C → RR (.ref D) C (.ok .next) s') :
    wpAny (model X.prog X.w) X.A (newList []) (fun acc s₃ => wpAny (model X.prog X.w) X.A (newFunctionEnv scope X.env.globals cl [] X.env.qual none .none (some X.env)) (fun cenv s₄ =>
      codeAny (model X.prog X.w) X.A (.compStart (.ListComp elt [⟨tg,iter,ifs,0⟩] scope pos) 0 (.ref it) acc { cenv with scope:=relabel scope X.env }) (RR acc cenv.locals) s₄) E s₃) E s2:=by
  have hD:H2 s2.heap.objs.size = none:=I2.hok.fresh (Nat.le_refl _)
  obtain ⟨W,⟨m0,w0⟩,turn⟩:=h _ hD
  have hlt:∀ b ∈ fp,b < s2.heap.objs.size:=fun b hb => by
    obtain ⟨o,e,_⟩:=T.obj 0 _ st2 b hb
    exact Heap.lt_size e
  refine wpAny_newObj_type ?_
  -- the list is laid
  have I3:Inv X pins σ (upd H2 s2.heap.objs.size (.lst [])) { s2 with heap:=s2.heap.push { cls:=.type "list",dict:=none,data:=.seq ([]:List Value).toArray } } :=
    I2.lnew (ys:=[]) (its:=[]) (t':=s2.toks) .nil (Nat.zero_le _)
  have f3:∀ b ∈ fp,FpOk X pins (upd H2 s2.heap.objs.size (.lst [])) b:=fun b hb => ⟨by rw [upd_ne (Nat.ne_of_lt (hlt b hb))]; exact (f2 b hb).1,(f2 b hb).2⟩
  have st3:tn 0 (s2.heap.push { cls:=.type "list",dict:=none,data:=.seq ([]:List Value).toArray }):=T.keep _ _ _ st2 fun b _ o e => Heap.get?_push_of_some _ e
  generalize hs3:({ s2 with heap:=s2.heap.push { cls:=.type "list",dict:=none,data:=.seq ([]:List Value).toArray } }:Shared) = s3 at I3 ⊢
  have e3:s3.heap = s2.heap.push { cls:=.type "list",dict:=none,data:=.seq ([]:List Value).toArray }:=by rw [← hs3]
  rw [← e3] at st3
  have hlt3:∀ b ∈ fp,b < s3.heap.objs.size:=fun b hb => by
    obtain ⟨o,e,_⟩:=T.obj 0 _ st3 b hb
    exact Heap.lt_size e
  refine wpAny_newFunctionEnv hcell (by intro y hy; simp at hy) (fun h₁ hns₁ hsb₁ => ?_) hkind
  have hns:h₁.Ns s3.heap.objs.size fun _ => none:=hns₁
  have I4:=comp_start (t1:=s3.toks) I3 ck hkind f3 hlt3 hns hsb₁
  have old:∀ b o,s3.heap.get? b = some o → h₁.get? b = some o:=fun b o e => (hsb₁.2 b (Nat.ne_of_lt (Heap.lt_size e))).trans (Heap.get?_push_of_some _ e)
  have st4:tn 0 h₁:=T.keep _ _ _ st3 fun b _ o e => old b o e
  have loop:∀ s₄:Shared,s₄ = { s3 with heap:=h₁,toks:=s3.toks } →
      codeAny (model X.prog X.w) X.A (.compLoop (.ListComp elt [⟨tg,iter,ifs,0⟩] scope pos) 0 (.ref it) (.ref s2.heap.objs.size) (compEnvC scope cl s3.heap.objs.size X.env))
        (RR (.ref s2.heap.objs.size) s3.heap.objs.size) s₄:=by
    rintro s₄ rfl
    have fpX:∀ {H':Hp},(∀ b ∈ fp,H' b = none) → ∀ b ∈ fp,FpOk (cxC X N scope cl s3.heap.objs.size s3 (upd H2 s2.heap.objs.size (.lst [])) fp) [] H' b:=fun hn b hb =>
      ⟨hn b hb,Nat.ne_of_lt (hlt3 b hb),fun hs => I4.ok.exfs b hb hs,.inl hb,fun x c e => (I4.ok.exf b hb).2 x c e,fun p hp => absurd (show p ∈ ([]:List (Addr × Obj)) from hp) (by simp)⟩
    refine compLoop_G (fun n s' => ∃ i H',Inv (cxC X N scope cl s3.heap.objs.size s3 (upd H2 s2.heap.objs.size (.lst [])) fp) [] (vals σ) H' s' ∧ tn i s'.heap ∧ (∀ b ∈ fp,H' b = none) ∧ W i n H') ?_ m0
      ⟨0,_,I4,st4,fun b hb => (f3 b hb).1,w0⟩
    rintro n s5 ⟨i,H5,I5,st5,fr5,w5⟩
    rcases turn i n H5 w5 with ⟨stop,q⟩ | ⟨go,step⟩
    · refine thn (T.done (cxC X N scope cl s3.heap.objs.size s3 (upd H2 s2.heap.objs.size (.lst [])) fp) rfl rfl rfl hc i [] s5 (vals σ) H5 (fun _ _ => False) I5 (fpX fr5) st5 stop) fun r s6 ⟨hr,I6⟩ => ?_
      subst hr
      obtain ⟨m,hn,_⟩:=id I6.loc
      exact hRR _ _ s6 H5 m hn q (fun h'' hsb => comp_back I3 f3 I6 hsb) (I3.fpOk (Nat.le_refl _) I6.free)
    · refine thn (T.item (cxC X N scope cl s3.heap.objs.size s3 (upd H2 s2.heap.objs.size (.lst [])) fp) rfl rfl rfl hc i [] s5 (vals σ) H5 (fun _ _ => False) I5 (fpX fr5) st5 go) fun r s6 ⟨u,hr,h6⟩ => ?_
      subst hr
      refine thn h6 fun _ s7 ⟨x,H7,I7,r7,y7,st7,fr7⟩ => ?_
      have I7':=I7.pinned (fpX fr7) (T.obj _ _ st7)
      refine thn (hg _ _ _ _ _ s7 (vals σ) H7 x u _ I7' r7 (step x H7 y7)) fun _ s8 ⟨σ8,H8,I8,wk8,q8⟩ => ?_
      refine thn (ht _ _ _ _ _ s8 σ8 H8 _ I8 q8) fun b s9 ⟨H9,I9,q9⟩ => ?_
      have again:∀ {m':Nat} {s':Shared} {H':Hp},Inv (cxC X N scope cl s3.heap.objs.size s3 (upd H2 s2.heap.objs.size (.lst [])) fp) ([] ++ pinsAt fp s7.heap) σ8 H' s' → m' < n → W (i + 1) m' H' →
          ∃ m,m < n ∧ ∃ i H',Inv (cxC X N scope cl s3.heap.objs.size s3 (upd H2 s2.heap.objs.size (.lst [])) fp) [] (vals σ) H' s' ∧ tn i s'.heap ∧ (∀ b ∈ fp,H' b = none) ∧ W i m H':=fun {m' s' H'} J7 hm w7 => by
        refine ⟨m',hm,i + 1,H',(J7.weak wk8.1 wk8.2).unpinned,T.keep _ _ _ st7 fun b hb o e => (J7.pin (b,o) (List.mem_append_right _ (List.mem_append_right _ (mem_pinsAt hb e)))).1,fun b hb => ?_,w7⟩
        obtain ⟨o,e,d⟩:=T.obj _ _ st7 b hb
        exact (J7.pin (b,o) (List.mem_append_right _ (List.mem_append_right _ (mem_pinsAt hb e)))).2.1
      cases b with
      | true =>
        rw [if_pos rfl] at q9 ⊢
        refine thn (he _ _ _ _ _ s9 σ8 H9 _ I9 q9) fun v s10 ⟨y,H10,I10,r10,zs,hz,hl,m',hm,w10⟩ => ?_
        have ap:=mt_append ([] ++ pinsAt fp s7.heap) s10 σ8 H10 (.ref s2.heap.objs.size) [y] (.ref s2.heap.objs.size) [v] (fun _ H' => H' = upd H10 s2.heap.objs.size (.lst (zs ++ [y]))) I10 rfl (.cons r10 .nil) ⟨_,_,_,rfl,rfl,hz,hl,rfl⟩
        refine thn ap fun _ s11 ⟨_,H11,I11,_,e11⟩ => ?_
        subst e11
        exact again I11 hm w10
      | false =>
        rw [if_neg Bool.false_ne_true] at q9 ⊢
        obtain ⟨m',hm,w9⟩:=q9
        exact again I9 hm w9
  exact codeAny_compStart_list (loop _ rfl) (T.self _ 0 _ _ _ st4 (loop _ rfl))
section
variable {X:Cx} {N:List Str} {scope:Scope} {cl:List (Str × Addr)} {vals:St → St} {tg elt iter:Expr} {ifs:List Expr} {pos spos py:Pos} {wi:TI} {g:TG} {tests:TT} {te:TE}
theorem pe_comp (hc:X.calm = true) (hi:PI X tg iter wi) (ck:ClOk X N scope cl vals) (hcell:∀ y ∈ scope.names,y.2 ≠ .cell) (hkind:scope.kind = .function) (hnames:∀ x ∈ scope.names,x.2 = .local → scope.names.lookup x.1 = some .local)
    (hg:∀ C s₀ H₀ ex,PG (cxC X N scope cl C s₀ H₀ ex) tg g) (ht:∀ C s₀ H₀ ex,PF (cxC X N scope cl C s₀ H₀ ex) ifs tests) (he:∀ C s₀ H₀ ex,PE (cxC X N scope cl C s₀ H₀ ex) elt te)
    (hs:∀ x,foldedSetIterable iter X.env x = pure x:=by intro _; rfl):PE X (.ListComp elt [⟨tg,iter,ifs,0⟩] scope pos) (tComp wi g tests te vals):=by
  intro pins s σ H Q I h
  rw [eval_ListComp]
  refine wpAny_comprehension_free (use:=none) rfl hs ck.clos hkind hnames (thn (hi pins s σ H _ I h) fun v s1 h1 => thn h1 fun itv s2 h2 => ?_)
  obtain ⟨it,fp,tn,J,H2,e,I2,T,st2,f2,q⟩:=h2
  subst e
  refine comp_run (RR:=fun acc C => compPost (model X.prog X.w) X.A X.xe none (EP X pins σ Q) acc C) I2 T st2 f2 hc ck hcell hkind hg ht he q fun D C s' H' m hn q' back _ => ?_
  exact ⟨m,hn,fun h'' hsb => ⟨.ref D,H',back h'' hsb,rfl,q'⟩⟩
theorem ps_setC {i:Nat} {x:Str} (hN:X.N.Nodup) (hix:X.N[i]? = some x) (hx:Loc X.env.scope x) (hc:X.calm = true) (hi:PI X tg iter wi) (ck:ClOk X N scope cl vals) (hcell:∀ y ∈ scope.names,y.2 ≠ .cell) (hkind:scope.kind = .function)
    (hnames:∀ x ∈ scope.names,x.2 = .local → scope.names.lookup x.1 = some .local)
    (hg:∀ C s₀ H₀ ex,PG (cxC X N scope cl C s₀ H₀ ex) tg g) (ht:∀ C s₀ H₀ ex,PF (cxC X N scope cl C s₀ H₀ ex) ifs tests) (he:∀ C s₀ H₀ ex,PE (cxC X N scope cl C s₀ H₀ ex) elt te)
    (hsw:swapsWith (.ListComp elt [⟨tg,iter,ifs,0⟩] scope pos) (some (.Name x py)) spos.line X.env = pure true:=by rfl)
    (hf:X.fn x = true ∨ X.env.scope.names.lookup x = some .local:=by first | exact .inl rfl | exact .inr rfl | assumption)
    (hs:∀ x,foldedSetIterable iter X.env x = pure x:=by intro _; rfl):PS X (.Assign [.Name x py] (.ListComp elt [⟨tg,iter,ifs,0⟩] scope pos) spos) (tAsg (tComp wi g tests te vals) (gName i)):=by
  intro pins s σ H D I h
  rw [exec_Assign_Name_used _ _ _ _ hsw]
  refine wpAny_bind (wpAny_standAt (wpAny_bind ?_))
  show wpAny _ X.A (do let _ ← comprehension (.ListComp elt [⟨tg,iter,ifs,0⟩] scope pos) scope X.env _ (newList []) false (eval iter X.env) (some (assign (.Name x py) X.env))) _ _ s
  refine wpAny_bind (wpAny_mono (wpAny_comprehension_free (use:=some (assign (.Name x py) X.env)) (Q:=fun _ s' => SP X pins D .next s') rfl hs ck.clos hkind hnames
    (thn (hi pins s σ H _ I h) fun v s1 h1 => thn h1 fun itv s2 h2 => ?_)) (fun _ s' hq => wpAny_pure (wpAny_pure hq)) fun _ _ e => e)
  obtain ⟨it,fp,tn,J,H2,e,I2,T,st2,f2,q⟩:=h2
  subst e
  refine comp_run (RR:=fun acc C => compPost (model X.prog X.w) X.A X.xe (some (assign (.Name x py) X.env)) (fun _ s' => SP X pins D .next s') acc C) I2 T st2 f2 hc ck hcell hkind hg ht he q fun Dl C s' H' m hn q' back fC => ?_
  show wpAny _ X.A (assign (.Name x py) X.env (.ref Dl)) _ _ s'
  have I':Inv X pins σ H' s':=back s'.heap (Heap.SameBut.refl ..)
  refine wpAny_assign_Name (store_ok2 I' hN hix hx (v:=.ref Dl) rfl (fun s'' I'' hsb => ?_) hf)
  obtain ⟨a,hsb,ha⟩:=hsb
  have hCa:C ≠ a:=by
    rcases ha with z | z
    · rw [z]; exact fC.2.1
    · exact fun e => fC.2.2.2.2.1 x a z e.symm
  refine ⟨m,hn.sameBut hsb hCa,fun h3 hsb3 => ?_⟩
  exact ⟨σ.set i (some (.ref Dl)),H',I''.turned (t':=s''.toks) (fun b o hb e => (hsb3.2 b hb).trans e) fC.1 fC.2.1 fC.2.2.2.1 fC.2.2.2.2.1 fC.2.2.2.2.2,q'⟩
theorem clOk0 (hfree:∀ x ∈ scope.names,x.2 ≠ .free) (hcell:∀ y ∈ scope.names,y.2 ≠ .cell):ClOk X N scope [] (fun _ => N.map fun _ => none) where
  clos:=closureFor_none hfree
  sub:=fun x c h => nomatch h
  has:=fun x h => by
    have e:(relabel scope X.env).names = scope.names:=by
      show List.map _ scope.names = scope.names
      refine map_eq_self fun y hy => ?_
      obtain ⟨n,k⟩:=y
      have:(k == NameKind.free) = false:=by simpa using hfree _ hy
      simp [this]
    rw [e] at h
    rcases h with h | h
    · exact absurd rfl (hcell _ (PySem.mem_of_lookup h))
    · exact absurd rfl (hfree _ (PySem.mem_of_lookup h))
  len:=fun σ => by simp
  val:=fun σ i x v h1 h2 => by
    rw [List.getElem?_map] at h2
    cases e:N[i]? with
    | none => rw [e] at h2; cases h2
    | some y => rw [e] at h2; cases h2
end
section
variable {g:TG} {tests:TT} {te:TE} {σ0:St} {Q:VK} {H1:Hp}
theorem cw_pure {J:It} {xs:List V} {ok:Hp → Prop} (f:V → Option V) (hgo:∀ (i:Nat) H,ok H → i < xs.length → J.go i H) (hst:∀ H,ok H → J.stop xs.length H) (hy:∀ (i:Nat) H x H',ok H → J.yld i H x H' → H' = H ∧ xs[i]? = some x)
    (hok:∀ D ys,H1 D = none → ok (upd H1 D (.lst ys))) (hlen:xs.length < sizeLine)
    (hs:∀ (i:Nat) x Hc (A:VK) (B:Hp → Prop),xs[i]? = some x → ok Hc → (match f x with | some y => A y Hc | none => B Hc) → g x σ0 Hc fun σ2 H2 => Wk σ0 σ2 ∧ tests σ2 H2 fun b H3 => if b = true then te σ2 H3 A else B H3)
    (fin:∀ D,H1 D = none → Q (.ref D) (upd H1 D (.lst (xs.filterMap f)))):tCompW g tests te σ0 Q J H1:=by
  intro D hD
  refine ⟨fun i m Hc => m = xs.length - i ∧ i ≤ xs.length ∧ Hc = upd H1 D (.lst ((xs.take i).filterMap f)),⟨xs.length,by simp,Nat.zero_le _,by simp⟩,?_⟩
  rintro i m Hc ⟨rfl,hi,rfl⟩
  by_cases hlt:i < xs.length
  · refine .inr ⟨hgo i _ (hok D _ hD) hlt,fun x H' y => ?_⟩
    obtain ⟨e,hx⟩:=hy i _ x H' (hok D _ hD) y
    subst e
    refine hs i x _ _ _ hx (hok D _ hD) ?_
    have tk:xs.take (i + 1) = xs.take i ++ [x]:=by rw [List.take_add_one,hx]; rfl
    cases e:f x with
    | some y =>
      refine ⟨_,upd_same,?_,xs.length - (i + 1),by omega,rfl,hlt,?_⟩
      · have:=List.length_filterMap_le f (xs.take i)
        rw [List.length_take] at this
        omega
      · rw [upd_upd,tk,List.filterMap_append]
        simp [e]
    | none =>
      refine ⟨xs.length - (i + 1),by omega,rfl,hlt,?_⟩
      rw [tk,List.filterMap_append]
      simp [e]
  · have e:i = xs.length:=by omega
    subst e
    rw [List.take_length]
    exact .inl ⟨hst _ (hok D _ hD),fin D hD⟩
theorem cw_str {z:Str} (f:Nat → Option V) (hl:z.length < sizeLine)
    (hs:∀ (i:Nat) c Hc (A:VK) (B:Hp → Prop),z.cps.toList[i]? = some c → (match f c with | some y => A y Hc | none => B Hc) → g (.str ⟨#[c]⟩) σ0 Hc fun σ2 H2 => Wk σ0 σ2 ∧ tests σ2 H2 fun b H3 => if b = true then te σ2 H3 A else B H3)
    (fin:∀ D,H1 D = none → Q (.ref D) (upd H1 D (.lst (z.cps.toList.filterMap f)))):tCompW g tests te σ0 Q (Its z) H1:=by
  have hz:z.cps.toList.length = z.length:=by simp [Str.length]
  have hz2:z.cps.size = z.length:=rfl
  refine cw_pure (xs:=z.cps.toList.map fun c => .str ⟨#[c]⟩) (ok:=fun _ => True) (fun x => match x with | .str y => f (y.cps.toList.headD 0) | _ => none) (fun i H _ h => ?_) (fun H _ => ?_) (fun i H x H' _ y => ?_) (fun _ _ _ => trivial) (by rw [List.length_map,hz]; exact hl) (fun i x Hc A B hx _ h => ?_) (fun D hD => ?_)
  · rw [List.length_map,hz] at h; exact h
  · show z.cps.size ≤ _
    rw [List.length_map,hz]; exact Nat.le_refl _
  · obtain ⟨e,c,hc,hx⟩:=y
    refine ⟨e,?_⟩
    rw [List.getElem?_map,Array.getElem?_toList,hc,hx]; rfl
  · rw [List.getElem?_map] at hx
    cases e:z.cps.toList[i]? with
    | none => rw [e] at hx; cases hx
    | some c => rw [e] at hx; cases hx; exact hs i c Hc A B e h
  · have q:=fin D hD
    rw [List.filterMap_map]
    exact q
theorem cw_list {K:PySem.W.Frag} {a:Addr} {xs:List V} (f:V → Option V) (ha:rdL H1 a = some xs) (hl:xs.length < sizeLine)
    (hs:∀ (i:Nat) x Hc (A:VK) (B:Hp → Prop),xs[i]? = some x → (∀ p ys,rdL H1 p = some ys → rdL Hc p = some ys) → (match f x with | some y => A y Hc | none => B Hc) → g x σ0 Hc fun σ2 H2 => Wk σ0 σ2 ∧ tests σ2 H2 fun b H3 => if b = true then te σ2 H3 A else B H3)
    (fin:∀ D,H1 D = none → Q (.ref D) (upd H1 D (.lst (xs.filterMap f)))):tCompW g tests te σ0 Q (Itl K a) H1:=by
  refine cw_pure (xs:=xs) (ok:=fun H => ∀ p ys,rdL H1 p = some ys → rdL H p = some ys) f (fun i H o h => ⟨xs,xs[i],rdL_sq (o a xs ha),by simp [h]⟩) (fun H o => ⟨xs,rdL_sq (o a xs ha),Nat.le_refl _⟩) (fun i H x H' o y => ⟨y.1,y.2 xs (rdL_sq (o a xs ha))⟩)
    (fun D ys hD p zs hp => ?_) hl (fun i x Hc A B hx o h => hs i x Hc A B hx o h) fin
  rw [rdL_ne (rdL_fresh hp hD)]
  exact hp
end
theorem s_comp {wi:TI} {g:TG} {tests:TT} {te:TE} {vals:St → St} {σ:St} {H:Hp} {Q:VK} (h:wi σ H fun J H1 => tCompW g tests te (vals σ) Q J H1):tComp wi g tests te vals σ H Q:=h
theorem s_yes {σ:St} {H:Hp} {Q:Bool → Hp → Prop} (h:Q true H):tYes σ H Q:=h
theorem cut_ints (ns:List Int) (lo hi:Option Int):∃ ms:List Int,cutV (ns.map V.int) lo hi = ms.map V.int ∧ (∀ m ∈ ms,m ∈ ns) ∧ ms.length ≤ ns.length:=by
  refine ⟨(ns.drop (HT.sIx ns.length 0 lo)).take (HT.sIx ns.length ns.length hi - HT.sIx ns.length 0 lo),?_,fun m h => List.mem_of_mem_drop (List.mem_of_mem_take h),?_⟩
  · unfold cutV
    rw [List.length_map,List.map_take,List.map_drop]
  · rw [List.length_take,List.length_drop]; omega
end L2
set_option maxHeartbeats 4000000
namespace L2
open PySem PySem.Spec PyProof.Rows
def clF (env:Env):List (Str × NameKind) → List (Str × Addr) → List (Str × Addr)
  | [],acc => acc
  | (n,k) :: r,acc => if k == .free then clF env r ((n,(env.cells.lookup n).getD 0) :: acc) else clF env r acc
def valsF (ix:List (Option Nat)):St → St:=fun σ => ix.map fun o => match o with | none => none | some j => (σ[j]?).join
def chkF (N XN:List Str) (sn dn:List (Str × NameKind)) (ix:List (Option Nat)):Bool :=
  ix.length == N.length && (sn.all fun y => y.2 != .cell && (y.2 != .free || dn.lookup y.1 == some .cell)) && decide ((sn.map (·.1)).Nodup) &&
  ((List.range N.length).all fun i => match ix[i]? with | some (some j) => N[i]? == XN[j]? && (match N[i]? with | some x => sn.lookup x == some .free | none => false) | _ => true)
theorem clos_go {env:Env}:∀ (names:List (Str × NameKind)) (acc:List (Str × Addr)),(∀ y ∈ names,y.2 = .free → ∃ c,env.cells.lookup y.1 = some c) →
    (forIn names acc (fun (x:Str × NameKind) (cs:List (Str × Addr)) => (match x with
      | (name,kind) => if (kind == NameKind.free) = true then do
          let a ← cellOf env name
          pure (ForInStep.yield ((name,a) :: cs))
        else pure (ForInStep.yield cs):Sem (ForInStep (List (Str × Addr)))))) = (pure (clF env names acc):Sem (List (Str × Addr)))
  | [],acc,_ => rfl
  | (n,k) :: r,acc,h => by
    rw [List.forIn_cons]
    unfold clF
    cases e:k == NameKind.free with
    | false =>
      simp only [e,Bool.false_eq_true,if_false,pure_bind]
      exact clos_go r acc fun y hy => h y (List.mem_cons_of_mem _ hy)
    | true =>
      obtain ⟨c,hc⟩:=h (n,k) List.mem_cons_self (by simpa using e)
      have hc':env.cells.lookup n = some c:=hc
      simp only [e,if_true,cellOf,hc',Option.getD_some,pure_bind]
      exact clos_go r _ fun y hy => h y (List.mem_cons_of_mem _ hy)
theorem clF_mem {env:Env}:∀ (names:List (Str × NameKind)) (acc:List (Str × Addr)) {x:Str} {c:Addr},(clF env names acc).lookup x = some c →
    acc.lookup x = some c ∨ ((x,NameKind.free) ∈ names ∧ c = (env.cells.lookup x).getD 0)
  | [],acc,x,c,h => .inl h
  | (n,k) :: r,acc,x,c,h => by
    unfold clF at h
    cases e:k == NameKind.free with
    | false =>
      rw [e] at h
      rcases clF_mem r acc (by simpa using h) with z | ⟨z,q⟩
      · exact .inl z
      · exact .inr ⟨List.mem_cons_of_mem _ z,q⟩
    | true =>
      rw [e] at h
      have ek:k = .free:=by simpa using e
      rcases clF_mem r _ (by simpa using h) with z | ⟨z,q⟩
      · rw [List.lookup_cons] at z
        cases ex:x == n with
        | true =>
          rw [ex] at z
          have exn:x = n:=by simpa using ex
          subst exn; subst ek
          cases z
          exact .inr ⟨List.mem_cons_self,rfl⟩
        | false => rw [ex] at z; exact .inl z
      · exact .inr ⟨List.mem_cons_of_mem _ z,q⟩
theorem clF_acc {env:Env}:∀ (names:List (Str × NameKind)) (acc:List (Str × Addr)) {x:Str},(acc.lookup x).isSome = true → ((clF env names acc).lookup x).isSome = true
  | [],acc,x,h => h
  | (n,k) :: r,acc,x,h => by
    unfold clF
    split
    · refine clF_acc r _ ?_
      rw [List.lookup_cons]
      cases ex:x == n with
      | true => rfl
      | false => exact h
    · exact clF_acc r acc h
theorem clF_has {env:Env}:∀ (names:List (Str × NameKind)) (acc:List (Str × Addr)) {x:Str},(x,NameKind.free) ∈ names → ((clF env names acc).lookup x).isSome = true
  | (n,k) :: r,acc,x,h => by
    unfold clF
    rcases List.mem_cons.mp h with z | z
    · cases z
      simp only [beq_self_eq_true,if_true]
      refine clF_acc r _ ?_
      rw [List.lookup_cons,beq_self_eq_true]
      rfl
    · split
      · exact clF_has r _ z
      · exact clF_has r acc z
theorem lookup_rel {env:Env} {x:Str}:∀ {names:List (Str × NameKind)} {k':NameKind},(names.map fun (n,k) => if (k == NameKind.free && env.scope.kind == .function && env.kindOf n == some .cell) then (n,NameKind.cell) else (n,k)).lookup x = some k' →
    ∃ k,(x,k) ∈ names ∧ (k' = k ∨ (k = .free ∧ k' = .cell))
  | [],_,h => by simp at h
  | (n,k) :: r,k',h => by
    rw [List.map_cons] at h
    dsimp only at h
    cases hc:(k == NameKind.free && env.scope.kind == .function && env.kindOf n == some .cell) with
    | true =>
      rw [hc,if_pos rfl,List.lookup_cons] at h
      cases ex:x == n with
      | true =>
        rw [ex] at h
        cases h
        have:x = n:=by simpa using ex
        subst this
        have hk:k = .free:=by
          have:=(Bool.and_eq_true _ _).mp hc
          have:=(Bool.and_eq_true _ _).mp this.1
          simpa using this.1
        exact ⟨k,List.mem_cons_self,.inr ⟨hk,rfl⟩⟩
      | false =>
        rw [ex] at h
        obtain ⟨k1,h1,h2⟩:=lookup_rel h
        exact ⟨k1,List.mem_cons_of_mem _ h1,h2⟩
    | false =>
      rw [hc,if_neg Bool.false_ne_true,List.lookup_cons] at h
      cases ex:x == n with
      | true =>
        rw [ex] at h
        cases h
        have:x = n:=by simpa using ex
        subst this
        exact ⟨k,List.mem_cons_self,.inl rfl⟩
      | false =>
        rw [ex] at h
        obtain ⟨k1,h1,h2⟩:=lookup_rel h
        exact ⟨k1,List.mem_cons_of_mem _ h1,h2⟩
theorem lookup_free {env:Env} {x:Str} (hk:env.scope.kind = .function) (hx:env.kindOf x = some .cell):∀ {names:List (Str × NameKind)},names.lookup x = some .free →
    (names.map fun (n,k) => if (k == NameKind.free && env.scope.kind == .function && env.kindOf n == some .cell) then (n,NameKind.cell) else (n,k)).lookup x = some .cell
  | [],h => by simp at h
  | (n,k) :: r,h => by
    rw [List.map_cons]
    dsimp only
    rw [List.lookup_cons] at h
    cases ex:x == n with
    | true =>
      rw [ex] at h
      cases h
      have:x = n:=by simpa using ex
      subst this
      rw [hk,hx]
      simp [List.lookup_cons]
    | false =>
      rw [ex] at h
      have ih:=lookup_free hk hx h
      split <;> (rw [List.lookup_cons,ex]; exact ih)
theorem clOkF {X:Cx} {N:List Str} {scope:Scope} (XN:List Str) (sc:Scope) (ix:List (Option Nat)) (hN:X.N = XN) (hsc:X.env.scope = sc) (hk:sc.kind = .function)
    (hcs:∀ x,sc.names.lookup x = some .cell → ∃ c,X.env.cells.lookup x = some c) (c:chkF N XN scope.names sc.names ix = true):ClOk X N scope (clF X.env scope.names []) (valsF ix):=by
  unfold chkF at c
  simp only [Bool.and_eq_true,decide_eq_true_eq,List.all_eq_true,beq_iff_eq] at c
  obtain ⟨⟨⟨c0,c1⟩,c2⟩,c3⟩:=c
  have fr:∀ y,(y,NameKind.free) ∈ scope.names → sc.names.lookup y = some .cell:=fun y hy => by
    have z:=(c1 _ hy).2
    simpa using z
  have nocell:∀ y,(y,NameKind.cell) ∉ scope.names:=fun y hy => by
    have z:=(c1 _ hy).1
    simp at z
  refine ⟨?_,fun x c h => ?_,fun x h => ?_,fun σ => ?_,fun σ i x v h1 h2 => ?_⟩
  · unfold closureFor
    simp only [bind_pure]
    exact clos_go scope.names [] fun y hy hf => hcs y.1 (fr y.1 (by rw [← hf]; exact hy))
  · rcases clF_mem _ _ h with z | ⟨z,q⟩
    · simp at z
    · obtain ⟨c',e⟩:=hcs x (fr x z)
      rw [q,e]; rfl
  · have:∃ k,(x,k) ∈ scope.names ∧ k = .free:=by
      rcases h with h | h
      · obtain ⟨k,h1,h2⟩:=lookup_rel h
        rcases h2 with z | ⟨z,_⟩
        · subst z; exact absurd h1 (nocell x)
        · exact ⟨k,h1,z⟩
      · obtain ⟨k,h1,h2⟩:=lookup_rel h
        rcases h2 with z | ⟨z,z2⟩
        · exact ⟨k,h1,z.symm⟩
        · exact ⟨k,h1,z⟩
    obtain ⟨k,h1,rfl⟩:=this
    exact Option.isSome_iff_exists.mp (clF_has scope.names [] h1)
  · unfold valsF
    rw [List.length_map,c0]
  · unfold valsF at h2
    rw [List.getElem?_map] at h2
    cases e:ix[i]? with
    | none => rw [e] at h2; cases h2
    | some o =>
      rw [e] at h2
      cases o with
      | none => cases h2
      | some j =>
        have hi:i < N.length:=(List.getElem?_eq_some_iff.mp h1).1
        have z:=c3 i (List.mem_range.mpr hi)
        rw [e,h1] at z
        simp only [Bool.and_eq_true,beq_iff_eq] at z
        have hv:σ[j]? = some (some v):=by
          have h3:(σ[j]?).join = some v:=by simpa using h2
          cases e2:σ[j]? with
          | none => rw [e2] at h3; cases h3
          | some o => rw [e2] at h3; cases o with
            | none => cases h3
            | some u => cases h3; rfl
        have hm:(x,NameKind.free) ∈ scope.names:=PySem.mem_of_lookup z.2
        have hx:=fr x hm
        refine ⟨j,by rw [hN]; exact z.1.symm,hv,by rw [hsc]; exact hx,Option.isSome_iff_exists.mp (clF_has scope.names [] hm),?_⟩
        exact lookup_free (by rw [hsc]; exact hk) (by show X.env.scope.names.lookup x = _; rw [hsc]; exact hx) z.2
end L2
set_option maxHeartbeats 4000000
namespace L2
open PySem PySem.Spec PyProof.Rows
open PySem.AutoSeq1 (wpAny_loadPart')
section
variable {prog:Program} {w:World} {A:Around} {E:Value → Shared → Prop} {s:Shared}
end
theorem draws_shift {prog:Program} {w:World} {A:Around} {it:Addr} {fp:List Addr} {n:Nat} {P:Nat → Value → Prop} {S:Nat → Heap → Prop} (k:Nat) (D:Draws prog w A it fp n P S) :
    Draws prog w A it fp (k + n) (fun j v => P (j - k) v) (fun j h => k ≤ j ∧ S (j - k) h) where
  live:=fun i h st => D.live _ h st.2
  frame:=fun i h h' st kk => ⟨st.1,D.frame _ h h' st.2 kk⟩
  item:=fun i s Q E hi st hQ => D.item (i - k) s Q E (by have:=st.1; omega) st.2 fun x h' tk hP hS sb => hQ x h' tk hP ⟨by have:=st.1; omega,by rw [show i + 1 - k = i - k + 1 by have:=st.1; omega]; exact hS⟩ sb
  done:=fun s Q E st hE => D.done s Q E (by have q:=st.2; rwa [show k + n - k = n by omega] at q) hE
section
variable {X:Cx} {pins:List (Addr × Obj)} {σ:St} {H:Hp} {s:Shared} {h':Heap}
theorem Inv.turnLaid {ch:List Addr} {a:Addr} {o:HO} {t':Nat} (I:Inv X pins σ H s) (hch:∀ b ∈ ch,FpOk X pins H b) (k:∀ b u,b ∉ ch → s.heap.get? b = some u → h'.get? b = some u) (hp:s.heap.objs.size ≤ a)
    (new:ObjOk X.prog X.w (upd H a o) h' a o):Inv X pins σ (upd H a o) { s with heap:=h',toks:=t' }:=by
  have hn:=I.hok.fresh hp
  have nch:∀ b u,H b = some u → b ∉ ch:=fun b u e z => by rw [(hch b z).1] at e; cases e
  refine I.step (g':=s.gens) (d':=s.drawn) (ch:=ch) (fun b hb => ?_) (fun b o _ _ hc e _ => k b o hc e) (fun b o _ _ hc e _ => ⟨o.slots,k b o hc e⟩) (fun b o _ e n => ?_) (fun b o hc e => ⟨o,k b o hc e⟩)
    (fun b xs e => by rw [upd_ne (ne_of_none e hn)]; exact e) (fun b o u e => by rw [upd_ne (ne_of_none e hn)]; exact e) (fun b ps e => ⟨#[],by rw [upd_ne (ne_of_none e hn),e]; simp⟩) (fun m hm => ?_) (fun b u e => ?_) I.bare
  · obtain ⟨_,q1,_,q3,q4,q5⟩:=hch b hb
    exact ⟨q3,q1,q4,q5⟩
  · rw [upd_ne (Nat.ne_of_lt (Nat.lt_of_lt_of_le (Heap.lt_size e) hp))]
    exact n
  · obtain ⟨ob,es,ep,ho,r⟩:=hm
    exact ⟨ob,es,ep,k _ ob (fun z => (hch _ z).2.1 rfl) ho,r⟩
  · by_cases hb:b = a
    · subst hb
      rw [upd_same] at e
      cases e
      exact new
    · rw [upd_ne hb] at e
      refine (I.hok b u e).stay (fun c v hc q => k c v ?_ q) (fun c q => by rw [upd_ne (ne_of_none q hn)]; exact q) fun c xs q => by rw [upd_ne (ne_of_none q hn)]; exact q
      rcases hc with z | z
      · rw [z]; exact nch b u e
      · exact nch c _ z
theorem Inv.turnAll {ch:List Addr} {t':Nat} (I:Inv X pins σ H s) (hch:∀ b ∈ ch,FpOk X pins H b) (k:∀ b u,b ∉ ch → s.heap.get? b = some u → h'.get? b = some u):Inv X pins σ H { s with heap:=h',toks:=t' }:=by
  have nch:∀ b u,H b = some u → b ∉ ch:=fun b u e z => by rw [(hch b z).1] at e; cases e
  refine I.step (g':=s.gens) (d':=s.drawn) (ch:=ch) (fun b hb => ?_) (fun b o _ _ hc e _ => k b o hc e) (fun b o _ _ hc e _ => ⟨o.slots,k b o hc e⟩) (fun b o _ e n => n) (fun b o hc e => ⟨o,k b o hc e⟩)
    (fun b xs e => e) (fun b o u e => e) (fun b ps e => ⟨#[],by rw [e]; simp⟩) (fun m hm => ?_) (fun b u e => ?_) I.bare
  · obtain ⟨_,q1,_,q3,q4,q5⟩:=hch b hb
    exact ⟨q3,q1,q4,q5⟩
  · obtain ⟨ob,es,ep,ho,r⟩:=hm
    exact ⟨ob,es,ep,k _ ob (fun z => (hch _ z).2.1 rfl) ho,r⟩
  · refine (I.hok b u e).stay (fun c v hc q => k c v ?_ q) (fun c q => q) fun c xs q => q
    rcases hc with z | z
    · rw [z]; exact nch b u e
    · exact nch c _ z
end
def Ite (K:PySem.W.Frag) (a:Addr) (k:Nat):It :=
  ⟨fun i H => ∃ xs x,SqL K H a xs ∧ xs[i]? = some x,fun i H v H' => ∃ p x,H p = none ∧ v = .ref p ∧ H' = upd H p (.tup [.int ((k + i:Nat):Int),x]) ∧ ∀ xs,SqL K H a xs → xs[i]? = some x,fun i H => ∃ xs,SqL K H a xs ∧ xs.length = i⟩
theorem turn_enum {P:Program} {w:World} {K:PySem.W.Frag} {elts:List Expr} {x1:Nat} {tp:Pos} (a e it:Addr) (k:Nat) (hei:e ≠ it) :
    Turn P w K (.Tuple elts x1 tp) (Ite K a k) [e,it] e (fun i h => (∃ old,IsEnum h e it ((k + i:Nat):Int) old) ∧ h.IsListIter it a i) where
  mem:=by simp
  obj:=fun i h st b hb => by
    obtain ⟨⟨old,he⟩,o,ho,c,d⟩:=st
    rcases List.mem_cons.mp hb with z | z
    · subst z; exact ⟨_,he,fun v z => by cases z⟩
    · rw [List.mem_singleton.mp z]; exact ⟨o,ho,fun v z => by rw [d] at z; cases z⟩
  keep:=fun i h h' st kk => ⟨let ⟨old,he⟩:=st.1; ⟨old,kk e (by simp) _ he⟩,st.2.at fun o q => kk it (by simp) o q⟩
  item:=by
    intro X hP hw hK hc i pins s σ H E I hf st hg
    subst hP hw hK
    obtain ⟨xs,x,hq,hx⟩:=hg
    obtain ⟨its,rv,p,hz⟩:=I.list hq
    obtain ⟨u,hu,ru⟩:=rv.get hx
    obtain ⟨⟨old,he⟩,hit⟩:=st
    have hai:a ≠ it:=by
      rintro rfl
      obtain ⟨o,ho,c,_⟩:=hit
      obtain ⟨o2,ho2,c2,_⟩:=p.isList
      rw [ho] at ho2; cases ho2
      rw [c] at c2; injection c2 with c2; exact absurd c2 (by decide)
    have hae:a ≠ e:=by
      rintro rfl
      obtain ⟨o2,ho2,c2,_⟩:=p.isList
      rw [he] at ho2; cases ho2
      injection c2 with c2; exact absurd c2 (by decide)
    have hl:=rv.length
    have hil:i < its.length:=(List.getElem?_eq_some_iff.mp hu).1
    have D:=draws_shift k (Draws.list (prog:=X.prog) (w:=X.w) (A:=X.A.in1) (show X.A.in1.handled = none from I.ok.hd hc) it a hai its.toArray)
    refine wpAny_pyNext_enum_itemD D (i:=k + i) he ⟨Nat.le_add_right _ _,by rw [Nat.add_sub_cancel_left]; exact ⟨hit,p.isList⟩⟩ (by rw [List.size_toArray]; omega) hei (fun z => by
      rcases List.mem_cons.mp z with z | z
      · exact hei z
      · exact hae (List.mem_singleton.mp z).symm) fun y h1 tk hP ho hS hT hsz kk => ?_
    refine ⟨_,rfl,wpAny_letOwnedTupleGo_enum ho fun h2 he2 hs2 => ?_⟩
    have ey:y = u:=by
      have hP':its.toArray[k + i - k]? = some y:=hP
      rw [Nat.add_sub_cancel_left] at hP'
      have:its[i]? = some y:=by simpa using hP'
      rw [hu] at this; cases this; rfl
    subst ey
    have hTe:s.heap.objs.size ≠ e:=Nat.ne_of_gt (Heap.lt_size he)
    have hTi:s.heap.objs.size ≠ it:=by obtain ⟨o,q,_⟩:=hit; exact Nat.ne_of_gt (Heap.lt_size q)
    have hT2:h2.get? s.heap.objs.size = some { cls:=.type "tuple",data:=.seq #[.int ((k + i:Nat):Int) tk,y] }:=(hs2.2 _ hTe).trans hT
    have hS':h1.IsListIter it a (i + 1):=by
      have q:=hS.2.1
      rwa [show k + i + 1 - k = i + 1 by omega] at q
    have I2:Inv X pins σ (upd H s.heap.objs.size (.tup [.int ((k + i:Nat):Int),x])) { s with heap:=h2,toks:=tk + 1 }:=by
      refine I.turnLaid (ch:=[e,it]) hf (fun b u hb q => (hs2.2 b (fun z => hb (by simp [z]))).trans (kk b u (fun z => hb (by simp [z])) (fun z => hb (by simp [z])) q)) (Nat.le_refl _) ⟨len_line (by show 2 ≤ _; omega),[.int ((k + i:Nat):Int) tk,y],.cons ⟨tk,rfl⟩ (.cons ru .nil),_,hT2,rfl,_,rfl⟩
    refine ⟨.ref s.heap.objs.size,_,I2,rfl,⟨_,x,I.hok.fresh (Nat.le_refl _),rfl,rfl,fun ys hy => by rw [I.list_inj hy hq]; exact hx⟩,⟨⟨y,he2⟩,hS'.at fun o q => (hs2.2 it hei.symm).trans q⟩,fun b hb => ?_⟩
    rcases List.mem_cons.mp hb with z | z
    · rw [z,upd_ne hTe.symm]; exact (hf e (by simp)).1
    · rw [List.mem_singleton.mp z,upd_ne hTi.symm]; exact (hf it (by simp)).1
  done:=by
    intro X hP hw hK hc i pins s σ H E I hf st hg
    subst hP hw hK
    obtain ⟨xs,hq,hx⟩:=hg
    obtain ⟨its,rv,p,hz⟩:=I.list hq
    obtain ⟨⟨old,he⟩,hit⟩:=st
    have hl:=rv.length
    have hai:a ≠ it:=by
      rintro rfl
      obtain ⟨o,ho,c,_⟩:=hit
      obtain ⟨o2,ho2,c2,_⟩:=p.isList
      rw [ho] at ho2; cases ho2
      rw [c] at c2; injection c2 with c2; exact absurd c2 (by decide)
    have D:=draws_shift k (Draws.list (prog:=X.prog) (w:=X.w) (A:=X.A.in1) (show X.A.in1.handled = none from I.ok.hd hc) it a hai its.toArray)
    refine wpAny_pyNext_enum_endD D he ⟨Nat.le_add_right _ _,by rw [Nat.add_sub_cancel_left,List.size_toArray,← hl,hx]; exact ⟨hit,p.isList⟩⟩ fun h' eb => ⟨rfl,?_⟩
    exact I.turnAll (t':=s.toks) (ch:=[e,it]) hf fun b u hb q => eb b u (fun z => hb (by simp [z])) q
  self:=fun _ _ _ _ _ st h => let ⟨⟨_,he⟩,_⟩:=st; wpAny_pyIter_enum he h
section
variable {X:Cx} {l:Expr} {ta tk:TA} {kws:List Keyword} {elts:List Expr} {x1:Nat} {tp p pos kp:Pos}
def onR1 (R:Addr → Hp → Prop):List V → Hp → Prop:=fun vs H => match vs with | [.ref j] => R j H | _ => False
theorem onR1_ex {R:Addr → Hp → Prop} {vs:List V} {H:Hp} (q:onR1 R vs H):∃ j,vs = [.ref j] ∧ R j H:=by
  unfold onR1 at q
  split at q
  · exact ⟨_,rfl,q⟩
  · exact q.elim
def jEnum (K:PySem.W.Frag) (ta:TA):TI:=fun σ H R => ta σ H (onR1 fun a H1 => onL (rdL H1 a) (R (Ite K a 0) H1))
theorem enum_it {pins:List (Addr × Obj)} {σ:St} {H1:Hp} {s1:Shared} {a:Addr} {k:Nat} {h':Heap} {R:It → Hp → Prop} {E:Value → Shared → Prop} (I1:Inv X pins σ H1 s1) (he:IsEnum h' (s1.heap.objs.size + 1) s1.heap.objs.size ((k:Nat):Int) .none) (hi:h'.IsListIter s1.heap.objs.size a 0) (hz:h'.objs.size = s1.heap.objs.size + 2)
    (hk:∀ b o,s1.heap.get? b = some o → h'.get? b = some o) (q:R (Ite X.K a k) H1):wpAny (model X.prog X.w) X.A (pyIter (.ref (s1.heap.objs.size + 1))) (PIE X pins σ (.Tuple elts x1 tp) R) E { s1 with heap:=h' }:=by
  refine wpAny_pyIter_enum (s:={ s1 with heap:=h' }) he ⟨_,[s1.heap.objs.size + 1,s1.heap.objs.size],_,_,H1,rfl,I1.kept (t':=s1.toks) hk,turn_enum a _ _ k (Nat.succ_ne_self _),⟨⟨_,he⟩,hi⟩,fun b hb => ?_,q⟩
  have z:s1.heap.objs.size ≤ b:=by
    rcases List.mem_cons.mp hb with z | z
    · rw [z]; exact Nat.le_succ _
    · rw [List.mem_singleton.mp z]; exact Nat.le_refl _
  exact I1.fpOk z (I1.hok.fresh z)
theorem pj_enum (hg:Gl X "enumerate") (hm:X.mg "enumerate" = none) (ha:PA X [l] ta) (hs:starEach [l] X.env = [(false,eval l X.env)]:=by rfl) :
    PI X (.Tuple elts x1 tp) (.Call (.Name "enumerate" p) [l] [] pos) (jEnum X.K ta):=by
  intro pins s σ H R I h
  refine Call_ (ld_blt I hg hm boot_enumerate (PyProof.Rows.callWith_type1 (thn (ha pos pins s σ H _ I h) fun us s1 ⟨vs,H1,I1,r1,q1⟩ => ?_) hs rfl))
  obtain ⟨a,rfl,q⟩:=onR1_ex q1
  obtain ⟨u,rfl,ru⟩:=vals1 r1
  cases ru
  unfold onL at q
  split at q
  · rename_i xs ex
    obtain ⟨its,rv,p,hz⟩:=I1.list (rdL_sq ex)
    exact call_enumerate_list p.isList fun h' he hi hz hk => enum_it I1 (k:=0) he hi hz hk q
  · exact q.elim
end
section
variable {K:PySem.W.Frag} {a:Addr} {k:Nat} {xs:List V} {g:TG} {tb:TS} {D:Ends} {σ σ0:St} {H H1:Hp} {tests:TT} {te:TE} {Q:VK}
theorem fj_enum (Pv:Nat → St → Hp → Prop) (h0:Pv 0 σ H) (hl:∀ i σ H,i ≤ xs.length → Pv i σ H → rdL H a = some xs)
    (hs:∀ i x σ H p,xs[i]? = some x → Pv i σ H → H p = none → g (.ref p) σ (upd H p (.tup [.int ((k + i:Nat):Int),x])) fun σ2 H2 => tb { D with nx:=Pv (i + 1),ct:=Pv (i + 1),bk:=D.nx } σ2 H2) (hd:∀ σ H,Pv xs.length σ H → D.nx σ H):ForJ (Ite K a k) g tb D σ H:=by
  refine ⟨fun i m σ H => m = xs.length - i ∧ i ≤ xs.length ∧ Pv i σ H,⟨xs.length,by simp,Nat.zero_le _,h0⟩,?_⟩
  rintro i m σ H ⟨rfl,hi,p⟩
  have hr:=hl i σ H hi p
  by_cases hlt:i < xs.length
  · refine .inr ⟨⟨xs,xs[i],rdL_sq hr,by simp [hlt]⟩,Pv (i + 1),fun σ' H' p' => ⟨xs.length - (i + 1),by omega,rfl,hlt,p'⟩,fun x H' y => ?_⟩
    obtain ⟨q,z,hq,rfl,rfl,hz⟩:=y
    exact hs i z σ H q (hz xs (rdL_sq hr)) p hq
  · have e:i = xs.length:=by omega
    subst e
    exact .inl ⟨⟨xs,rdL_sq hr,rfl⟩,hd σ H p⟩
theorem s_jEnum {ta:TA} {R:It → Hp → Prop} (h:ta σ H (onR1 fun a H1 => onL (rdL H1 a) (R (Ite K a 0) H1))):jEnum K ta σ H R:=h
theorem s_onR1 {R:Addr → Hp → Prop} (h:R a H):onR1 R [.ref a] H:=h
end
section
variable {X:Cx}
end
section
variable {K:PySem.W.Frag} {n:Nat} {t:TG} {u:TGs} {v:V} {r xs:List V} {σ:St} {H:Hp} {Q:St → Hp → Prop} {a:Addr}
theorem s_gTup (e:tupL H a = some xs) (hn:xs.length = n) (h:u xs σ H Q):gTup K n u (.ref a) σ H Q:=⟨a,xs,rfl,.of (of_tupL e),hn,h⟩
theorem s_gCons (h:t v σ H fun σ' H' => u r σ' H' Q):gCons t u (v :: r) σ H Q:=⟨v,r,rfl,h⟩
theorem s_gNil (h:Q σ H):gNil [] σ H Q:=⟨rfl,h⟩
end
theorem pg_pair {X:Cx} {K:PySem.W.Frag} {i j k:Nat} {x y:Str} {px py pos:Pos} (hK:X.K = K) (hc:X.calm = true) (hN:X.N.Nodup) (hi:X.N[i]? = some x) (hx:Loc X.env.scope x) (hfx:X.fn x = true ∨ X.env.scope.names.lookup x = some .local)
    (hj:X.N[j]? = some y) (hy:Loc X.env.scope y) (hfy:X.fn y = true ∨ X.env.scope.names.lookup y = some .local):PG X (.Tuple [.Name x px,.Name y py] k pos) (gTup K 2 (gCons (gName i) (gCons (gName j) gNil))):=by
  subst hK
  exact pg_tup hc (pgs_cons (pg_name hN hi hx hfx) (pgs_cons (pg_name hN hj hy hfy) pgs_nil))
end L2
set_option maxHeartbeats 4000000
namespace L2
open PySem PySem.Spec PyProof.Rows
structure Fly (B:Heap) (l:List Env) (e:Addr) (cls:Value) (d:Option Addr) (fl:Value) (h:Heap):Prop where
  stays:B.StaysIn h
  new:B.get? e = none
  frames:h.FunFrames B l
  on:∃ oe vs T oT ts,h.get? e = some oe ∧ (oe.cls = cls ∧ oe.dict = d) ∧ oe.data = .fields vs ∧ vs[1]? = some (.ref T) ∧ B.get? T = none ∧ T ≠ e ∧ h.get? T = some oT ∧ oT.data = .fields ts ∧ ts[3]? = some fl ∧ vs[2]? = some .none
theorem dict_map (o:Obj) (f:Array Value → Array Value):(o.mapFields f).dict = o.dict:=by
  obtain ⟨c,d,dt,sl⟩:=o
  cases dt <;> rfl
theorem up_ne {h:Heap} {a:Addr} {o:Obj} {vs:Array Value} {f:Obj → Obj} (ha:h.get? a = some o) (hd:o.data = .fields vs):∀ b u,h.get? b = some u → (∀ ws,u.data ≠ .fields ws) → (h.update a f).get? b = some u:=fun b u e n => by
  rw [Heap.get?_update_other _ _ (fun z:a = b => by rw [← z,ha] at e; cases e; exact n vs hd)]
  exact e
section
variable {M:Model} {A:Around} {E:Value → Shared → Prop} {s:Shared} {B:Heap} {env:Env} {outer l:List Env} {L e:Addr} {cls:Value} {d:Option Addr} {Q:Unit → Shared → Prop}
theorem fly_entry {oe:Obj} {vs:Array Value} {head:Value} {nx:Bool} (hfr:A.frames = some (env :: outer)) (hl:s.heap.FunFrames B (env :: outer)) (hf:env.frame = some L) (hB:B.StaysIn s.heap) (hn:B.get? e = none)
    (he:s.heap.get? e = some oe) (hd:oe.data = .fields vs) (h1:1 < vs.size) (c2:vs[2]? = some .none) (hQ:∀ h',Fly B (env :: outer) e oe.cls oe.dict (rawInt L) h' → s.heap.UpToSlots h' → Q () { s with heap:=h' }) :
    wpAny M A (do let a ← frameOf env; let pl ← entryPlaceOf L nx; let b ← EntryCells.newEntry head a .none (rawInt L) .none pl; setField (.ref e) 1 b) Q E s:=by
  have ne:e ∉ (env :: outer).filterMap (·.frame):=fun hm => by
    obtain ⟨_,o,ho,nf⟩:=hl.mem hm
    rw [he] at ho; cases ho
    exact nf vs hd
  refine wpAny_bind (wpAny_frameOf_fun hfr hl hf fun g1 so => wpAny_bind (wpAny_entryPlaceOf fun pl hpl => ?_))
  have e1:g1.get? e = some oe:=(so.2.1 e ne).trans he
  have b1:B.StaysIn g1:=fun b o q => (so.2.1 b fun hm => by rw [(hl.mem hm).1] at q; cases q).trans (hB b o q)
  unfold EntryCells.newEntry newFields
  refine wpAny_bind (wpAny_newObj_type ?_ (hpl.sizeOk5 _ _ _ _ _))
  generalize hts:(([head,.ref L,.none,rawInt L,.none] ++ (if pl.isEmpty then List.replicate 6 Value.none else pl):List Value)).toArray = ts
  have t3:ts[3]? = some (rawInt L):=by rw [← hts]; simp
  have e2:=Heap.get?_push_of_some (h:=g1) ⟨.type "traceback",none,.fields ts,#[]⟩ e1
  refine wpAny_setField e2 hd h1 (hQ _ ?_ ?_)
  · have te:g1.objs.size ≠ e:=Nat.ne_of_gt (Heap.lt_size e1)
    have dm:=Obj.data_mapFields hd (·.setIfInBounds 1 (Value.ref g1.objs.size))
    refine ⟨fun b o q => ?_,hn,hl.of_keeps fun b o q nf => ?_,_,_,g1.objs.size,⟨.type "traceback",none,.fields ts,#[]⟩,ts,Heap.get?_update_self _ e2 (Obj.isFreed_of_fields dm),⟨Obj.cls_mapFields _ _,dict_map _ _⟩,dm,by simp [h1],b1.fresh,te,?_,rfl,t3,(Array.getElem?_setIfInBounds_ne (by decide)).trans c2⟩
    · rw [Heap.get?_update_other _ _ (fun z:e = b => by rw [← z,hn] at q; cases q)]
      exact Heap.get?_push_of_some _ (b1 b o q)
    · obtain ⟨sl,q1⟩:=so.2.2 b o q
      exact ⟨_,up_ne e2 hd b _ (Heap.get?_push_of_some _ q1) nf,rfl⟩
    · rw [Heap.get?_update_other _ _ te.symm]
      exact Heap.get?_push_size g1 rfl
  · intro b o q nf
    obtain ⟨sl,q1⟩:=so.2.2 b o q
    exact ⟨sl,up_ne e2 hd b _ (Heap.get?_push_of_some _ q1) nf⟩
theorem fly_note0 {oe:Obj} {vs:Array Value} (hfr:A.frames = some (env :: outer)) (hl:s.heap.FunFrames B (env :: outer)) (hf:env.frame = some L) (hB:B.StaysIn s.heap) (hn:B.get? e = none)
    (he:s.heap.get? e = some oe) (hd:oe.data = .fields vs) (h1:vs[1]? = some .none) (c2:vs[2]? = some .none) (hQ:∀ h',Fly B (env :: outer) e oe.cls oe.dict (rawInt L) h' → s.heap.UpToSlots h' → Q () { s with heap:=h' }):wpAny M A (noteFrame (.ref e) env) Q E s:=by
  unfold noteFrame
  simp only [hf]
  refine wpAny_bind (wpAny_field he hd h1 ?_)
  rw [if_neg (show ¬ ((Value.none != Value.none) = true) by decide)]
  exact fly_entry hfr hl hf hB hn he hd (Array.getElem?_eq_some_iff.mp h1).1 c2 hQ
theorem fly_note (hfr:A.frames = some (env :: outer)) (hf:env.frame = some L) (F:Fly B (env :: outer) e cls d .none s.heap) (hQ:∀ h',Fly B (env :: outer) e cls d (rawInt L) h' → s.heap.UpToSlots h' → Q () { s with heap:=h' }) :
    wpAny M A (noteFrame (.ref e) env) Q E s:=by
  obtain ⟨hB,hn,hl,oe,vs,T,oT,ts,he,⟨rfl,rfl⟩,hd,h1,hT,hTe,gT,dT,t3,c2⟩:=F
  unfold noteFrame
  simp only [hf]
  refine wpAny_bind (wpAny_field he hd h1 ?_)
  rw [if_pos (show (Value.ref T != Value.none) = true by simp)]
  refine wpAny_bind (wpAny_field gT dT t3 ?_)
  rw [if_neg (show ¬ ((Value.none == rawInt L) = true) by simp [rawInt])]
  refine wpAny_bind (wpAny_setField gT dT (Array.getElem?_eq_some_iff.mp t3).1 ?_)
  have keep:∀ b,b ≠ T → (s.heap.update T (Obj.mapFields (·.setIfInBounds 3 Value.none))).get? b = s.heap.get? b:=fun b hb => Heap.get?_update_other _ _ (Ne.symm hb)
  refine fly_entry (s:={ s with heap:=s.heap.update T (Obj.mapFields (·.setIfInBounds 3 Value.none)) }) hfr (hl.of_keeps fun b o q nf => ⟨o,up_ne gT dT b o q nf,rfl⟩) hf
    (fun b o q => (keep b fun z => by rw [z,hT] at q; cases q).trans (hB b o q)) hn ((keep e hTe.symm).trans he) hd (Array.getElem?_eq_some_iff.mp h1).1 c2 fun h' F' up => hQ h' F' fun b o q nf => up b o (up_ne gT dT b o q nf) nf
theorem fly_flight {fl:Value} (F:Fly B l e cls d fl s.heap) (hQ:∀ h',Fly B l e cls d .none h' → s.heap.UpToSlots h' → Q () { s with heap:=h' }):wpAny M A (setFlight (.ref e) none) Q E s:=by
  obtain ⟨hB,hn,hl,oe,vs,T,oT,ts,he,hc,hd,h1,hT,hTe,gT,dT,t3,c2⟩:=F
  have z3:3 < ts.size:=(Array.getElem?_eq_some_iff.mp t3).1
  unfold setFlight
  refine wpAny_bind (wpAny_field he hd h1 ?_)
  rw [if_pos (show (Value.ref T != Value.none) = true by simp)]
  refine wpAny_setField gT dT z3 (hQ _ ?_ fun b o q nf => ⟨o.slots,up_ne gT dT b o q nf⟩)
  have dm:=Obj.data_mapFields dT (·.setIfInBounds 3 Value.none)
  refine ⟨fun b o q => ?_,hn,hl.of_keeps fun b o q nf => ⟨o,up_ne gT dT b o q nf,rfl⟩,oe,vs,T,_,_,?_,hc,hd,h1,hT,hTe,Heap.get?_update_self _ gT (Obj.isFreed_of_fields dm),dm,by simp [z3],c2⟩
  · rw [Heap.get?_update_other _ _ (fun z:T = b => by rw [← z,hT] at q; cases q)]
    exact hB b o q
  · rw [Heap.get?_update_other _ _ hTe]
    exact he
theorem Fly.less {fl:Value} {h:Heap} (F:Fly B (env :: outer) e cls d fl h):Fly B outer e cls d fl h:=⟨F.stays,F.new,F.frames.2.2,F.on⟩
theorem fly_leave0 {oe:Obj} {vs:Array Value} (hfr:A.frames = some (env :: outer)) (hl:s.heap.FunFrames B (env :: outer)) (hf:env.frame = some L) (hB:B.StaysIn s.heap) (hn:B.get? e = none)
    (he:s.heap.get? e = some oe) (hd:oe.data = .fields vs) (h1:vs[1]? = some .none) (c2:vs[2]? = some .none) (hQ:∀ h',Fly B outer e oe.cls oe.dict .none h' → s.heap.UpToSlots h' → Q () { s with heap:=h' }):wpAny M A (leaving env (.ref e)) Q E s:=by
  unfold leaving
  exact wpAny_bind (fly_note0 hfr hl hf hB hn he hd h1 c2 fun h1 F1 u1 => fly_flight (s:={ s with heap:=h1 }) F1 fun h2 F2 u2 => hQ h2 F2.less (u1.trans u2))
theorem fly_leave (hfr:A.frames = some (env :: outer)) (hf:env.frame = some L) (F:Fly B (env :: outer) e cls d .none s.heap) (hQ:∀ h',Fly B outer e cls d .none h' → s.heap.UpToSlots h' → Q () { s with heap:=h' }):wpAny M A (leaving env (.ref e)) Q E s:=by
  unfold leaving
  exact wpAny_bind (fly_note hfr hf F fun h1 F1 u1 => fly_flight (s:={ s with heap:=h1 }) F1 fun h2 F2 u2 => hQ h2 F2.less (u1.trans u2))
end
end L2
set_option maxHeartbeats 4000000
namespace L2
open PySem PySem.Spec PyProof.Rows
structure UnB (fs:List Addr) (H H':Hp) (h B h':Heap):Prop where
  keep:∀ b o,h.get? b = some o → H b = none → b ∉ fs → B.get? b = some o
  slot:∀ b o,h.get? b = some o → H b = none → b ∈ fs → ∃ sl,h'.get? b = some { o with slots:=sl }
  free:∀ b o,h.get? b = some o → H b = none → H' b = none
  there:∀ b o,h.get? b = some o → b ∉ fs → ∃ o',B.get? b = some o'
  tups:∀ b xs,H b = some (.tup xs) → H' b = some (.tup xs)
  frzs:∀ b o u,H b = some (.frz o u) → H' b = some (.frz o u)
  tbls:∀ b ps,H b = some (.tbl ps) → ∃ more,H' b = some (.tbl (ps ++ more))
def CXr (P:Program) (w:World):CXT:=fun outer H s E e s' =>
  ∃ (ea:Addr) (cls:Value) (d:Option Addr) (B:Heap) (H':Hp),e = .ref ea ∧ s'.os = s.os ∧ AllBare s'.gens ∧ Fly B outer ea cls d .none s'.heap ∧ HOk P w H' B ∧ UnB (frs outer) H H' s.heap B s'.heap ∧ E cls d H'
theorem HOk.down {P:Program} {w:World} {H:Hp} {h B:Heap} (x:HOk P w H h) (k:∀ b o u,H b = some u → h.get? b = some o → B.get? b = some o):HOk P w H B:=fun a u e =>
  (x a u e).stay (fun b o hb q => by
    rcases hb with z | z
    · subst z; exact k b o u e q
    · exact k b o _ z q) (fun _ q => q) fun _ _ q => q
theorem ObjOk.get {P:Program} {w:World} {H:Hp} {h:Heap} {a:Addr} {o:HO} (x:ObjOk P w H h a o):∃ ob,h.get? a = some ob:=by
  cases o with
  | lst xs => obtain ⟨_,_,_,_,e⟩:=x; exact ⟨_,e⟩
  | tup xs => obtain ⟨_,_,_,ob,e,_⟩:=x; exact ⟨_,e⟩
  | dK kvs => obtain ⟨_,_,_,_,ob,_,_,e,_⟩:=x; exact ⟨_,e⟩
  | dT kvs => obtain ⟨_,_,_,_,ob,_,_,e,_⟩:=x; exact ⟨_,e⟩
  | set S n => obtain ⟨ob,_,_,_,e,_⟩:=x; exact ⟨_,e⟩
  | ins C dx fs => obtain ⟨_,_,_,e,_⟩:=x; exact ⟨_,e⟩
  | own y => exact x
  | xd fs => obtain ⟨_,⟨od,_,_,e,_⟩,_⟩:=x; exact ⟨_,e⟩
  | rng lo hi => obtain ⟨_,_,_,e⟩:=x; exact ⟨_,e⟩
  | frz ob u => exact ⟨_,x.1⟩
  | tbl ps => exact ⟨_,x⟩
  | met f y => exact ⟨_,x⟩
  | ext φ => exact x.2.1
theorem HOk.hole {P:Program} {w:World} {H:Hp} {h:Heap} {a:Addr} (x:HOk P w H h) (e:h.get? a = none):H a = none:=by
  cases q:H a with
  | none => rfl
  | some o =>
    obtain ⟨ob,z⟩:=(x a o q).get
    rw [e] at z
    cases z
theorem not_mem_stack {env:Env} {outer:List Env} {L b:Addr} (hf:env.frame = some L) (h1:b ≠ L) (h2:b ∉ frs outer):b ∉ frs (env :: outer):=fun hm => by
  obtain ⟨e,he,q⟩:=List.mem_filterMap.mp hm
  rcases List.mem_cons.mp he with z | z
  · subst z
    rw [hf] at q
    exact h1 (Option.some.inj q).symm
  · exact h2 (List.mem_filterMap.mpr ⟨e,z,q⟩)
section
variable {P:Program} {w:World} {K:PySem.W.Frag} {mg:Str → Option Value} {base:Heap} {N:List Str} {qual:Str} {scope:Scope} {f:Addr} {cd:Value} {A:Around} {outer:List Env} {s₀:Shared} {H₀:Hp} {E:XK}
  {pins:List (Addr × Obj)} {σ:St} {H:Hp} {s:Shared}
theorem raise_leaves {ea:Addr} {oe:Obj} {vs:Array Value} (I:Inv (cxOf (CXr P w) P w K mg base N qual scope f cd A outer s₀ H₀ E) pins σ H s) (he:s.heap.get? ea = some oe) (hd:oe.data = .fields vs) (h1:vs[1]? = some .none) (c2:vs[2]? = some .none) (hn:H ea = none) (h0:s₀.heap.get? ea = none)
    (q:E oe.cls oe.dict H):(cxOf (CXr P w) P w K mg base N qual scope f cd A outer s₀ H₀ E).xe (.ref ea) s:=by
  have hfr:=I.ok.frames
  have hst:=I.stack
  have hsf:=I.stkFree
  have hbase:=I.base
  have hlo:∀ b o,s₀.heap.get? b = some o → b ≠ s₀.heap.objs.size:=fun b o e => Nat.ne_of_lt (Heap.lt_size e)
  have nea:∀ b o,s₀.heap.get? b = some o → b ≠ ea:=fun b o e z => by rw [z,h0] at e; cases e
  have hid:∀ b o,s.heap.get? b = some o → b ≠ ea → b ∉ frs (envOfC qual scope s₀.heap.objs.size f cd :: outer) → (PySem.W.hideAll s.heap (ea :: frs (envOfC qual scope s₀.heap.objs.size f cd :: outer))).get? b = some o:=fun b o e n1 n2 =>
    PySem.W.hideAll_get _ e fun hm => (List.mem_cons.mp hm).elim n1 n2
  refine fly_leave0 (B:=PySem.W.hideAll s.heap (ea :: frs (envOfC qual scope s₀.heap.objs.size f cd :: outer))) hfr (PySem.W.funFrames_hide hst fun env he b hb => List.mem_cons_of_mem _ (List.mem_filterMap.mpr ⟨env,he,hb⟩)) rfl (fun b o q => PySem.W.of_hideAll _ q)
    (PySem.W.hideAll_none _ List.mem_cons_self) he hd h1 c2 fun h2 fl up => ?_
  refine ⟨ea,_,_,_,H,rfl,I.os,I.bare,fl,I.hok.down fun b o u e g => hid b o g (fun z => by rw [z,hn] at e; cases e) fun hm => ?_,⟨fun b o e n hb => ?_,fun b o e n hb => ?_,fun b o e n => hbase.free b o e n (by simp [cxOf]),fun b o e hb => ?_,hbase.tups,hbase.frzs,hbase.tbls⟩,q⟩
  · rw [hsf b hm] at e
    cases e
  · exact hid b o (hbase.keep b o e n hb (by simp [cxOf])) (nea b o e) (not_mem_stack rfl (hlo b o e) hb)
  · obtain ⟨sl,q1⟩:=hbase.slot b o e n hb (by simp [cxOf])
    obtain ⟨_,o2,g2,nf⟩:=I.ok.funs.mem hb
    have e2:s₀.heap.get? b = some o2:=g2
    rw [e] at e2
    cases e2
    obtain ⟨sl2,q2⟩:=up b _ q1 nf
    exact ⟨sl2,q2⟩
  · obtain ⟨o',q1⟩:=hbase.there b o e (by simp [cxOf])
    exact ⟨o',hid b o' q1 (nea b o e) (not_mem_stack rfl (hlo b o e) hb)⟩
theorem passes_on:Passes (CXr P w) (cxOf (CXr P w) P w K mg base N qual scope f cd A outer s₀ H₀ E) E:=by
  intro pins σ H s e s' I h
  obtain ⟨ea,cls,d,B,H',rfl,os,bare,fl,hok,un,q⟩:=h
  have hbase:=I.base
  have hlo:∀ b o,s₀.heap.get? b = some o → b ≠ s₀.heap.objs.size:=fun b o e => Nat.ne_of_lt (Heap.lt_size e)
  refine fly_leave I.ok.frames rfl fl fun h2 fl2 up => ?_
  have ns:∀ b o,s₀.heap.get? b = some o → b ∉ frs outer → b ∉ frs (envOfC qual scope s₀.heap.objs.size f cd :: outer):=fun b o e hb => not_mem_stack rfl (hlo b o e) hb
  have ins:∀ b,b ∈ frs outer → b ∈ frs (envOfC qual scope s₀.heap.objs.size f cd :: outer):=fun b hb => by
    obtain ⟨e,he,q⟩:=List.mem_filterMap.mp hb
    exact List.mem_filterMap.mpr ⟨e,List.mem_cons_of_mem _ he,q⟩
  refine ⟨ea,cls,d,B,H',rfl,os.trans I.os,bare,fl2,hok,⟨fun b o e n hb => ?_,fun b o e n hb => ?_,fun b o e n => ?_,fun b o e hb => ?_,fun b xs e => un.tups b xs (hbase.tups b xs e),fun b o u e => un.frzs b o u (hbase.frzs b o u e),fun b ps e => ?_⟩,q⟩
  · exact un.keep b o (hbase.keep b o e n hb (by simp [cxOf])) (hbase.free b o e n (by simp [cxOf])) (ns b o e hb)
  · obtain ⟨sl,q1⟩:=hbase.slot b o e n hb (by simp [cxOf])
    obtain ⟨sl1,q2⟩:=un.slot b _ q1 (hbase.free b o e n (by simp [cxOf])) (ins b hb)
    obtain ⟨_,o2,g2,nf⟩:=I.ok.funs.mem hb
    have e2:s₀.heap.get? b = some o2:=g2
    rw [e] at e2
    cases e2
    obtain ⟨sl2,q3⟩:=up b _ q2 nf
    exact ⟨sl2,q3⟩
  · obtain ⟨o',q1⟩:=hbase.there b o e (by simp [cxOf])
    exact un.free b o' q1 (hbase.free b o e n (by simp [cxOf]))
  · obtain ⟨o',q1⟩:=hbase.there b o e (by simp [cxOf])
    exact un.there b o' q1 (ns b o e hb)
  · obtain ⟨m1,e1⟩:=hbase.tbls b ps e
    obtain ⟨m2,e2⟩:=un.tbls b _ e1
    exact ⟨m1 ++ m2,by rw [e2,Array.append_assoc]⟩
end
theorem own_obj {K:PySem.W.Frag} {h:Heap} {C:Addr} {bmB:List Value} {newId:String} (X:K.In h) (q:PySem.W.excIn K C bmB newId = true) :
    ∃ bm N nm qn bs hd sn sub ab col dd k0 k1 k2 k3 k5 mN,h.get? C = some (excClassObj nm qn C N bs bm hd sn sub ab col dd k0 k1 k2 k3 k5 newId) ∧ h.Ns N mN ∧ mN "__init__" = none ∧ OwnTail h bmB bm:=by
  unfold PySem.W.excIn at q
  split at q
  · rename_i dd c sl ho
    split at q
    · rename_i C1 bm k0 k1 k2 k3 n k5 hm hs
      obtain ⟨⟨⟨⟨⟨q1,q2⟩,q3⟩,q4⟩,q5⟩,q6⟩:((((C1 = C ∧ n = newId) ∧ c.hasDel = false) ∧ PySem.W.tailIn K bmB bm = true) ∧ PySem.W.nsOkIn K c.ns = true) ∧ PySem.W.nsIn K c.ns "__init__" = some none:=by
        simpa only [Bool.and_eq_true,beq_iff_eq,Bool.not_eq_true'] using q
      subst q1 q2
      obtain ⟨nm,bs,mro,ns,qn,hd,sn,sub,ab,col,del⟩:=c
      dsimp only at hm q3 q5 q6
      subst hm q3
      obtain rfl:sl = #[k0,k1,k2,k3,some (.builtin n),k5]:=by
        obtain ⟨l⟩:=sl
        have hs':l = _:=hs
        rw [hs']
      exact ⟨bm,ns,nm,qn,bs,hd,sn,sub,ab,col,dd,k0,k1,k2,k3,k5,_,X _ _ ho,.of_isNs (PySem.W.isNs_of_in X q5),PySem.W.nsMap_none_of_in X q5 q6,PySem.W.tail_of_in X q4⟩
    · cases q
  · cases q
def Rais (X:Cx) (E:XK):Prop:=∀ (pins:List (Addr × Obj)) (σ:St) (H:Hp) (s:Shared) (ea:Addr) (oe:Obj) (vs:Array Value),Inv X pins σ H s → s.heap.get? ea = some oe → oe.data = .fields vs → vs[1]? = some .none → vs[2]? = some .none → H ea = none → X.s₀.heap.get? ea = none →
  E oe.cls oe.dict H → X.xe (.ref ea) s
theorem rais_of {P:Program} {w:World} {K:PySem.W.Frag} {mg:Str → Option Value} {base:Heap} {N:List Str} {qual:Str} {scope:Scope} {f:Addr} {cd:Value} {A:Around} {outer:List Env} {s₀:Shared} {H₀:Hp} {E:XK} :
    Rais (cxOf (CXr P w) P w K mg base N qual scope f cd A outer s₀ H₀ E) E:=fun _ _ _ _ _ _ _ I he hd h1 c2 hn h0 q => raise_leaves I he hd h1 c2 hn h0 q
section
variable {X:Cx} {E:XK} {x:Str} {C:Addr} {bmB:List Value} {B newId initId:String} {e:Expr} {es:List Expr} {ta:TA} {np cpos pos:Pos}
def tRaise (C:Addr) (E:XK) (ta:TA):TS:=fun _ σ H => ta σ H fun vs H1 => vs.length ≤ sizeLine ∧ E (.ref C) none H1
theorem ps_raise (hR:Rais X E) (hex:X.ex = []) (hc:X.calm = true) (hg:Gl X x) (hm:X.mg x = some (.ref C)) (hx:PySem.W.excIn X.K C bmB newId = true) (FB:ExcBaseFacts B newId initId bmB) (ha:PA X (e :: es) ta)
    (hd:(x == ("__debug__" : Str)) = false:=by decide) (he:starEach (e :: es) X.env = (false,eval e X.env) :: starEach es X.env:=by rfl) (hpl:(backTo cpos (starEach es X.env)).any (·.1) = false:=by rfl) :
    PS X (.Raise (some (.Call (.Name x np) (e :: es) [] cpos)) none pos) (tRaise C E ta):=by
  intro pins s σ H D I h
  obtain ⟨bm,N,nm,q,bs,hdct,sn,sub,ab,col,dd,k0,k1,k2,k3,k5,mN,hC,hN,hni,T⟩:=own_obj I.ok.mod.kin hx
  refine wpAny_Raise_call_subT (C:=C) (N:=N) (bm:=bm) (nm:=nm) (q:=q) (bs:=bs) (hdct:=hdct) (sn:=sn) (sub:=sub) (ab:=ab) (col:=col) (dd:=dd) (k0:=k0) (k1:=k1) (k2:=k2) (k3:=k3) (k5:=k5)
    FB (mN:=mN) (T.hasType FB.hasBase) (I.ok.hd hc) (by rw [he]; show (false || (backTo cpos (starEach es X.env)).any (·.1)) = false; rw [hpl]; rfl) hni (ld_glob I hg hm ⟨rfl,?_⟩ hd)
  have h1:=ha cpos pins s σ H _ I h
  rw [he] at h1 ⊢
  refine Calls.evalArgs_plain (thn h1 fun us s2 ⟨vs,H2,I2,r,q2⟩ => ⟨rfl,?_,I2.bk _ _ hC,hN.keeps I2.bk,T.keeps I2.bk,fun h' ea hx => ?_⟩)
  · show us.length ≤ sizeLine
    rw [← r.length]
    exact q2.1
  · obtain ⟨t,g,_,_⟩:=hx.there
    refine hR pins σ H2 { s2 with heap:=h' } ea _ _ (I2.kept (t':=s2.toks) hx.keeps) g rfl rfl rfl (I2.hok.hole hx.new) ?_ q2.2
    cases z:X.s₀.heap.get? ea with
    | none => rfl
    | some o =>
      obtain ⟨o',z'⟩:=I2.base.there ea o z (by rw [hex]; simp)
      rw [hx.new] at z'
      cases z'
end
abbrev Cx.tr (X:Cx) (pins:List (Addr × Obj)) (xe:Value → Shared → Prop):Cx:={ X with pn:=X.pn ++ pins,xe:=xe }
abbrev Cx.hnd (X:Cx) (pins:List (Addr × Obj)) (ea:Addr):Cx:={ X with A:=X.A.mark (some (.ref ea)),calm:=false,pn:=X.pn ++ pins,xe:=fun _ _ => False }
section
variable {X:Cx} {pins pins':List (Addr × Obj)} {σ:St} {H:Hp} {s:Shared} {xe:Value → Shared → Prop} {ea:Addr}
theorem Inv.tr (I:Inv X pins σ H s) (xe:Value → Shared → Prop):Inv (X.tr pins xe) [] σ H s :=
  ⟨⟨I.ok.mod,I.ok.kind,I.ok.glob,I.ok.blt,I.ok.above,I.ok.inj,I.ok.has,I.ok.cab,I.ok.hd,I.ok.frames,I.ok.stk,I.ok.exf,I.ok.bs,I.ok.bsz,I.ok.noex,I.ok.exfs,I.ok.funs,I.ok.frf⟩,I.os,I.bare,I.base,I.loc,I.cell,I.free,I.freeC,
    fun p hp => I.pin p (by rwa [List.append_nil] at hp),I.hok,I.len⟩
theorem Inv.untr (I:Inv (X.tr pins xe) pins' σ H s):Inv X pins σ H s :=
  ⟨⟨I.ok.mod,I.ok.kind,I.ok.glob,I.ok.blt,I.ok.above,I.ok.inj,I.ok.has,I.ok.cab,I.ok.hd,I.ok.frames,I.ok.stk,I.ok.exf,I.ok.bs,I.ok.bsz,I.ok.noex,I.ok.exfs,I.ok.funs,I.ok.frf⟩,I.os,I.bare,I.base,I.loc,I.cell,I.free,I.freeC,
    fun p hp => I.pin p (List.mem_append_left _ hp),I.hok,I.len⟩
theorem Inv.hnd (I:Inv X pins σ H s) (ea:Addr):Inv (X.hnd pins ea) [] σ H s :=
  ⟨⟨I.ok.mod,I.ok.kind,I.ok.glob,I.ok.blt,I.ok.above,I.ok.inj,I.ok.has,I.ok.cab,(fun z => nomatch z),I.ok.frames,I.ok.stk,I.ok.exf,I.ok.bs,I.ok.bsz,I.ok.noex,I.ok.exfs,I.ok.funs,I.ok.frf⟩,I.os,I.bare,I.base,I.loc,I.cell,I.free,I.freeC,
    fun p hp => I.pin p (by rwa [List.append_nil] at hp),I.hok,I.len⟩
theorem Inv.unhnd (I:Inv (X.hnd pins ea) pins' σ H s) (ok:X.Ok):Inv X pins σ H s :=
  ⟨ok,I.os,I.bare,I.base,I.loc,I.cell,I.free,I.freeC,fun p hp => I.pin p (List.mem_append_left _ hp),I.hok,I.len⟩
structure Fre (X:Cx) (pins:List (Addr × Obj)) (a:Addr):Prop where
  s0:X.s₀.heap.get? a = none
  loc:a ≠ X.env.locals
  cell:∀ x c,X.env.cells.lookup x = some c → c ≠ a
  pin:∀ p ∈ X.pn ++ pins,p.1 ≠ a
theorem Inv.adopt {a:Addr} {o:HO} (I:Inv X pins σ H s) (f:Fre X pins a) (hn:H a = none) (new:ObjOk X.prog X.w (upd H a o) s.heap a o):Inv X pins σ (upd H a o) s:=by
  have ne:∀ b u,H b = some u → b ≠ a:=fun b u e => ne_of_none e hn
  refine ⟨I.ok,I.os,I.bare,⟨I.base.keep,I.base.slot,fun b u e n hx => ?_,I.base.there,fun b xs e => ?_,fun b u v e => ?_,fun b ps e => ?_⟩,I.loc,I.cell,by rw [upd_ne f.loc.symm]; exact I.free,fun x c e => by rw [upd_ne (f.cell x c e)]; exact I.freeC x c e,fun p hp => ?_,fun b u e => ?_,I.len⟩
  · rw [upd_ne (fun z => by rw [z,f.s0] at e; cases e)]
    exact I.base.free b u e n hx
  · have q:=I.base.tups b xs e
    rw [upd_ne (ne b _ q)]; exact q
  · have q:=I.base.frzs b u v e
    rw [upd_ne (ne b _ q)]; exact q
  · obtain ⟨m,q⟩:=I.base.tbls b ps e
    exact ⟨m,by rw [upd_ne (ne b _ q)]; exact q⟩
  · obtain ⟨h1,h2,h3⟩:=I.pin p hp
    exact ⟨h1,by rw [upd_ne (f.pin p hp)]; exact h2,h3⟩
  · by_cases hb:b = a
    · subst hb
      rw [upd_same] at e
      cases e
      exact new
    · rw [upd_ne hb] at e
      exact (I.hok b u e).stay (fun c v _ q => q) (fun c q => by rw [upd_ne (ne c _ q)]; exact q) fun c xs q => by rw [upd_ne (ne c _ q)]; exact q
theorem Inv.unname {i:Nat} {n:Str} {h':Heap} {m:Str → Option Value} {v:Option Value} {t:Nat} (I:Inv X pins σ H s) (hN:X.N.Nodup) (hi:X.N[i]? = some n) (hm:s.heap.Ns X.env.locals m) (hl:X.env.scope.names.lookup n = some .local)
    (hn:h'.Ns X.env.locals (fun x => if x = n then v else m x)) (sb:Heap.SameBut X.env.locals s.heap h'):Inv X pins (σ.set i none) H { s with heap:=h',toks:=t }:=by
  have k:∀ b o,b ≠ X.env.locals → s.heap.get? b = some o → h'.get? b = some o:=fun b o hb e => (sb.2 b hb).trans e
  have nl:∀ b o,X.s₀.heap.get? b = some o → b ≠ X.env.locals:=fun b o e => Nat.ne_of_lt (Nat.lt_of_lt_of_le (Heap.lt_size e) I.ok.above)
  have there:∀ b o,s.heap.get? b = some o → ∃ o',h'.get? b = some o':=fun b o e => by
    by_cases hb:b = X.env.locals
    · obtain ⟨o',_,_,q,_⟩:=hn
      exact ⟨o',by rw [hb]; exact q⟩
    · exact ⟨o,k b o hb e⟩
  obtain ⟨m1,hm1,hl1⟩:=id I.loc
  refine ⟨I.ok,I.os,I.bare,⟨fun b o e n hb hx => k b o (nl b o e) (I.base.keep b o e n hb hx),fun b o e n hb hx => ?_,I.base.free,fun b o e hx => ?_,I.base.tups,I.base.frzs,I.base.tbls⟩,⟨_,hn,fun j y u e1 e2 e3 => ?_⟩,fun x c e => ?_,I.free,I.freeC,fun p hp => ?_,fun b u e => ?_,by rw [List.length_set]; exact I.len⟩
  · obtain ⟨sl,q⟩:=I.base.slot b o e n hb hx
    exact ⟨sl,k b _ (nl b o e) q⟩
  · obtain ⟨o',q⟩:=I.base.there b o e hx
    exact there b o' q
  · have hji:j ≠ i:=fun z => by
      subst z
      rw [List.getElem?_set_self (by rw [I.len]; exact (List.getElem?_eq_some_iff.mp hi).1)] at e2
      cases e2
    rw [List.getElem?_set_ne (Ne.symm hji)] at e2
    have hyn:y ≠ n:=fun z => hji (nodup_ix hN e1 (by rw [z]; exact hi))
    obtain ⟨u',r,look⟩:=hl1 j y u e1 e2 e3
    have em:m1 = m:=by
      obtain ⟨o1,es1,ep1,g1,d1,_,f1⟩:=hm1
      obtain ⟨o2,es2,ep2,g2,d2,_,f2⟩:=hm
      rw [g1] at g2; cases g2
      rw [d1] at d2; cases d2
      funext z
      rw [← f1 z,f2 z]
    refine ⟨u',r,?_⟩
    rcases look with ⟨z1,z2⟩ | ⟨z1,c,z2,o,z3,z4⟩
    · exact .inl ⟨z1,by show (if y = n then v else m y) = _; rw [if_neg hyn,← em]; exact z2⟩
    · exact .inr ⟨z1,c,z2,o,k c o (I.cne y c z2) z3,z4⟩
  · obtain ⟨v',o,z1,z2⟩:=I.cell x c e
    exact ⟨v',o,k c o (I.cne x c e) z1,z2⟩
  · obtain ⟨h1,h2,h3,h4⟩:=I.pin p hp
    exact ⟨k _ _ h3 h1,h2,h3,h4⟩
  · refine (I.hok b u e).stay (fun c o hc q => k c o (fun z => ?_) q) (fun _ q => q) fun _ _ q => q
    have fr:=I.free
    rcases hc with z1 | z1
    · rw [← z1,z,fr] at e; cases e
    · rw [z,fr] at z1; cases z1
end
def excO (ea:Addr) (cls:Value) (d:Option Addr):HO:=.ext fun h => ∃ oe vs,h.get? ea = some oe ∧ oe.cls = cls ∧ oe.dict = d ∧ oe.data = .fields vs
theorem Fly.obj {P:Program} {w:World} {B:Heap} {l:List Env} {ea:Addr} {cls fl:Value} {d:Option Addr} {h:Heap} {H:Hp} (F:Fly B l ea cls d fl h):ObjOk P w H h ea (excO ea cls d):=by
  obtain ⟨oe,vs,T,oT,ts,he,hc,hd,_⟩:=F.on
  exact ⟨⟨oe,vs,he,hc.1,hc.2,hd⟩,⟨oe,he⟩,fun h1 h2 ⟨o,ws,g,q⟩ k => ⟨o,ws,k o g,q⟩⟩
def XS (X:Cx) (pins:List (Addr × Obj)) (R:Value → Option Addr → St → Hp → Prop):Value → Shared → Prop:=fun e s1 =>
  ∃ ea cls d B σ1 H1,e = .ref ea ∧ Fly B X.stack ea cls d .none s1.heap ∧ Fre X pins ea ∧ H1 ea = none ∧ (∀ h2,B.StaysIn h2 → s1.heap.UpToSlots h2 → Inv X pins σ1 H1 { s1 with heap:=h2 }) ∧ R cls d σ1 H1
def PassS (CX:CXT) (X:Cx) (Es:St → XK):Prop:=∀ (pins:List (Addr × Obj)) (σ:St) (H:Hp) (s:Shared) (e:Value) (s':Shared),Inv X pins σ H s → CX X.stack H s (Es σ) e s' → X.xe e s'
theorem passes_try {X:Cx} {pins:List (Addr × Obj)} {R:Value → Option Addr → St → Hp → Prop} (hex:X.ex = []):PassS (CXr X.prog X.w) (X.tr pins (XS X pins R)) (fun σ cls d H1 => R cls d σ H1):=by
  intro pins' σ H s e s1 I' h
  obtain ⟨ea,cls,d,B,H1,rfl,os,bare,F,hok,un,q⟩:=h
  have I:Inv X pins σ H s:=I'.untr
  have F:Fly B X.stack ea cls d .none s1.heap:=F
  have un:UnB (frs X.stack) H H1 s.heap B s1.heap:=un
  have nfs:ea ∉ frs X.stack:=fun hm => by
    obtain ⟨_,o,g,nf⟩:=F.frames.mem hm
    obtain ⟨oe,vs,T,oT,ts,he,hc,hd,_⟩:=F.on
    rw [g] at he; cases he
    exact nf vs hd
  have ne:∀ b o,s.heap.get? b = some o → b ≠ ea:=fun b o g z => by
    subst z
    obtain ⟨o',g'⟩:=un.there b o g nfs
    rw [F.new] at g'
    cases g'
  refine ⟨ea,cls,d,B,σ,H1,rfl,F,⟨?_,?_,fun x c z => ?_,fun p hp => ?_⟩,hok.hole F.new,fun h2 st up => ?_,q⟩
  · cases z:X.s₀.heap.get? ea with
    | none => rfl
    | some o =>
      obtain ⟨o',z'⟩:=I.base.there ea o z (by rw [hex]; simp)
      exact absurd rfl (ne ea o' z')
  · obtain ⟨m,⟨o,_,_,g,_⟩,_⟩:=I.loc
    exact (ne _ o g).symm
  · obtain ⟨v,o,g,_⟩:=I.cell x c z
    exact ne c o g
  · exact ne p.1 p.2 (I.pin p hp).1
  · have slot:∀ b o,s.heap.get? b = some o → b ∈ frs X.stack → ∃ sl,h2.get? b = some { o with slots:=sl }:=fun b o g hb => by
      obtain ⟨sl,g1⟩:=un.slot b o g (I.stkFree b hb) hb
      obtain ⟨_,o2,g2,nf⟩:=I.stack.mem hb
      rw [g] at g2; cases g2
      obtain ⟨sl2,g3⟩:=up b _ g1 nf
      exact ⟨sl2,g3⟩
    refine I.call' (s':={ s1 with heap:=h2 }) (ch:=[]) os ⟨fun b o g n hb _ => st b o (un.keep b o g n hb),fun b o g n hb _ => slot b o g hb,fun b o g n _ => un.free b o g n,fun b o g _ => ?_,un.tups,un.frzs,un.tbls⟩ (hok.kept fun b o g => st b o g) bare fun b hb => absurd hb (by simp)
    by_cases hb:b ∈ frs X.stack
    · obtain ⟨sl,g1⟩:=slot b o g hb
      exact ⟨_,g1⟩
    · obtain ⟨o',g1⟩:=un.there b o g hb
      exact ⟨o',st b o' g1⟩
section
variable {X:Cx} {CX:CXT} {k:Nat} {f:Addr} {fd:FuncData} {ps:List Str} {sp:Sp} {Es:St → XK} {x:Str} {p pos:Pos} {e:Expr} {es:List Expr} {t:TA}
def tCallS (sp:Sp) (Es:St → XK) (t:TA):TE:=fun σ H Q => t σ H fun vs H1 => sp vs H1 Q (Es σ)
theorem pe_callS (F:FnOk X.prog X.w X.K X.mg X.base CX k f fd ps sp) (hr:Room k X.A) (hg:Gl X x) (hm:X.mg x = some (.ref f)) (hk:PySem.W.keepIn X.K (.ref f) = true) (hb:Binds X.K fd ps []) (hx:PassS CX X Es) (ha:PA X (e :: es) t)
    (hdb:(x == ("__debug__" : Str)) = false:=by decide) (he:starEach (e :: es) X.env = (false,eval e X.env) :: starEach es X.env:=by rfl) (hpl:(backTo pos (starEach es X.env)).any (·.1) = false:=by rfl) :
    PE X (.Call (.Name x p) (e :: es) [] pos) (tCallS sp Es t):=by
  intro pins s σ H Q I h
  refine wpAny_Call_Name_kw (ld_glob I hg hm ?_ hdb)
  refine PySem.W.callWith_K (h₀:=X.base) I.ok.mod.kin hk (thn (ha pos pins s σ H _ I h) fun us s1 ⟨vs,H1,I1,r,q⟩ => ⟨I1.kIn,?_⟩) he hpl
  have hl:us.length = ps.length:=by rw [← r.length]; exact F.len _ _ _ _ q
  have hb1:=hb s1 us I1.kIn (by rw [List.append_nil]; exact hl)
  rw [List.append_nil] at hb1
  refine wpAny_call (codeAny_mono (F.run X.A X.stack s1 H1 ⟨us,[]⟩ us vs Q (Es σ) hr I1.env0 hb1 r q) fun rs s' hq => ?_)
  cases rs with
  | error e => exact hx pins σ H1 s1 e s' I1 hq
  | ok fl =>
    cases fl with
    | ret u => exact I1.after hq
    | next => exact False.elim hq
    | brk => exact False.elim hq
    | cont => exact False.elim hq
end
section
variable {X:Cx} {pins:List (Addr × Obj)}
theorem SP.untr {xe:Value → Shared → Prop} {D:Ends} {f:Flow} {s':Shared} (h:SP (X.tr pins xe) [] D f s'):SP X pins D f s':=by
  cases f with
  | next => obtain ⟨σ',H',I,q⟩:=h; exact ⟨σ',H',I.untr,q⟩
  | brk => obtain ⟨σ',H',I,q⟩:=h; exact ⟨σ',H',I.untr,q⟩
  | cont => obtain ⟨σ',H',I,q⟩:=h; exact ⟨σ',H',I.untr,q⟩
  | ret u => obtain ⟨v,σ',H',I,r,q⟩:=h; exact ⟨v,σ',H',I.untr,r,q⟩
theorem SP.unhnd {ea:Addr} {D:Ends} {f:Flow} {s':Shared} (ok:X.Ok) (h:SP (X.hnd pins ea) [] D f s'):SP X pins D f s':=by
  cases f with
  | next => obtain ⟨σ',H',I,q⟩:=h; exact ⟨σ',H',I.unhnd ok,q⟩
  | brk => obtain ⟨σ',H',I,q⟩:=h; exact ⟨σ',H',I.unhnd ok,q⟩
  | cont => obtain ⟨σ',H',I,q⟩:=h; exact ⟨σ',H',I.unhnd ok,q⟩
  | ret u => obtain ⟨v,σ',H',I,r,q⟩:=h; exact ⟨v,σ',H',I.unhnd ok,r,q⟩
end
end L2
set_option maxHeartbeats 4000000
namespace L2
open PySem PySem.Spec PyProof.Rows PySem.W
structure ExK (K:Frag) (D:Addr):Prop where
  cls:hasDictIn K D = true
  ga:findIn K (.ref D) "__getattribute__" = some (some (.builtin "BaseException.__getattribute__"))
  gh:findIn K (.ref D) "__getattr__" = some none
  ca:findIn K (.ref D) "__class__" = some (some (.builtin "object.__class__"))
  cg:specialIn K (.builtin "object.__class__") "__get__" = some (some (.builtin "getset_descriptor.__get__"))
  ct:takesIn K (.builtin "object.__class__") = some true
  mo:mroIn K D (.type "object") = some true
  mb:PySem.W.subIn K (.ref D) (.type "BaseException") = some true
section
variable {prog:Program} {w:World} {A:Around} {E:Value → Shared → Prop} {s:Shared} {K:Frag} {x D:Addr} {ox:Obj} {od:Option Obj}
theorem exc_check {M:Model} {nm:Value} {Q:Unit → Shared → Prop} (Z:ExK K D) (X:K.In s.heap) (I:InstAt s.heap x ox D od) (hq:Q () s):wpAny M A (checkBuiltinCall "BaseException.__getattribute__" ⟨[.ref x,nm],[]⟩) Q E s:=by
  have hk:builtinKind "BaseException.__getattribute__" = some .slot:=by decide +kernel
  have hs:splitId "BaseException.__getattribute__" = some ("BaseException", "__getattribute__"):=by decide +kernel
  have L0:=I.type (M:=M)
  have L1:=looks_subIn (M:=M) X Z.mb
  have ha:=F.args_bexc_ga (.ref x) nm
  simp only [checkBuiltinCall,hk,hs]
  refine wpAny_bind ((L0.andThen L1).at ?_)
  rw [if_neg (show ¬ ((!true) = true) by decide)]
  exact wpAny_of_eq ha hq
theorem exc_find {h:Heap} {M:Model} (Z:ExK K D) (X:K.In h) (I:InstAt h x ox D od):Looks M h (Builtin.ObjectAttr.find (.ref x) (.ref D) "__class__") (Builtin.ObjectAttr.Found.bind (.builtin "getset_descriptor.__get__") (.builtin "object.__class__")):=by
  refine looks_find X I ?_
  obtain ⟨cd,hc,_⟩:=any_some Z.cls
  unfold findObj
  rw [hc,Option.bind_some,Z.ca,Option.bind_some]
  simp [Z.cg,Z.ct]
theorem exc_class {Q:Option Value → Shared → Prop} (Z:ExK K D) (X:K.In s.heap) (I:InstAt s.heap x ox D od) (h:Q (some (.ref D)) { s with toks:=s.toks + 1 }):wpAny (model prog w) A (getAttr? (.ref x) "__class__") Q E s:=by
  obtain ⟨hh,g,d,t,os⟩:=s
  have L0:=I.type (M:=model prog w)
  have L1:=looks_findIn (M:=model prog w) X Z.ga
  have L2:=looks_findIn (M:=model prog w) X Z.gh
  have L3:=exc_find (M:=model prog w) Z X I
  unfold getAttr? getAttrBy? getAttrBy
  refine wpAny_bind (wpAny_mkText (wpAny_bind (wpAny_attempt (wpAny_holding (wpAny_bind (L0.at (wpAny_bind (L1.at ?_))))))))
  have ne:(Value.builtin "BaseException.__getattribute__" == Value.builtin "object.__getattribute__") = false:=by decide +kernel
  have fb:=F.excAttr_ValueError.ga.bind (.ref x)
  dsimp only
  rw [ne,Bool.and_false,if_neg Bool.false_ne_true]
  unfold getAttrByItsOwn hookBefore
  rw [if_pos (show onTheHeap (Value.ref D) = true from rfl)]
  refine wpAny_bind (L2.at (wpAny_bind (wpAny_attempt (wpAny_holding ?_))))
  unfold callGetattribute boundAndCalled
  rw [if_neg (show ¬ ((false && onTheHeap (Value.builtin "BaseException.__getattribute__")) = true) by decide)]
  refine wpAny_bind (wpAny_of_eq fb ?_)
  refine wpAny_call (codeAny_call_builtin F.excAttr_ValueError.ga.plain F.entry_bexc_ga (exc_check Z X I ?_))
  unfold Builtin.«object.__getattribute__»
  refine wpAny_bind (wpAny_pure (wpAny_bind (wpAny_pure (wpAny_bind (L0.at (wpAny_bind (L3.at ?_)))))))
  show wpAny _ _ (Builtin.ObjectAttr.bindTo _ _ _ _) _ _ _
  unfold Builtin.ObjectAttr.bindTo
  refine wpAny_bind (wpAny_holding (wpAny_call (class_get (ox:=ox) (od:=od) X I Z.mo ?_)))
  refine wpAny_pure ?_
  exact handed_on rfl (wpAny_pure h)
theorem kitx_exc (Z:ExK K D):KitX K (.ref x) (.ref D) (fun h => ∃ ox od,InstAt h x ox D od) where
  ty:=fun _ _ _ ⟨_,_,I⟩ => I.type
  it:=fun M h X _ => by
    have q:(clsIn K D).isSome = true:=by
      obtain ⟨cd,hc,_⟩:=any_some Z.cls
      rw [hc]; rfl
    unfold clsIn at q
    split at q
    · rename_i ho
      intro A1 Q1 E1 s1 k1 q1
      unfold isType loadHead
      exact wpAny_bind (wpAny_loadPart (k1 _ _ (X _ _ ho)) (wpAny_pure q1))
    · cases q
  ne:=fun h tp dd its n sl X htp => by
    have q:(clsIn K D).isSome = true:=by
      obtain ⟨cd,hc,_⟩:=any_some Z.cls
      rw [hc]; rfl
    unfold clsIn at q
    split at q
    · rename_i ho
      refine Bool.eq_false_iff.mpr fun z => ?_
      obtain rfl:D = tp:=Value.ref.inj (beq_iff_eq.mp z)
      have z:=(X _ _ ho).symm.trans htp
      cases z
    · cases q
  ca:=fun X ⟨_,_,I⟩ k => exc_class Z X I k
end
def clsV:V → Option Value
  | .ref C => some (.ref C)
  | .ty T => some (.type T)
  | _ => none
def clsVs:List V → Option (List Value)
  | [] => some []
  | v :: r => (clsV v).bind fun c => (clsVs r).map (c :: ·)
theorem clsV_rel {v:V} {c u:Value} (h:clsV v = some c) (r:RelV v u):u = c:=by
  cases v with
  | ref C => cases h; exact r
  | ty T => cases h; exact r
  | _ => cases h
theorem clsVs_rel:∀ {vs:List V} {cs us:List Value},clsVs vs = some cs → Vals vs us → us = cs
  | [],_,_,h,.nil => by cases h; rfl
  | v :: vs,_,_,h,.cons r rr => by
    unfold clsVs at h
    obtain ⟨c,h1,h2⟩:=Option.bind_eq_some_iff.mp h
    obtain ⟨cs,h3,h4⟩:=Option.map_eq_some_iff.mp h2
    subst h4
    rw [clsV_rel h1 r,clsVs_rel h3 rr]
def mIsx (K:PySem.W.Frag):List V → Hp → VK → Prop:=fun xs H Q => ∃ ea D d c b,xs = [.ref ea,c] ∧ H ea = some (excO ea (.ref D) d) ∧ (∀ dx,d = some dx → ∃ o,H dx = some o) ∧ ExK K D ∧
  ((∃ cv,clsV c = some cv ∧ kitOne K (.ref D) cv = some b) ∨ (∃ tp cs cv,c = .ref tp ∧ H tp = some (.tup cs) ∧ clsVs cs = some cv ∧ kitAny K (.ref D) cv = some b)) ∧ Q (.bl b) H
theorem exc_inst {P:Program} {w:World} {H:Hp} {h:Heap} {ea D:Addr} {d:Option Addr} (hok:HOk P w H h) (e:H ea = some (excO ea (.ref D) d)) (hd:∀ dx,d = some dx → ∃ o,H dx = some o):∃ ox od,InstAt h ea ox D od:=by
  obtain ⟨⟨oe,vs,g,hc,hdi,hda⟩,_⟩:=hok ea _ e
  have no:notCls oe = true:=by
    obtain ⟨c,di,da,sl⟩:=oe
    cases hda
    rfl
  cases d with
  | none => exact ⟨oe,none,g,hc,no,by rw [hdi]; trivial⟩
  | some dx =>
    obtain ⟨o,z⟩:=hd dx rfl
    obtain ⟨ob,g2⟩:=(hok dx o z).get
    exact ⟨oe,some ob,g,hc,no,by rw [hdi]; exact g2⟩
theorem m_isx {X:Cx}:CallR X (.builtin "isinstance") (mIsx X.K):=by
  intro pins s σ H xs us Q I r h
  obtain ⟨ea,D,d,c,b,rfl,he,hd,Z,hc,q⟩:=h
  obtain ⟨u,u2,rfl,ru,rc⟩:=vals2 r
  cases ru
  have hI:=exc_inst I.hok he hd
  rcases hc with ⟨cv,h1,h2⟩ | ⟨tp,cs,cv,rfl,h1,h2,h3⟩
  · rw [clsV_rel h1 rc]
    exact kia_one (kitx_exc Z) I.kIn hI h2 (fun z => nomatch z) fun tk => ⟨.bl b,H,I.tok _,rfl,q⟩
  · cases rc
    obtain ⟨_,its,rv,o,g,hcl,n,hda⟩:=I.hok tp _ h1
    obtain rfl:=clsVs_rel h2 rv
    obtain ⟨oc,od,oda,osl⟩:=o
    obtain rfl:oc = .type "tuple" := hcl
    obtain rfl:oda = .seq its.toArray n:=hda
    exact kia_tup (kitx_exc Z) I.kIn hI g h3 (fun z => nomatch z) fun tk => ⟨.bl b,H,I.tok _,rfl,q⟩
theorem m_isxK {X:Cx} {K:PySem.W.Frag} (h:X.K = K):CallR X (.builtin "isinstance") (mIsx K):=by
  subst h
  exact m_isx
section
variable {K:PySem.W.Frag} {H:Hp} {Q:VK} {ea D tp:Addr} {c:V} {cs:List V} {cv:Value} {cvs:List Value} {b:Bool}
theorem s_isx1 (e:H ea = some (excO ea (.ref D) none)) (Z:ExK K D) (h1:clsV c = some cv) (h2:kitOne K (.ref D) cv = some b) (h:Q (.bl b) H):mIsx K [.ref ea,c] H Q :=
  ⟨ea,D,none,c,b,rfl,e,(fun _ z => nomatch z),Z,.inl ⟨cv,h1,h2⟩,h⟩
theorem s_raise {C:Addr} {E:XK} {ta:TA} {D:Ends} {σ:St} (h:ta σ H fun vs H1 => vs.length ≤ sizeLine ∧ E (.ref C) none H1):tRaise C E ta D σ H:=h
theorem s_callS {sp:Sp} {Es:St → XK} {t:TA} {σ:St} (h:t σ H fun vs H1 => sp vs H1 Q (Es σ)):tCallS sp Es t σ H Q:=h
end
def CalX (P:Program) (w:World) (K:PySem.W.Frag) (mg:Str → Option Value) (base:Heap) (k:Nat) (x:Str) (ps:List Str) (sp:Sp):Prop :=
  ∃ (f:Addr) (fd:FuncData),FnOk P w K mg base (CXr P w) k f fd ps sp ∧ mg x = some (.ref f) ∧ PySem.W.keepIn K (.ref f) = true ∧ Binds K fd ps []
section
variable {X:Cx} {k k':Nat} {ps:List Str} {sp:Sp} {x:Str} {p pos:Pos} {e:Expr} {es:List Expr} {t:TA} {E:XK} {Es:St → XK}
theorem pe_calX (c:CalX X.prog X.w X.K X.mg X.base k x ps sp) (hx:Passes (CXr X.prog X.w) X E) (hr:Room k' X.A) (hk:k ≤ k') (hg:Gl X x)
    (ha:PA X (e :: es) t) (hdb:(x == ("__debug__" : Str)) = false:=by decide) (he:starEach (e :: es) X.env = (false,eval e X.env) :: starEach es X.env:=by rfl) (hpl:(backTo pos (starEach es X.env)).any (·.1) = false:=by rfl) :
    PE X (.Call (.Name x p) (e :: es) [] pos) (tCall sp [] E t):=by
  obtain ⟨f,fd,F,hm,hk',hb⟩:=c
  exact pe_call F (hr.mono hk) hg hm hk' hb .nil hx ha hdb he hpl
theorem pe_calS (c:CalX X.prog X.w X.K X.mg X.base k x ps sp) (hx:PassS (CXr X.prog X.w) X Es) (hr:Room k' X.A) (hk:k ≤ k') (hg:Gl X x)
    (ha:PA X (e :: es) t) (hdb:(x == ("__debug__" : Str)) = false:=by decide) (he:starEach (e :: es) X.env = (false,eval e X.env) :: starEach es X.env:=by rfl) (hpl:(backTo pos (starEach es X.env)).any (·.1) = false:=by rfl) :
    PE X (.Call (.Name x p) (e :: es) [] pos) (tCallS sp Es t):=by
  obtain ⟨f,fd,F,hm,hk',hb⟩:=c
  exact pe_callS F (hr.mono hk) hg hm hk' hb hx ha hdb he hpl
theorem PS.nox {st:Stmt} {t:TS} (h:PS X.nox st t):PS X st t:=fun pins s σ H D I hw =>
  wpAny_mono (h pins s σ H D (I.wish _) hw) (fun _ _ q => q.unwish) fun _ _ z => False.elim z
end
section
variable {P:Program} {w:World} {K:PySem.W.Frag} {mg:Str → Option Value} {base:Heap}
theorem Fun.okX {x qual:Str} {st:Stmt} {f:Addr} {fd:FuncData} {N ps:List Str} {k:Nat} {sp:Sp} (F:Fun K x qual st f fd) (S:FnScope N ps (defScope st)) (len:∀ vs H Q E,sp vs H Q E → vs.length = ps.length)
    (hbody:∀ (cdv:Value) (A:Around) (outer:List Env) (s:Shared) (H:Hp) (vs:List V) (Q:VK) (E:XK),Room k (A.deeper (envOfC qual (defScope st) s.heap.objs.size f cdv)) → sp vs H Q E →
      ∃ t,PSs (cxOf (CXr P w) P w K mg base N qual (defScope st) f cdv A outer s H E) (defBody st) t ∧ t { nx:=fun _ H' => Q .non H',rt:=Q } (start N vs) H):FnOk P w K mg base (CXr P w) (k + 1) f fd ps sp:=by
  obtain ⟨oc,od,kV,doc,pm,an,cdv,ct,osl,rfl,lk,hcd⟩:=F.ex
  exact fn_of lk hcd S len fun A outer s H vs Q E hr hsp => hbody cdv A outer s H vs Q E hr hsp
end
theorem pe_gcls {X:Cx} {x:Str} {C:Addr} {pos:Pos} (hg:Gl X x) (h:X.mg x = some (.ref C)) (hd:(x == ("__debug__" : Str)) = false:=by decide):PE X (.Name x pos) (tC (.ref C)):=pe_glob hg h rfl hd
theorem bt_ValueError:bootBuiltins "ValueError" = some (.type "ValueError"):=by decide +kernel
end L2
set_option maxHeartbeats 4000000
namespace L2
open PySem PySem.Spec PyProof.Rows
section
variable {X:Cx} {l1 l2:Expr} {ta:TA} {elts:List Expr} {x1:Nat} {tp p pos:Pos}
end
section
variable {K:PySem.W.Frag} {a b:Addr} {xs ys:List V} {g:TG} {tb:TS} {D:Ends} {σ:St} {H:Hp}
end
end L2
set_option maxHeartbeats 4000000
namespace L2
open PySem PySem.Spec PyProof.Rows
section
variable {X:Cx} {o e:Expr} {es:List Expr} {to:TE} {t:TA} {name:Str} {apos cpos:Pos} {T id:String} {r:V → List V → Hp → VK → Prop}
end
section
variable {σ:St} {H:Hp} {Q:VK} {l b:Addr} {xs zs:List V} {y:V} {i:Int} {k:Nat} {to:TE} {T:String} {r:V → List V → Hp → VK → Prop}
end
end L2
set_option maxHeartbeats 4000000
namespace L2
open PySem PySem.Spec PyProof.Rows
theorem s_seqJ {t u:TS} {D:Ends} {σ:St} {H:Hp} (Pj:St → Hp → Prop) (hj:∀ σ' H',Pj σ' H' → u D σ' H') (h:∀ N:St → Hp → Prop,(∀ σ' H',Pj σ' H' → N σ' H') → t { D with nx:=N } σ H):tSeq t u D σ H:=h (u D) hj
theorem none_of {H H':Hp} {r:Addr} (s:Same H H') (h:H' r = none):H r = none:=by
  cases e:H r with
  | none => rfl
  | some o => rw [s _ _ e] at h; cases h
theorem same_put {H H':Hp} {p:Addr} {o:HO} (hp:H p = none) (s:Same H H'):Same H (upd H' p o):=fun b u q => by rw [upd_ne (ne_of_none q hp)]; exact s b u q
section
variable {g:TG} {tests:TT} {te:TE} {σ0:St} {Q:VK} {H1:Hp}
theorem cw_gen {J:It} {n:Nat} (R:Addr → Nat → List V → Hp → Prop) (hl:n < sizeLine) (h0:∀ D,H1 D = none → R D 0 [] (upd H1 D (.lst [])))
    (hgo:∀ D i ys Hc,H1 D = none → R D i ys Hc → i < n → J.go i Hc) (hst:∀ D ys Hc,H1 D = none → R D n ys Hc → J.stop n Hc)
    (hs:∀ D i ys Hc x H' (A:VK) (B:Hp → Prop),H1 D = none → i < n → R D i ys Hc → Hc D = some (.lst ys) → J.yld i Hc x H' →
      (∀ y H4,H4 D = some (.lst ys) → R D (i + 1) (ys ++ [y]) (upd H4 D (.lst (ys ++ [y]))) → A y H4) → (∀ H3,H3 D = some (.lst ys) → R D (i + 1) ys H3 → B H3) →
      g x σ0 H' fun σ2 H2 => Wk σ0 σ2 ∧ tests σ2 H2 fun b H3 => if b = true then te σ2 H3 A else B H3)
    (fin:∀ D ys Hc,H1 D = none → R D n ys Hc → Hc D = some (.lst ys) → ys.length ≤ n → Q (.ref D) Hc):tCompW g tests te σ0 Q J H1:=by
  intro D hD
  refine ⟨fun i m Hc => m = n - i ∧ i ≤ n ∧ ∃ ys,ys.length ≤ i ∧ Hc D = some (.lst ys) ∧ R D i ys Hc,⟨n,by simp,Nat.zero_le _,[],Nat.le_refl _,upd_same,h0 D hD⟩,?_⟩
  rintro i m Hc ⟨rfl,hi,ys,hy,hDc,r⟩
  by_cases hlt:i < n
  · refine .inr ⟨hgo D i ys Hc hD r hlt,fun x H' y => hs D i ys Hc x H' _ _ hD hlt r hDc y (fun z H4 e r4 => ?_) (fun H3 e r3 => ?_)⟩
    · exact ⟨ys,e,by omega,n - (i + 1),by omega,rfl,hlt,ys ++ [z],by rw [List.length_append]; show ys.length + 1 ≤ _; omega,upd_same,r4⟩
    · exact ⟨n - (i + 1),by omega,rfl,hlt,ys,by omega,e,r3⟩
  · have e:i = n:=by omega
    subst e
    exact .inl ⟨hst D ys Hc hD r,fin D ys Hc hD r hDc hy⟩
def Tups (H1 Hc:Hp) (ps:List Addr) (fs:List (List V)):Prop:=ps.length = fs.length ∧ ∀ (j:Nat) p t,ps[j]? = some p → fs[j]? = some t → H1 p = none ∧ Hc p = some (.tup t)
theorem Tups.keep {H1 Hc Hd:Hp} {ps:List Addr} {fs:List (List V)} (t:Tups H1 Hc ps fs) (s:Same Hc Hd):Tups H1 Hd ps fs:=⟨t.1,fun j p u hp hu => ⟨(t.2 j p u hp hu).1,s _ _ (t.2 j p u hp hu).2⟩⟩
theorem Tups.put {H1 Hc:Hp} {ps:List Addr} {fs:List (List V)} {D:Addr} {ys zs:List V} (t:Tups H1 Hc ps fs) (h:Hc D = some (.lst ys)):Tups H1 (upd Hc D (.lst zs)) ps fs:=⟨t.1,fun j p u hp hu => by
  obtain ⟨a,b⟩:=t.2 j p u hp hu
  refine ⟨a,?_⟩
  rw [upd_ne fun z => by rw [z,h] at b; cases b]
  exact b⟩
theorem Tups.app {H1 Hc:Hp} {ps qs:List Addr} {fs gs:List (List V)} (t:Tups H1 Hc ps fs) (u:Tups H1 Hc qs gs):Tups H1 Hc (ps ++ qs) (fs ++ gs):=by
  refine ⟨by rw [List.length_append,List.length_append,t.1,u.1],fun j p v hp hv => ?_⟩
  by_cases h:j < ps.length
  · rw [List.getElem?_append_left h] at hp
    rw [List.getElem?_append_left (by rw [← t.1]; exact h)] at hv
    exact t.2 j p v hp hv
  · rw [List.getElem?_append_right (by omega)] at hp
    rw [List.getElem?_append_right (by rw [← t.1]; omega),← t.1] at hv
    exact u.2 _ p v hp hv
theorem Tups.nil {H1 Hc:Hp}:Tups H1 Hc [] []:=⟨rfl,fun j p u hp => by cases hp⟩
theorem Tups.one {H1 Hc:Hp} {p:Addr} {t:List V} (a:H1 p = none) (b:Hc p = some (.tup t)):Tups H1 Hc [p] [t]:=⟨rfl,fun j q u hq hu => by
  cases j with
  | zero => cases hq; cases hu; exact ⟨a,b⟩
  | succ j => cases hq⟩
theorem cw_rangeT {n:Nat} {lo:Int} (f:Nat → List V) (hl:n < sizeLine)
    (hs:∀ (i:Nat) Hc (A:VK) (B:Hp → Prop),i < n → Same H1 Hc → (∀ p Hd,Hc p = none → Same Hc Hd → Hd p = some (.tup (f i)) → A (.ref p) Hd) →
      g (.int (lo + i)) σ0 Hc fun σ2 H2 => Wk σ0 σ2 ∧ tests σ2 H2 fun b H3 => if b = true then te σ2 H3 A else B H3)
    (fin:∀ D Hd ps,H1 D = none → Same H1 Hd → Hd D = some (.lst (ps.map V.ref)) → ps.length = n → Tups H1 Hd ps ((List.range n).map f) → Q (.ref D) Hd):tCompW g tests te σ0 Q (Itr lo n) H1:=by
  refine cw_gen (n:=n) (fun D i ys Hc => Same H1 Hc ∧ ∃ ps,ys = ps.map V.ref ∧ ps.length = i ∧ Tups H1 Hc ps ((List.range i).map f)) hl (fun D hD => ⟨same_upd hD _,[],rfl,rfl,.nil⟩) (fun D i ys Hc _ r h => h) (fun D ys Hc _ r => Nat.le_refl n) ?_ ?_
  · rintro D i ys Hc x H' A B hD hi ⟨sm,ps,rfl,hn,tp⟩ hDc ⟨rfl,rfl⟩ ha hb
    refine hs i H' A B hi sm (fun p Hd hp sd hd => ?_)
    refine ha _ _ (sd _ _ hDc) ⟨same_put hD (sm.trans sd),ps ++ [p],by rw [List.map_append]; rfl,by rw [List.length_append,hn]; rfl,?_⟩
    rw [List.range_succ,List.map_append]
    exact ((tp.keep sd).app (.one (none_of sm hp) hd)).put (sd _ _ hDc)
  · rintro D ys Hc hD ⟨sm,ps,rfl,hn,tp⟩ hDc _
    exact fin D Hc ps hD sm hDc hn tp
end
end L2
set_option maxHeartbeats 4000000
namespace L2
open PySem PySem.Spec PyProof.Rows
section
variable {X:Cx} {tg a b c:Expr} {p pos:Pos}
end
section
variable {K:PySem.W.Frag} {c:Addr} {xs:List V} {lo st:Int} {n:Nat} {g:TG} {tb:TS} {D:Ends} {σ:St} {H:Hp} {tA:TA} {R:It → Hp → Prop} {i j k:Int}
end
def Alk (H:Hp):Nat → V → V → Prop
  | 0,x,y => x = y ∧ flatV x = true
  | n + 1,x,y => (x = y ∧ flatV x = true) ∨ ∃ p q xs ys,x = .ref p ∧ y = .ref q ∧ ((rdL H p = some xs ∧ rdL H q = some ys) ∨ (tupL H p = some xs ∧ tupL H q = some ys)) ∧ xs.length = ys.length ∧ ∀ (j:Nat) x' y',xs[j]? = some x' → ys[j]? = some y' → Alk H n x' y'
theorem Alk.flat {H:Hp} {n:Nat} {x:V} (h:flatV x = true):Alk H n x x:=by
  cases n with
  | zero => exact ⟨rfl,h⟩
  | succ n => exact .inl ⟨rfl,h⟩
theorem Alk.lst {H:Hp} {n:Nat} {p q:Addr} {xs ys:List V} (hp:rdL H p = some xs) (hq:rdL H q = some ys) (hl:xs.length = ys.length) (h:∀ (j:Nat) x y,xs[j]? = some x → ys[j]? = some y → Alk H n x y):Alk H (n + 1) (.ref p) (.ref q):=.inr ⟨p,q,xs,ys,rfl,rfl,.inl ⟨hp,hq⟩,hl,h⟩
theorem Alk.tup {H:Hp} {n:Nat} {p q:Addr} {xs ys:List V} (hp:tupL H p = some xs) (hq:tupL H q = some ys) (hl:xs.length = ys.length) (h:∀ (j:Nat) x y,xs[j]? = some x → ys[j]? = some y → Alk H n x y):Alk H (n + 1) (.ref p) (.ref q):=.inr ⟨p,q,xs,ys,rfl,rfl,.inr ⟨hp,hq⟩,hl,h⟩
theorem Alk.flats {H:Hp} {n:Nat} {xs:List V} (f:xs.all flatV = true):∀ (j:Nat) x y,xs[j]? = some x → xs[j]? = some y → Alk H n x y:=fun j x y hx hy => by
  rw [hx] at hy
  cases hy
  exact .flat (List.all_eq_true.mp f x (List.mem_of_getElem? hx))
theorem Alk.tups {H H1 H2:Hp} {n:Nat} {ps qs:List Addr} {fs:List (List V)} (tp:Tups H1 H ps fs) (tq:Tups H2 H qs fs) (f:∀ t ∈ fs,t.all flatV = true):∀ (j:Nat) x y,(ps.map V.ref)[j]? = some x → (qs.map V.ref)[j]? = some y → Alk H (n + 1) x y:=fun j x y hx hy => by
  rw [List.getElem?_map] at hx hy
  cases ep:ps[j]? with
  | none => rw [ep] at hx; cases hx
  | some p =>
    cases eq:qs[j]? with
    | none => rw [eq] at hy; cases hy
    | some q =>
      rw [ep] at hx
      rw [eq] at hy
      cases hx
      cases hy
      have hj:j < fs.length:=by rw [← tp.1]; exact (List.getElem?_eq_some_iff.mp ep).1
      have a:=(tp.2 j p fs[j] ep (List.getElem?_eq_getElem hj)).2
      have b:=(tq.2 j q fs[j] eq (List.getElem?_eq_getElem hj)).2
      exact .tup (tupL_of a) (tupL_of b) rfl (.flats (f _ (List.getElem_mem _)))
theorem eqV_self {x:V} (h:flatV x = true):eqV x x = true:=by
  cases x <;> first | rfl | (simp [eqV]; done) | (cases h; done)
theorem all_true {l:List Nat}:(l.all fun _ => true) = true:=by
  induction l with
  | nil => rfl
  | cons a r ih => rw [List.all_cons,ih]; rfl
theorem alk_eq {X:Cx} {pins:List (Addr × Obj)} {σ:St} {H:Hp} {s:Shared} (I:Inv X pins σ H s):∀ (n:Nat) (A:Around) (x y:V) (u v:Value),Alk H n x y → RelV x u → RelV y v → A.units + n < cLine → SeqAt.EqAt A s u v true:=by
  intro n
  induction n with
  | zero =>
    intro A x y u v h ru rv hu
    obtain ⟨rfl,f⟩:=h
    have:=eqAt_V (A:=A) (s:=s) ru rv f f
    rw [eqV_self f] at this
    exact this
  | succ n ih =>
    intro A x y u v h ru rv hu
    rcases h with ⟨rfl,f⟩ | ⟨p,q,xs,ys,rfl,rfl,hpq,hl,h⟩
    · have:=eqAt_V (A:=A) (s:=s) ru rv f f
      rw [eqV_self f] at this
      exact this
    · cases ru
      cases rv
      by_cases e:p = q
      · subst e
        exact SeqAt.EqAt.same _
      refine SeqAt.EqAt.of_refs e ?_
      have hu1:A.in1.units + n < cLine:=by show A.units + 1 + n < cLine; omega
      rcases hpq with ⟨hp,hq⟩ | ⟨hp,hq⟩
      · obtain ⟨its,r1,l1,_⟩:=I.list (rdL_sq hp)
        obtain ⟨its2,r2,l2,_⟩:=I.list (rdL_sq hq)
        have e1:=r1.length
        have e2:=r2.length
        have:=SeqAt.RcAt.lists (A:=A) (s:=s) (e:=fun _ => true) l1.isList l2.isList (by simp only [List.size_toArray]; omega) (by omega) (fun j h1 h2 => by
          have h1':j < its.length:=by simpa using h1
          have h2':j < its2.length:=by simpa using h2
          obtain ⟨u',hu',ru'⟩:=r1.get (List.getElem?_eq_getElem (show j < xs.length by omega))
          obtain ⟨v',hv',rv'⟩:=r2.get (List.getElem?_eq_getElem (show j < ys.length by omega))
          rw [List.getElem?_eq_getElem h1'] at hu'
          rw [List.getElem?_eq_getElem h2'] at hv'
          cases hu'
          cases hv'
          simpa using ih A.in1 _ _ _ _ (h j _ _ (List.getElem?_eq_getElem _) (List.getElem?_eq_getElem _)) ru' rv' hu1)
        rw [all_true] at this
        exact this
      · obtain ⟨its,r1,l1,_⟩:=I.tuple (SqT.of (K:=X.K) (of_tupL hp))
        obtain ⟨its2,r2,l2,_⟩:=I.tuple (SqT.of (K:=X.K) (of_tupL hq))
        have e1:=r1.length
        have e2:=r2.length
        have:=SeqAt.RcAt.tuples (A:=A) (s:=s) (e:=fun _ => true) (show s.heap.IsTuple p its.toArray from l1) (show s.heap.IsTuple q its2.toArray from l2) (by omega) (fun j h1 h2 => by
          have h1':j < its.length:=by simpa using h1
          have h2':j < its2.length:=by simpa using h2
          obtain ⟨u',hu',ru'⟩:=r1.get (List.getElem?_eq_getElem (show j < xs.length by omega))
          obtain ⟨v',hv',rv'⟩:=r2.get (List.getElem?_eq_getElem (show j < ys.length by omega))
          rw [List.getElem?_eq_getElem h1'] at hu'
          rw [List.getElem?_eq_getElem h2'] at hv'
          cases hu'
          cases hv'
          simpa using ih A.in1 _ _ _ _ (h j _ _ (List.getElem?_eq_getElem _) (List.getElem?_eq_getElem _)) ru' rv' hu1)
        rw [all_true,Bool.true_and,List.size_toArray,List.size_toArray,show (its.length == its2.length) = true from beq_iff_eq.mpr (by omega)] at this
        exact this
theorem alk_rc {X:Cx} {pins:List (Addr × Obj)} {σ:St} {H:Hp} {s:Shared} (I:Inv X pins σ H s) {n:Nat} {A:Around} {p q:Addr} (h:Alk H (n + 1) (.ref p) (.ref q)) (hu:A.units + (n + 1) < cLine) :
    SeqAt.RcAt A s (.ref p) (.ref q) true ∧ SeqAt.RcNeAt A s (.ref p) (.ref q) false:=by
  rcases h with ⟨_,f⟩ | ⟨p',q',xs,ys,e1,e2,hpq,hl,h⟩
  · cases f
  · cases e1
    cases e2
    have hu1:A.in1.units + n < cLine:=by show A.units + 1 + n < cLine; omega
    rcases hpq with ⟨hp,hq⟩ | ⟨hp,hq⟩
    · obtain ⟨its,r1,l1,_⟩:=I.list (rdL_sq hp)
      obtain ⟨its2,r2,l2,_⟩:=I.list (rdL_sq hq)
      have e1:=r1.length
      have e2:=r2.length
      have he:∀ j (h1:j < its.toArray.size) (h2:j < its2.toArray.size),SeqAt.EqAt A.in1 s its.toArray[j] its2.toArray[j] ((fun _ => true) j):=fun j h1 h2 => by
        have h1':j < its.length:=by simpa using h1
        have h2':j < its2.length:=by simpa using h2
        obtain ⟨u',hu',ru'⟩:=r1.get (List.getElem?_eq_getElem (show j < xs.length by omega))
        obtain ⟨v',hv',rv'⟩:=r2.get (List.getElem?_eq_getElem (show j < ys.length by omega))
        rw [List.getElem?_eq_getElem h1'] at hu'
        rw [List.getElem?_eq_getElem h2'] at hv'
        cases hu'
        cases hv'
        simpa using alk_eq I n A.in1 _ _ _ _ (h j _ _ (List.getElem?_eq_getElem _) (List.getElem?_eq_getElem _)) ru' rv' hu1
      have a:=SeqAt.RcAt.lists (A:=A) (s:=s) (e:=fun _ => true) l1.isList l2.isList (by simp only [List.size_toArray]; omega) (by omega) he
      have b:=SeqAt.RcNeAt.lists (A:=A) (s:=s) (e:=fun _ => true) l1.isList l2.isList (by simp only [List.size_toArray]; omega) (by omega) he
      rw [all_true] at a b
      exact ⟨a,b⟩
    · obtain ⟨its,r1,l1,_⟩:=I.tuple (SqT.of (K:=X.K) (of_tupL hp))
      obtain ⟨its2,r2,l2,_⟩:=I.tuple (SqT.of (K:=X.K) (of_tupL hq))
      have e1:=r1.length
      have e2:=r2.length
      have he:∀ j (h1:j < its.toArray.size) (h2:j < its2.toArray.size),SeqAt.EqAt A.in1 s its.toArray[j] its2.toArray[j] ((fun _ => true) j):=fun j h1 h2 => by
        have h1':j < its.length:=by simpa using h1
        have h2':j < its2.length:=by simpa using h2
        obtain ⟨u',hu',ru'⟩:=r1.get (List.getElem?_eq_getElem (show j < xs.length by omega))
        obtain ⟨v',hv',rv'⟩:=r2.get (List.getElem?_eq_getElem (show j < ys.length by omega))
        rw [List.getElem?_eq_getElem h1'] at hu'
        rw [List.getElem?_eq_getElem h2'] at hv'
        cases hu'
        cases hv'
        simpa using alk_eq I n A.in1 _ _ _ _ (h j _ _ (List.getElem?_eq_getElem _) (List.getElem?_eq_getElem _)) ru' rv' hu1
      have a:=SeqAt.RcAt.tuples (A:=A) (s:=s) (e:=fun _ => true) (show s.heap.IsTuple p its.toArray from l1) (show s.heap.IsTuple q its2.toArray from l2) (by omega) he
      have b:=SeqAt.RcNeAt.tuples (A:=A) (s:=s) (e:=fun _ => true) (show s.heap.IsTuple p its.toArray from l1) (show s.heap.IsTuple q its2.toArray from l2) (by omega) he
      rw [all_true,Bool.true_and,List.size_toArray,List.size_toArray,show (its.length == its2.length) = true from beq_iff_eq.mpr (by omega)] at a b
      exact ⟨a,b⟩
section
variable {X:Cx}
def mEqA (neg:Bool):R2:=fun x y H Q => ∃ n p q,n ≤ 50 ∧ x = .ref p ∧ y = .ref q ∧ Alk H (n + 1) x y ∧ Q (.bl (!neg)) H
theorem m_eqA (hu:X.A.units + 64 < cLine):OpR X (compareOp .Eq) (mEqA false):=by
  intro pins s σ H x y v u Q I rx ry h
  obtain ⟨n,p,q,hn,rfl,rfl,al,k⟩:=h
  cases rx
  cases ry
  exact (alk_rc I al (by omega)).1 X.prog X.w _ _ ⟨.bl true,H,I,rfl,k⟩
theorem m_neA (hu:X.A.units + 64 < cLine):OpR X (compareOp .NotEq) (mEqA true):=by
  intro pins s σ H x y v u Q I rx ry h
  obtain ⟨n,p,q,hn,rfl,rfl,al,k⟩:=h
  cases rx
  cases ry
  exact (alk_rc I al (by omega)).2 X.prog X.w _ _ ⟨.bl false,H,I,rfl,k⟩
theorem s_alk {neg:Bool} {p q:Addr} {H:Hp} {Q:VK} (n:Nat) (al:Alk H (n + 1) (.ref p) (.ref q)) (h:Q (.bl (!neg)) H) (hn:n ≤ 50:=by omega):mEqA neg (.ref p) (.ref q) H Q:=⟨n,p,q,hn,rfl,rfl,al,h⟩
end
def Lsts (H1 Hc:Hp) (ps:List Addr) (fs:List (List V)):Prop:=ps.length = fs.length ∧ ∀ (j:Nat) p t,ps[j]? = some p → fs[j]? = some t → H1 p = none ∧ Hc p = some (.lst t)
theorem Lsts.keep {H1 Hc Hd:Hp} {ps:List Addr} {fs:List (List V)} (t:Lsts H1 Hc ps fs) (s:Same Hc Hd):Lsts H1 Hd ps fs:=⟨t.1,fun j p u hp hu => ⟨(t.2 j p u hp hu).1,s _ _ (t.2 j p u hp hu).2⟩⟩
theorem Lsts.put {H1 Hc:Hp} {ps:List Addr} {fs:List (List V)} {D:Addr} {o:HO} (t:Lsts H1 Hc ps fs) (h:∀ p ∈ ps,p ≠ D):Lsts H1 (upd Hc D o) ps fs:=⟨t.1,fun j p u hp hu => by
  obtain ⟨a,b⟩:=t.2 j p u hp hu
  refine ⟨a,?_⟩
  rw [upd_ne (h p (List.mem_of_getElem? hp))]
  exact b⟩
theorem Lsts.snoc {H1 Hc:Hp} {ps:List Addr} {fs:List (List V)} {q:Addr} {g:List V} (t:Lsts H1 Hc ps fs) (a:H1 q = none) (b:Hc q = some (.lst g)):Lsts H1 Hc (ps ++ [q]) (fs ++ [g]):=by
  refine ⟨by rw [List.length_append,List.length_append,t.1]; rfl,fun j p v hp hv => ?_⟩
  by_cases h:j < ps.length
  · rw [List.getElem?_append_left h] at hp
    rw [List.getElem?_append_left (by rw [← t.1]; exact h)] at hv
    exact t.2 j p v hp hv
  · rw [List.getElem?_append_right (by omega)] at hp
    rw [List.getElem?_append_right (by rw [← t.1]; omega),← t.1] at hv
    cases e:j - ps.length with
    | zero => rw [e] at hp hv; cases hp; cases hv; exact ⟨a,b⟩
    | succ n => rw [e] at hp; cases hp
theorem Lsts.nil {H1 Hc:Hp}:Lsts H1 Hc [] []:=⟨rfl,fun j p u hp => by cases hp⟩
theorem Lsts.mem {H1 Hc:Hp} {ps:List Addr} {fs:List (List V)} (t:Lsts H1 Hc ps fs) {p:Addr} (hp:p ∈ ps):∃ g ∈ fs,H1 p = none ∧ Hc p = some (.lst g):=by
  obtain ⟨j,hj⟩:=List.mem_iff_getElem?.mp hp
  have hl:j < fs.length:=by rw [← t.1]; exact (List.getElem?_eq_some_iff.mp hj).1
  exact ⟨fs[j],List.getElem_mem _,t.2 j p _ hj (List.getElem?_eq_getElem hl)⟩
section
variable {X:Cx}
end
end L2
set_option maxHeartbeats 4000000
namespace L2
open PySem PySem.Spec PyProof.Rows
section
variable {κ:Type} [DecidableEq κ]
def valV (kvs:List (κ × V)) (k:κ):Option V:=(kvs.find? fun kv => decide (kv.1 = k)).map (·.2)
def putK (kvs:List (κ × V)) (k:κ) (v:V):List (κ × V) :=
  if (kvs.any fun kv => decide (kv.1 = k)) = true then kvs.map (fun kv => if kv.1 = k then (kv.1,v) else kv) else kvs ++ [(k,v)]
def dropK (kvs:List (κ × V)) (k:κ):List (κ × V):=kvs.filter fun kv => decide (kv.1 ≠ k)
theorem valV_pos {p:κ × V} {r:List (κ × V)} {k:κ} (e:p.1 = k):valV (p :: r) k = some p.2:=by simp [valV,List.find?_cons,e]
theorem valV_neg {p:κ × V} {r:List (κ × V)} {k:κ} (e:¬ p.1 = k):valV (p :: r) k = valV r k:=by simp [valV,List.find?_cons,e]
theorem valV_any (k:κ):∀ kvs:List (κ × V),(kvs.any fun kv => decide (kv.1 = k)) = (valV kvs k).isSome
  | [] => rfl
  | p :: r => by
    rw [List.any_cons]
    by_cases e:p.1 = k
    · simp only [valV_pos e,decide_eq_true e,Bool.true_or,Option.isSome_some]
    · rw [valV_neg e,decide_eq_false e,Bool.false_or]; exact valV_any k r
theorem RelO.isSome_eq {o:Option V} {u:Option Value} (r:RelO o u):o.isSome = u.isSome:=by
  cases o with
  | none => cases u with
    | none => rfl
    | some _ => exact (show False from r).elim
  | some _ => cases u with
    | none => exact (show False from r).elim
    | some _ => rfl
theorem RelO.getD {o:Option V} {u:Option Value} {d:V} {d':Value} (r:RelO o u) (rd:RelV d d'):RelV (o.getD d) (u.getD d'):=by
  cases o with
  | none => cases u with
    | none => exact rd
    | some _ => exact (show False from r).elim
  | some _ => cases u with
    | none => exact (show False from r).elim
    | some _ => exact r
theorem KV.val {kvs:List (κ × V)} {vs:List (κ × Value)} (r:KV kvs vs) (k:κ):RelO (valV kvs k) (valueAt vs k):=by
  unfold KV at r
  induction r with
  | nil => exact True.intro
  | @cons p q ps qs h t ih =>
    obtain ⟨h1,h2⟩:=h
    by_cases e:p.1 = k
    · have e':q.1 = k:=h1.symm.trans e
      have b:valueAt (q :: qs) k = some q.2:=by simp [valueAt,List.find?_cons,e']
      rw [valV_pos e,b]; exact h2
    · have e':¬ q.1 = k:=fun z => e (h1.trans z)
      have b:valueAt (q :: qs) k = valueAt qs k:=by simp [valueAt,List.find?_cons,e']
      rw [valV_neg e,b]; exact ih
theorem KV.any {kvs:List (κ × V)} {vs:List (κ × Value)} (r:KV kvs vs) (k:κ):(kvs.any fun kv => decide (kv.1 = k)) = vs.any fun kv => decide (kv.1 = k):=by
  unfold KV at r
  induction r with
  | nil => rfl
  | cons h t ih => rw [List.any_cons,List.any_cons,ih,h.1]
theorem KV.repl {kvs:List (κ × V)} {vs:List (κ × Value)} (r:KV kvs vs) (k:κ) {y:V} {u:Value} (ry:RelV y u) :
    KV (kvs.map fun kv => if kv.1 = k then (kv.1,y) else kv) (vs.map fun kv => if kv.1 = k then (kv.1,u) else kv):=by
  unfold KV at r ⊢
  induction r with
  | nil => exact .nil
  | @cons p q ps qs h t ih =>
    rw [List.map_cons,List.map_cons]
    refine .cons ?_ ih
    obtain ⟨h1,h2⟩:=h
    by_cases e:p.1 = k
    · rw [if_pos e,if_pos (h1.symm.trans e)]; exact ⟨h1,ry⟩
    · rw [if_neg e,if_neg (fun z => e (h1.trans z))]; exact ⟨h1,h2⟩
theorem KV.put {kvs:List (κ × V)} {vs:List (κ × Value)} (r:KV kvs vs) (k:κ) {y:V} {u:Value} (ry:RelV y u):KV (putK kvs k y) (stored vs k u):=by
  unfold putK stored
  rw [r.any k]
  by_cases e:(vs.any fun kv => decide (kv.1 = k)) = true
  · rw [if_pos e,if_pos e]; exact r.repl k ry
  · rw [if_neg e,if_neg e]; exact Paired.snoc r ⟨rfl,ry⟩
theorem KV.drop {kvs:List (κ × V)} {vs:List (κ × Value)} (r:KV kvs vs) (k:κ):KV (dropK kvs k) (without vs k):=by
  unfold KV at r ⊢
  unfold dropK without
  induction r with
  | nil => exact .nil
  | @cons p q ps qs h t ih =>
    obtain ⟨h1,h2⟩:=h
    rw [List.filter_cons,List.filter_cons]
    by_cases e:p.1 = k
    · have a:¬ decide (p.1 ≠ k) = true:=by simp [e]
      have b:¬ decide (q.1 ≠ k) = true:=by simp [h1.symm.trans e]
      rw [if_neg a,if_neg b]; exact ih
    · have e':¬ q.1 = k:=fun z => e (h1.trans z)
      have a:decide (p.1 ≠ k) = true:=by simp [e]
      have b:decide (q.1 ≠ k) = true:=by simp [e']
      rw [if_pos a,if_pos b]; exact .cons ⟨h1,h2⟩ ih
theorem KV.keys {kvs:List (κ × V)} {vs:List (κ × Value)} (r:KV kvs vs):kvs.map (·.1) = vs.map (·.1):=by
  unfold KV at r
  induction r with
  | nil => rfl
  | cons h t ih => rw [List.map_cons,List.map_cons,ih,h.1]
theorem KV.length {kvs:List (κ × V)} {vs:List (κ × Value)} (r:KV kvs vs):kvs.length = vs.length:=Paired.length r
end
abbrev KT (H:Hp):List (List Key × V) → List (List Key × Addr × Value) → Prop:=Paired fun p q => p.1 = q.1 ∧ H q.2.1 = some (.tup (p.1.map kV)) ∧ RelV p.2 q.2.2
theorem KT.val {H:Hp} {kvs:List (List Key × V)} {xs:List (List Key × Addr × Value)} (r:KT H kvs xs) (k:List Key):RelO (valV kvs k) ((atKey xs k).map (·.2)):=by
  induction r with
  | nil => exact True.intro
  | @cons p q ps qs h t ih =>
    obtain ⟨h1,_,h2⟩:=h
    by_cases e:p.1 = k
    · have e':q.1 = k:=h1.symm.trans e
      have b:atKey (q :: qs) k = some q.2:=by simp [atKey,List.find?_cons,e']
      rw [valV_pos e,b]; exact h2
    · have e':¬ q.1 = k:=fun z => e (h1.trans z)
      have b:atKey (q :: qs) k = atKey qs k:=by simp [atKey,List.find?_cons,e']
      rw [valV_neg e,b]; exact ih
theorem KT.repl {H:Hp} {kvs:List (List Key × V)} {xs:List (List Key × Addr × Value)} (r:KT H kvs xs) (k:List Key) {y:V} {u:Value} (ry:RelV y u) :
    KT H (kvs.map fun kv => if kv.1 = k then (kv.1,y) else kv) (xs.map (putAt k u)):=by
  induction r with
  | nil => exact .nil
  | @cons p q ps qs h t ih =>
    rw [List.map_cons,List.map_cons]
    refine .cons ?_ ih
    obtain ⟨h1,h2,h3⟩:=h
    unfold putAt
    by_cases e:p.1 = k
    · rw [if_pos e,if_pos (h1.symm.trans e)]; exact ⟨h1,h2,ry⟩
    · rw [if_neg e,if_neg (fun z => e (h1.trans z))]; exact ⟨h1,h2,h3⟩
theorem KT.put {H:Hp} {kvs:List (List Key × V)} {xs:List (List Key × Addr × Value)} (r:KT H kvs xs) (k:List Key) {b:Addr} {y:V} {u:Value} (hb:H b = some (.tup (k.map kV))) (ry:RelV y u) :
    KT H (putK kvs k y) (storedH xs k b u):=by
  have e:(kvs.any fun kv => decide (kv.1 = k)) = (atKey xs k).isSome:=by
    rw [valV_any,(r.val k).isSome_eq,Option.isSome_map]
  unfold putK storedH
  rw [e]
  by_cases q:(atKey xs k).isSome = true
  · rw [if_pos q,if_pos q]; exact r.repl k ry
  · rw [if_neg q,if_neg q]; exact Paired.snoc r ⟨rfl,hb,ry⟩
theorem KT.keeps {H H':Hp} {kvs:List (List Key × V)} {xs:List (List Key × Addr × Value)} (r:KT H kvs xs) (ht:∀ b ys,H b = some (.tup ys) → H' b = some (.tup ys)):KT H' kvs xs :=
  Paired.mapP r fun _ _ z => ⟨z.1,ht _ _ z.2.1,z.2.2⟩
section
variable {P:Program} {w:World} {H:Hp} {h:Heap} {a:Addr}
theorem rd_of {u:HO} (ok:HOk P w H h) (e:Rd H a u):ObjOk P w H h a u:=e.ok ok
theorem dk_rd {kvs:List (Key × V)} (ok:HOk P w H h) (e:Rd H a (.dK kvs)):kvs.length ≤ sizeLine ∧ (a == sysModules) = false ∧ ∃ vs,KV kvs vs ∧ h.DictOf (mixKind P w) a vs :=
  show ObjOk P w H h a (.dK kvs) from rd_of ok e
theorem dk_of {kvs:List (Key × V)} (ok:HOk P w H h) (e:H a = some (.dK kvs)):kvs.length ≤ sizeLine ∧ (a == sysModules) = false ∧ ∃ vs,KV kvs vs ∧ h.DictOf (mixKind P w) a vs:=dk_rd ok (.inl e)
end
def DGet (H:Hp) (a:Addr) (y:V) (r:Option V):Prop :=
  (∃ kvs k,Rd H a (.dK kvs) ∧ y = kV k ∧ r = valV kvs k) ∨ ∃ kvs k b,Rd H a (.dT kvs) ∧ y = .ref b ∧ H b = some (.tup (k.map kV)) ∧ r = valV kvs k
def DPut (H:Hp) (a:Addr) (y v:V) (H':Hp):Prop :=
  (∃ kvs k,H a = some (.dK kvs) ∧ y = kV k ∧ kvs.length < sizeLine ∧ H' = upd H a (.dK (putK kvs k v))) ∨
  ∃ kvs k b,H a = some (.dT kvs) ∧ y = .ref b ∧ H b = some (.tup (k.map kV)) ∧ kvs.length < sizeLine ∧ H' = upd H a (.dT (putK kvs k v))
theorem DGet.k {H:Hp} {a:Addr} {kvs:List (Key × V)} {k:Key} (e:H a = some (.dK kvs)):DGet H a (kV k) (valV kvs k):=.inl ⟨kvs,k,.inl e,rfl,rfl⟩
theorem DGet.t {H:Hp} {a b:Addr} {kvs:List (List Key × V)} {k:List Key} (e:H a = some (.dT kvs)) (eb:H b = some (.tup (k.map kV))):DGet H a (.ref b) (valV kvs k):=.inr ⟨kvs,k,b,.inl e,rfl,eb,rfl⟩
theorem DPut.k {H:Hp} {a:Addr} {kvs:List (Key × V)} {k:Key} {v:V} (e:H a = some (.dK kvs)) (hl:kvs.length < sizeLine):DPut H a (kV k) v (upd H a (.dK (putK kvs k v))):=.inl ⟨kvs,k,e,rfl,hl,rfl⟩
theorem DPut.t {H:Hp} {a b:Addr} {kvs:List (List Key × V)} {k:List Key} {v:V} (e:H a = some (.dT kvs)) (eb:H b = some (.tup (k.map kV))) (hl:kvs.length < sizeLine) :
    DPut H a (.ref b) v (upd H a (.dT (putK kvs k v))):=.inr ⟨kvs,k,b,e,rfl,eb,hl,rfl⟩
section
variable {X:Cx} {pins:List (Addr × Obj)} {σ:St} {H:Hp} {s:Shared} {a:Addr} {y v:V} {u r:Value} {o:Option V} {A:Around} {E:Value → Shared → Prop}
end
section
variable {X:Cx} {pins:List (Addr × Obj)} {σ:St} {H:Hp} {s:Shared} {a:Addr} {kvs:List (Key × V)} {k:Key} {u:Value} {A:Around} {E:Value → Shared → Prop}
end
section
variable {X:Cx} {o i e value:Expr} {pos pos' tpos:Pos} {td ty tv:TE}
end
section
variable {X:Cx} {pos:Pos}
end
structure M2 (X:Cx) (o:Expr) (m:Str) (apos:Pos) (e f:Expr) (cpos:Pos):Prop where
  base:attributeBase o m X.env (eval o X.env) = eval o X.env
  few:((backTo cpos (starEach [e,f] X.env)).all (fun x => !x.1) && (backToKw cpos (keywordEach [] X.env)).all (fun x => x.1.isSome)
    && decide (([e,f]:List Expr).length + ([]:List Keyword).length + (if ([]:List Keyword).isEmpty then 0 else 1) < 30)) = true
  line:(apos.endLine == cpos.line) = true
  trees:backTo cpos (starEach [e,f] X.env) = [(false,eval e X.env),(false,eval f X.env)]
section
variable {X:Cx} {pins:List (Addr × Obj)} {σ:St} {H:Hp} {s:Shared} {a:Addr} {y d:V} {u r:Value} {o:Option V} {A:Around} {E:Value → Shared → Prop}
end
section
variable {X:Cx} {o e f:Expr} {apos cpos:Pos} {td ty tx:TE}
end
section
variable {X:Cx} {pins:List (Addr × Obj)} {σ:St} {H:Hp} {s:Shared} {a:Addr} {kvs:List (Key × V)} {A:Around} {E:Value → Shared → Prop}
end
section
variable {X:Cx} {pins:List (Addr × Obj)} {σ:St} {H:Hp} {s:Shared} {a:Addr} {y:V} {u:Value} {A:Around} {E:Value → Shared → Prop}
end
end L2
set_option maxHeartbeats 4000000
namespace L2
open PySem PySem.Spec PyProof.Rows
section
variable {X:Cx} {pins:List (Addr × Obj)} {σ:St} {H:Hp} {s:Shared}
theorem Inv.re {H':Hp} (I:Inv X pins σ H s) (hn:∀ b,H b = none → H' b = none) (tups:∀ b xs,X.H₀ b = some (.tup xs) → H' b = some (.tup xs)) (frzs:∀ b o u,X.H₀ b = some (.frz o u) → H' b = some (.frz o u))
    (tbls:∀ b ps,X.H₀ b = some (.tbl ps) → ∃ more,H' b = some (.tbl (ps ++ more))) (hok:HOk X.prog X.w H' s.heap):Inv X pins σ H' s :=
  ⟨I.ok,I.os,I.bare,⟨I.base.keep,I.base.slot,fun b o e n hx => hn b (I.base.free b o e n hx),I.base.there,tups,frzs,tbls⟩,I.loc,I.cell,hn _ I.free,fun x c e => hn c (I.freeC x c e),fun p hp => by
    obtain ⟨a,b,c,d,e⟩:=I.pin p hp
    exact ⟨a,hn _ b,c,d,e⟩,hok,I.len⟩
def isDi:HO → Bool
  | .dK _ => true
  | .dT _ => true
  | _ => false
theorem Inv.freeze {a:Addr} {u:HO} {o:Obj} (I:Inv X pins σ H s) (ha:H a = some u) (hu:isDi u = true) (ho:s.heap.get? a = some o):Inv X pins σ (upd H a (.frz o u)) s:=by
  have ne:∀ c v,H c = some v → isDi v = false → c ≠ a:=fun c v q n z => by rw [z,ha] at q; cases q; rw [n] at hu; cases hu
  have own:∀ c y,H c = some (.own y) → upd H a (.frz o u) c = some (.own y):=fun c y q => by rw [upd_ne (ne c _ q rfl)]; exact q
  have tup:∀ c xs,H c = some (.tup xs) → upd H a (.frz o u) c = some (.tup xs):=fun c xs q => by rw [upd_ne (ne c _ q rfl)]; exact q
  refine I.re (fun b q => by rw [upd_ne (fun z => by rw [z,ha] at q; cases q)]; exact q) (fun b xs q => tup b xs (I.base.tups b xs q)) (fun b o' v q => ?_) (fun b ps q => ?_) (fun b v q => ?_)
  · have:=I.base.frzs b o' v q
    rw [upd_ne (ne b _ this rfl)]
    exact this
  · obtain ⟨m,e⟩:=I.base.tbls b ps q
    exact ⟨m,by rw [upd_ne (ne b _ e rfl)]; exact e⟩
  · by_cases hb:b = a
    · subst hb
      rw [upd_same] at q
      cases q
      exact (show s.heap.get? b = some o ∧ ObjOk X.prog X.w (upd H b (.frz o u)) s.heap b u from ⟨ho,(I.hok b _ ha).stay (fun _ _ _ q => q) (fun c => own c b) tup⟩)
    · rw [upd_ne hb] at q
      exact (I.hok b v q).stay (fun _ _ _ q => q) (fun c => own c b) tup
end
section
variable {X:Cx} {e:Expr} {st:Stmt}
end
section
variable {X:Cx} {tg:Expr}
theorem dict_obj {pins:List (Addr × Obj)} {σ:St} {H:Hp} {s:Shared} {a:Addr} {kvs:List (Key × V)} (I:Inv X pins σ H s) (ha:H a = some (.dK kvs)):∃ o es ep,s.heap.get? a = some o ∧ o.data = .dict es ep:=by
  obtain ⟨_,_,vs,_,o,es,ep,ho,_,hd,_⟩:=dk_of I.hok ha
  exact ⟨o,es,ep,ho,hd⟩
theorem frz_obj {pins:List (Addr × Obj)} {σ:St} {H:Hp} {s:Shared} {a:Addr} {o:Obj} {kvs:List (Key × V)} (I:Inv X pins σ H s) (ha:H a = some (.frz o (.dK kvs))):∃ ep,∃ es,o.data = .dict es ep:=by
  have ok:s.heap.get? a = some o ∧ (kvs.length ≤ sizeLine ∧ (a == sysModules) = false ∧ ∃ vs,KV kvs vs ∧ s.heap.DictOf (mixKind X.prog X.w) a vs):=I.hok a _ ha
  obtain ⟨e,_,_,vs,_,o',es,ep,ho,_,hd,_⟩:=ok
  rw [e] at ho
  cases ho
  exact ⟨ep,es,hd⟩
def toWalk (H:Hp) (a:Addr) (R:Obj → List (Key × V) → Hp → Prop):Prop:=(∃ kvs,H a = some (.dK kvs) ∧ ∀ o,R o kvs (upd H a (.frz o (.dK kvs)))) ∨ ∃ o kvs,H a = some (.frz o (.dK kvs)) ∧ R o kvs H
theorem walk_at {pins:List (Addr × Obj)} {σ:St} {H:Hp} {s:Shared} {a:Addr} {R:Obj → List (Key × V) → Hp → Prop} (I:Inv X pins σ H s) (h:toWalk H a R) :
    ∃ o kvs H' ep,Inv X pins σ H' s ∧ H' a = some (.frz o (.dK kvs)) ∧ (∃ es,o.data = .dict es ep) ∧ R o kvs H':=by
  rcases h with ⟨kvs,ha,q⟩ | ⟨o,kvs,ha,q⟩
  · obtain ⟨o,es,ep,ho,hd⟩:=dict_obj I ha
    exact ⟨o,kvs,_,ep,I.freeze ha rfl ho,upd_same,⟨es,hd⟩,q o⟩
  · obtain ⟨ep,es,hd⟩:=frz_obj I ha
    exact ⟨o,kvs,H,ep,I,ha,⟨es,hd⟩,q⟩
end
section
variable {a:Addr} {o:Obj} {kvs:List (Key × V)} {g:TG} {tb:TS} {D:Ends} {σ:St} {H:Hp} {R:It → Hp → Prop} {tl:TE}
end
section
variable {X:Cx} {o e:Expr} {es:List Expr} {to:TE} {t:TA} {name:Str} {apos cpos:Pos} {id:String} {r:V → List V → Hp → VK → Prop}
end
section
variable {σ:St} {H:Hp} {Q:VK} {D:Ends} {a:Addr} {kvs:List (Key × V)} {z:Str} {v w:V} {to td ty tv:TE} {t:TA} {r:V → List V → Hp → VK → Prop}
end
end L2
set_option maxHeartbeats 4000000
namespace L2
open PySem PySem.Spec PyProof.Rows
open PySem.AutoSeq1 (wpAny_loadPart')
open PySem.MeetsSeq PySem.MeetsSeq2 PySem.MeetsSeq3
def EqW (P:Program) (w:World) (A:Around) (s:Shared) (u v:Value):Prop:=∀ (E:Value → Shared → Prop) (Q:Bool → Shared → Prop),Q true s → wpAny (model P w) A (eqBool u v) Q E s
section
variable {P:Program} {w:World} {A:Around} {E:Value → Shared → Prop} {s:Shared} {l b:Addr} {xs ys:Array Value}
theorem EqW.same (u:Value):EqW P w A s u u:=fun E Q hq => SeqAt.EqAt.same u P w E Q hq
end
def DEq (kvs kws:List (Key × V)):Prop:=kvs.length = kws.length ∧ ∀ kv ∈ kvs,flatV kv.2 = true ∧ valV kws kv.1 = some kv.2
def Alw (H:Hp):Nat → V → V → Prop
  | 0,x,y => x = y ∧ flatV x = true
  | n + 1,x,y => (x = y ∧ flatV x = true) ∨ ∃ p q,x = .ref p ∧ y = .ref q ∧ ((∃ xs ys,rdL H p = some xs ∧ rdL H q = some ys ∧ xs.length = ys.length ∧ ∀ (j:Nat) x' y',xs[j]? = some x' → ys[j]? = some y' → Alw H n x' y') ∨ ∃ kvs kws,Rd H p (.dK kvs) ∧ Rd H q (.dK kws) ∧ DEq kvs kws)
theorem Alw.flat {H:Hp} {n:Nat} {x:V} (h:flatV x = true):Alw H n x x:=by
  cases n with
  | zero => exact ⟨rfl,h⟩
  | succ n => exact .inl ⟨rfl,h⟩
theorem Alw.lst {H:Hp} {n:Nat} {p q:Addr} {xs ys:List V} (hp:rdL H p = some xs) (hq:rdL H q = some ys) (hl:xs.length = ys.length) (h:∀ (j:Nat) x y,xs[j]? = some x → ys[j]? = some y → Alw H n x y):Alw H (n + 1) (.ref p) (.ref q):=.inr ⟨p,q,rfl,rfl,.inl ⟨xs,ys,hp,hq,hl,h⟩⟩
theorem Alw.flats {H:Hp} {n:Nat} {xs:List V} (f:xs.all flatV = true):∀ (j:Nat) x y,xs[j]? = some x → xs[j]? = some y → Alw H n x y:=fun j x y hx hy => by
  rw [hx] at hy
  cases hy
  exact .flat (List.all_eq_true.mp f x (List.mem_of_getElem? hx))
section
variable {X:Cx}
end
section
variable {X:Cx} {e:Expr} {te:TE} {p2 pos pu pc:Pos} {j:Nat}
end
theorem Room.u1 {k:Nat} {A:Around} (r:Room k A):A.units + 1 < cLine:=by have:=r.un; omega
section
variable {X:Cx} {pu pc:Pos} {j:Nat}
def mPow:R2:=fun x y H Q => x = .int 10 ∧ y = .int 18 ∧ Q (.int 1000000000000000000) H
theorem m_pow:OpR X (binaryOp .Pow) mPow:=op_pow.imp fun x y H Q q => by
  obtain ⟨rfl,rfl,q⟩:=q
  exact ⟨10,18,rfl,rfl,⟨by decide,by decide,by decide⟩,by
    show Q (V.int ((10:Int) ^ (18:Int).toNat)) H
    rw [show (10:Int) ^ (18:Int).toNat = 1000000000000000000 by decide]
    exact q⟩
theorem s_pow {H:Hp} {Q:VK} (h:Q (.int 1000000000000000000) H):mPow (.int 10) (.int 18) H Q:=⟨rfl,rfl,h⟩
end
end L2
set_option maxHeartbeats 4000000
namespace L2
open PySem PySem.Spec PyProof.Rows
open PySem.AutoSeq1 (wpAny_loadPart')
section
variable {prog:Program} {w:World} {A:Around} {E:Value → Shared → Prop} {s:Shared}
end
section
variable {X:Cx}
end
end L2
set_option maxHeartbeats 4000000
namespace L2
open PySem PySem.Spec PyProof.Rows PySem.W
section
variable {prog:Program} {w:World} {A:Around} {E:Value → Shared → Prop} {s:Shared} {K:Frag} {x D:Addr} {ox:Obj} {od:Option Obj}
theorem exc_get {name:Str} {v:Value} {expr:Bool} {Q:Value → Shared → Prop} (Z:ExK K D) (X:K.In s.heap) (I:InstAt s.heap x ox D od) (hf:findObj K D od name = some (.value v)) (hh:handedIn v = true) (h:Q v { s with toks:=s.toks + 1 }) :
    wpAny (model prog w) A (getAttr (.ref x) name expr) Q E s:=by
  obtain ⟨hp,g,d,t,os⟩:=s
  have L0:=I.type (M:=model prog w)
  have L1:=looks_findIn (M:=model prog w) X Z.ga
  have L2:=looks_findIn (M:=model prog w) X Z.gh
  have L3:=looks_find (M:=model prog w) X I hf
  unfold getAttr getAttrBy
  refine wpAny_bind (wpAny_mkText (wpAny_holding (wpAny_bind (L0.at (wpAny_bind (L1.at ?_))))))
  have ne:(Value.builtin "BaseException.__getattribute__" == Value.builtin "object.__getattribute__") = false:=by decide +kernel
  have fb:=F.excAttr_ValueError.ga.bind (.ref x)
  dsimp only
  rw [ne,Bool.and_false,if_neg Bool.false_ne_true]
  unfold getAttrByItsOwn hookBefore
  rw [if_pos (show onTheHeap (Value.ref D) = true from rfl)]
  refine wpAny_bind (L2.at (wpAny_bind (wpAny_attempt (wpAny_holding ?_))))
  unfold callGetattribute boundAndCalled
  rw [if_neg (by rw [show onTheHeap (Value.builtin "BaseException.__getattribute__") = false from rfl,Bool.and_false]; exact Bool.false_ne_true)]
  refine wpAny_bind (wpAny_of_eq fb ?_)
  refine wpAny_call (codeAny_call_builtin F.excAttr_ValueError.ga.plain F.entry_bexc_ga (exc_check Z X I ?_))
  unfold Builtin.«object.__getattribute__»
  refine wpAny_bind (wpAny_pure (wpAny_bind (wpAny_pure (wpAny_bind (L0.at (wpAny_bind (L3.at ?_)))))))
  refine wpAny_pure ?_
  exact handed_on hh h
theorem exc_init {e t0:Addr} {oe:Obj} {vs:Array Value} {rest:List Value} {Q:Value → Shared → Prop} (Z:ExK K D) (X:K.In s.heap) (I:InstAt s.heap e oe D od) (hb:PySem.W.subIn K (.ref D) (.type "ValueError") = some true) (hd:oe.data = .fields vs) (h0:vs[0]? = some (.ref t0)) (hr:rest.length ≤ sizeLine)
    (h:Q .none { s with heap:=(s.heap.push { cls:=.type "tuple",data:=.seq rest.toArray }).update e (Obj.mapFields (·.setIfInBounds 0 (.ref s.heap.objs.size))) }) :
    wpAny (model prog w) A (call (.builtin "ValueError.__init__") (.ref e :: rest)) Q E s:=by
  have he:=I.at_
  obtain ⟨cd,hc,_⟩:=any_some Z.cls
  have FB:=PySem.F.excBase_ValueError
  have L0:=I.type (M:=model prog w)
  have L1:=looks_subIn (M:=model prog w) X hb
  refine wpAny_call (codeAny_call_builtin FB.init.plain FB.initEntry ?_)
  have ck:∀ (Q:Unit → Shared → Prop) (E:Value → Shared → Prop) (B:Around),Q () s → wpAny (model prog w) B (checkBuiltinCall "ValueError.__init__" ⟨.ref e :: rest,[]⟩) Q E s:=fun Q E B hq => by
    simp only [checkBuiltinCall,FB.initKind,FB.initSplit,FB.initRow]
    refine wpAny_bind ((L0.andThen L1).at ?_)
    have hst:=FB.noStar
    have sg:∀ (a b:String) (n:Nat),Bind.check ⟨.positional, "*", "ValueError",.self,[⟨"args",.varPos,false⟩]⟩ a b n (List.map (fun x => x.fst) ({ pos:=Value.ref e :: rest }:Args).kw) = pure ():=fun a b n => check_star_args _ _ _ _ _ _
    repeat (first | wp_step)
    rw [I.cls]
    refine wpAny_bind ((looks_clsIn X hc).at (wpAny_pure ?_))
    repeat (first | wp_step)
    refine wpAny_onRaise ?_
    rw [sg]
    exact wpAny_pure hq
  refine ck _ _ _ ?_
  have hs0:0 < vs.size:=(Array.getElem?_eq_some_iff.mp h0).1
  have hg:=Heap.get?_push_of_some (h:=s.heap) { cls:=.type "tuple",data:=.seq rest.toArray } he
  unfold Builtin.«BaseException.__init__» newTuple Builtin.BaseException.bexcPut
  dsimp only
  rw [if_neg (by simp)]
  refine wpAny_bind (wpAny_newObj_type (wpAny_bind (wpAny_bind (wpAny_field hg hd h0 (wpAny_bind (wpAny_setField hg hd hs0 (wpAny_letGo (wpAny_pure h))))))) (by show rest.toArray.size ≤ sizeLine; rw [List.size_toArray]; exact hr))
def mroL (K:Frag) (D:Addr):Option (List Value):=(clsIn K D).map (·.mro)
theorem exc_setG {T dx:Addr} {name:Str} {v:Value} {h1:Heap} {m:Str → Option Value} {ns:List Str} {Q:Unit → Shared → Prop} (Z:ExK K D) (X:K.In s.heap) (I:InstAt s.heap x ox D od)
    (hs:findIn K (.ref D) "__setattr__" = some (some (.builtin "object.__setattr__"))) (hm:mroL K D = some [.ref D,.ref T,.type "ValueError",.type "Exception",.type "BaseException",.type "object"]) (hna:findIn K (.ref D) name = some none)
    (hi:∀ (B:Around) (Q':Option Addr → Shared → Prop) (E':Value → Shared → Prop),Q' (some dx) { s with heap:=h1,toks:=s.toks + 1 } → wpAny (model prog w) B (instanceDict x true) Q' E' { s with toks:=s.toks + 1 })
    (hn:h1.Ns1 dx m) (hw:Within m ns) (hz:ns.length < sizeLine)
    (h:∀ h' tk',h'.Ns1 dx (fun y => if y = name then some v else m y) → Heap.SameBut dx h1 h' → Q () { s with heap:=h',toks:=tk' }) :
    wpAny (model prog w) A (setAttr (.ref x) name v) Q E s:=by
  obtain ⟨cd,hc,hd'⟩:=any_some Z.cls
  have hmr:cd.mro = [.ref D,.ref T,.type "ValueError",.type "Exception",.type "BaseException",.type "object"]:=by
    unfold mroL at hm
    rw [hc] at hm
    exact Option.some.inj hm
  have SF:=PySem.F.store_ValueError
  have sub:Looks (model prog w) s.heap (isInstance (.ref x) (.type "object")) true:=I.type.andThen (looks_mroIn X Z.mo)
  have hmm:Looks (model prog w) s.heap (mroOf (.ref D)) cd.mro:=(looks_clsIn X hc).andThen .now
  have hx:=I.at_
  refine set_plain X I hs ?_
  refine codeAny_call_builtin SF.slot.plain SF.entry (@check_slot (model prog w) _ _ { s with toks:=s.toks + 1 } "object.__setattr__" "object" "__setattr__" (.ref x) [.str name s.toks,v] [] _ SF.kind SF.split sub (SF.args (.ref x) (.str name s.toks) v) ?_)
  rw [osa_eq,refuse_eq]
  refine wpAny_bind (wpAny_bind (I.type.here (s:={ s with toks:=s.toks + 1 }) (wpAny_bind (hmm.here (s:={ s with toks:=s.toks + 1 }) ?_))))
  rw [hmr,refuseLoop_ref,refuseLoop_ref,SF.passes]
  refine wpAny_pure (wpAny_bind (I.type.here (s:={ s with toks:=s.toks + 1 }) (wpAny_bind ((looks_findIn X hna).here (s:={ s with toks:=s.toks + 1 }) (wpAny_bind (wpAny_pure ?_))))))
  show wpAny (model prog w) A.in1 (Builtin.ObjectAttr.storeInOwnDict (Value.ref x) (Value.ref D) (Value.str name s.toks) name v false) _ _ _
  unfold Builtin.ObjectAttr.storeInOwnDict
  refine wpAny_bind (wpAny_pure ?_)
  rw [if_neg (show ¬ ((Value.ref D == Value.type "module") = true) by simp)]
  unfold Builtin.ObjectAttr.ownDictForStores
  refine wpAny_bind (hi _ _ _ ?_)
  show wpAny (model prog w) A.in1 (Builtin.ObjectAttr.storeInDict dx (Value.str name s.toks) name v) _ _ _
  unfold Builtin.ObjectAttr.storeInDict Builtin.ObjectAttr.newKeyGuard
  refine wpAny_bind (wpAny_pure (wpAny_bind (wpAny_nsSet1 hn fun h' hn' sb => ?_)))
  obtain ⟨oD,esD,epD,hoD,hdD,hcD⟩:=hn'.count (Within.cons name v hw)
  refine wpAny_bind (wpAny_lookBehind hoD (by rw [hdD]; exact pastItsLine_dict (Nat.le_trans hcD (by rw [List.length_cons]; omega))) ?_)
  exact wpAny_pure (h h' _ hn' sb)
theorem exc_set0 {T:Addr} {name:Str} {v:Value} {vs:Array Value} {Q:Unit → Shared → Prop} (Z:ExK K D) (X:K.In s.heap) (I:InstAt s.heap x ox D none) (hda:ox.data = .fields vs) (hdn:ox.dict = none)
    (hs:findIn K (.ref D) "__setattr__" = some (some (.builtin "object.__setattr__"))) (hm:mroL K D = some [.ref D,.ref T,.type "ValueError",.type "Exception",.type "BaseException",.type "object"]) (hna:findIn K (.ref D) name = some none)
    (h:∀ h' tk',h'.get? x = some { ox with dict:=some s.heap.objs.size } → h'.Ns1 s.heap.objs.size (fun y => if y = name then some v else none) → (∀ b o,b ≠ x → s.heap.get? b = some o → h'.get? b = some o) → Q () { s with heap:=h',toks:=tk' }) :
    wpAny (model prog w) A (setAttr (.ref x) name v) Q E s:=by
  obtain ⟨cd,hc,hd'⟩:=any_some Z.cls
  have hx:=I.at_
  have hx1:(s.heap.push { cls:=.type "dict",data:=.dict #[] }).get? x = some ox:=Heap.get?_push_of_some _ hx
  have hxs:x ≠ s.heap.objs.size:=Nat.ne_of_lt (Heap.lt_size hx)
  have hgd:((s.heap.push { cls:=.type "dict",data:=.dict #[] }).update x fun o => { o with dict:=some s.heap.objs.size }).get? s.heap.objs.size = some { cls:=.type "dict",data:=.dict #[] } :=
    (Heap.get?_update_ne _ _ _ _ hxs.symm).trans (Heap.get?_push_at rfl rfl)
  have hnd:((s.heap.push { cls:=.type "dict",data:=.dict #[] }).update x fun o => { o with dict:=some s.heap.objs.size }).Ns s.heap.objs.size (fun _ => none) :=
    ⟨_,#[],_,hgd,rfl,fun e he => absurd he (by simp),fun _ => rfl⟩
  have hxu:((s.heap.push { cls:=.type "dict",data:=.dict #[] }).update x fun o => { o with dict:=some s.heap.objs.size }).get? x = some { ox with dict:=some s.heap.objs.size }:=by
    refine Heap.get?_update_self _ hx1 ?_
    obtain ⟨a,b,c,d⟩:=ox
    cases hda
    rfl
  refine exc_setG Z X I hs hm hna (fun B Q' E' q => ?_) (Heap.Ns1.of_empty hnd) Within.nil (by rw [List.length_nil,sizeLine_eq]; omega) fun h' tk' n sb => h h' tk' ((sb.2 x hxs).trans hxu) n fun b o hb e =>
    (sb.2 b (Nat.ne_of_lt (Heap.lt_size e))).trans ((Heap.get?_update_ne _ _ _ _ hb).trans (Heap.get?_push_of_some _ e))
  unfold instanceDict
  refine wpAny_bind (wpAny_loadPart hx ?_)
  rw [I.cls]
  refine wpAny_bind ((looks_clsIn X hc).here (s:={ s with toks:=s.toks + 1 }) ?_)
  rw [hd',hdn,hda,if_neg (show ¬ ((!true) = true) by decide)]
  dsimp only
  rw [if_neg (show ¬ ((!true || !typeHasDict (Value.ref D)) = true) by simp [typeHasDict])]
  exact wpAny_bind (wpAny_alloc' (wpAny_bind (wpAny_update' hx1 (wpAny_pure q))))
theorem exc_set1 {T dx:Addr} {name:Str} {v:Value} {m:Str → Option Value} {ns:List Str} {odx:Obj} {Q:Unit → Shared → Prop} (Z:ExK K D) (X:K.In s.heap) (I:InstAt s.heap x ox D (some odx)) (hdn:ox.dict = some dx)
    (hs:findIn K (.ref D) "__setattr__" = some (some (.builtin "object.__setattr__"))) (hm:mroL K D = some [.ref D,.ref T,.type "ValueError",.type "Exception",.type "BaseException",.type "object"]) (hna:findIn K (.ref D) name = some none)
    (hn:s.heap.Ns1 dx m) (hw:Within m ns) (hz:ns.length < sizeLine)
    (h:∀ h' tk',h'.Ns1 dx (fun y => if y = name then some v else m y) → Heap.SameBut dx s.heap h' → Q () { s with heap:=h',toks:=tk' }) :
    wpAny (model prog w) A (setAttr (.ref x) name v) Q E s:=by
  obtain ⟨cd,hc,hd'⟩:=any_some Z.cls
  refine exc_setG Z X I hs hm hna (fun B Q' E' q => ?_) hn hw hz h
  unfold instanceDict
  refine wpAny_bind (wpAny_loadPart I.at_ ?_)
  rw [I.cls]
  refine wpAny_bind ((looks_clsIn X hc).here (s:={ s with toks:=s.toks + 1 }) ?_)
  rw [hd',hdn,if_neg (show ¬ ((!true) = true) by decide)]
  exact wpAny_pure q
end
end L2
set_option maxHeartbeats 4000000
namespace L2
open PySem PySem.Spec PyProof.Rows PySem.W
def excN (ea C:Addr) (d:Option Addr):HO:=.ext fun h => ∃ oe vs t0,h.get? ea = some oe ∧ oe.cls = .ref C ∧ oe.dict = d ∧ oe.data = .fields vs ∧ vs[1]? = some .none ∧ vs[0]? = some (.ref t0) ∧ vs[2]? = some .none
def xdO (dx:Addr) (fs:List (Str × V)):HO:=.ext fun h => ∃ mA,h.Ns1 dx mA ∧ (∀ f,RelO (fs.lookup f) (mA f)) ∧ Within mA (fs.map (·.1))
theorem excN_ok {P:Program} {w:World} {H:Hp} {h:Heap} {ea C:Addr} {d:Option Addr} {oe:Obj} {vs:Array Value} {t0:Addr} (g:h.get? ea = some oe) (c:oe.cls = .ref C) (di:oe.dict = d) (da:oe.data = .fields vs) (h1:vs[1]? = some .none) (h0:vs[0]? = some (.ref t0)) (c2:vs[2]? = some .none) :
    ObjOk P w H h ea (excN ea C d):=⟨⟨oe,vs,t0,g,c,di,da,h1,h0,c2⟩,⟨oe,g⟩,fun _ _ ⟨o,ws,t,g,q⟩ k => ⟨o,ws,t,k o g,q⟩⟩
theorem xdO_ok {P:Program} {w:World} {H:Hp} {h:Heap} {dx:Addr} {fs:List (Str × V)} {mA:Str → Option Value} (n:h.Ns1 dx mA) (r:∀ f,RelO (fs.lookup f) (mA f)) (wi:Within mA (fs.map (·.1))):ObjOk P w H h dx (xdO dx fs):=by
  refine ⟨⟨mA,n,r,wi⟩,?_,fun _ _ ⟨m,⟨o,es,ep,g,q⟩,r⟩ k => ⟨m,⟨o,es,ep,k o g,q⟩,r⟩⟩
  obtain ⟨o,es,ep,g,_⟩:=n
  exact ⟨o,g⟩
structure XcK (K:Frag) (C T:Addr):Prop where
  ex:ExK K C
  sa:findIn K (.ref C) "__setattr__" = some (some (.builtin "object.__setattr__"))
  mro:mroL K C = some [.ref C,.ref T,.type "ValueError",.type "Exception",.type "BaseException",.type "object"]
  vb:PySem.W.subIn K (.ref C) (.type "ValueError") = some true
def mroB (K:Frag) (C T:Addr):Bool:=(clsIn K C).any fun c => match c.mro with
  | [.ref a,.ref b,.type x,.type y,.type z,.type u] => a == C && b == T && x == "ValueError" && y == "Exception" && z == "BaseException" && u == "object"
  | _ => false
theorem mroL_of {K:Frag} {C T:Addr} (h:mroB K C T = true):mroL K C = some [.ref C,.ref T,.type "ValueError",.type "Exception",.type "BaseException",.type "object"]:=by
  obtain ⟨c,hc,h⟩:=any_some h
  unfold mroL
  rw [hc]
  split at h
  · rename_i hm
    simp only [Bool.and_eq_true,beq_iff_eq] at h
    obtain ⟨⟨⟨⟨⟨rfl,rfl⟩,rfl⟩,rfl⟩,rfl⟩,rfl⟩:=h
    exact congrArg some hm
  · cases h
theorem excN_inst {P:Program} {w:World} {H:Hp} {h:Heap} {ea D:Addr} {d:Option Addr} {oe:Obj} {vs:Array Value} (hok:HOk P w H h) (g:h.get? ea = some oe) (hc:oe.cls = .ref D) (hdi:oe.dict = d) (hda:oe.data = .fields vs) (hd:∀ dx,d = some dx → ∃ o,H dx = some o) :
    ∃ od,InstAt h ea oe D od:=by
  have no:notCls oe = true:=by
    obtain ⟨c,di,da,sl⟩:=oe
    cases hda
    rfl
  cases d with
  | none => exact ⟨none,g,hc,no,by rw [hdi]; trivial⟩
  | some dx =>
    obtain ⟨o,z⟩:=hd dx rfl
    obtain ⟨ob,g2⟩:=(hok dx o z).get
    exact ⟨some ob,g,hc,no,by rw [hdi]; exact g2⟩
theorem upd_as {H:Hp} {a:Addr} {o:HO} (e:H a = some o):upd H a o = H:=by
  funext b
  unfold upd
  split
  · rename_i z; rw [z,e]
  · rfl
def mXinit (K:Frag):List V → Hp → VK → Prop:=fun vs H Q => ∃ ea rest C T d,vs = .ref ea :: rest ∧ rest.length ≤ sizeLine ∧ H ea = some (excN ea C d) ∧ (∀ dx,d = some dx → ∃ o,H dx = some o) ∧ XcK K C T ∧ Q .non H
def tXinit (K:Frag) (t:TA):TE:=fun σ H Q => t σ H fun vs H1 => mXinit K vs H1 Q
theorem m_xinit {X:Cx}:CallR X (.builtin "ValueError.__init__") (mXinit X.K):=by
  intro pins s σ H xs us Q I r h
  obtain ⟨ea,rest,C,T,d,rfl,hl,he,hd,Z,q⟩:=h
  cases r with
  | @cons _ _ _ l2 r0 rr =>
    cases r0
    obtain ⟨oe,vs,t0,g,hc,hdi,hda,h1,h0,c2⟩:=(I.hok ea _ he).1
    obtain ⟨od,hI⟩:=excN_inst I.hok g hc hdi hda hd
    refine exc_init Z.ex I.kIn hI Z.vb hda h0 (by rw [← rr.length]; exact hl) ?_
    have g2:=Heap.get?_push_of_some (h:=s.heap) { cls:=.type "tuple",data:=.seq l2.toArray } g
    have hs0:0 < vs.size:=(Array.getElem?_eq_some_iff.mp h0).1
    have dm:=Obj.data_mapFields hda (·.setIfInBounds 0 (Value.ref s.heap.objs.size))
    refine ⟨.non,H,?_,rfl,q⟩
    have I2:=I.write (x:=ea) (e:=ea) (o:=excN ea C d) (t':=s.toks) (by rw [he]; exact True.intro) (.inl rfl) (fun b u hb z => (Heap.get?_update_other _ (Obj.mapFields (·.setIfInBounds 0 (Value.ref s.heap.objs.size))) (Ne.symm hb)).trans (Heap.get?_push_of_some _ z))
      ⟨_,Heap.get?_update_self _ g2 (Obj.isFreed_of_fields dm)⟩ (excN_ok (Heap.get?_update_self _ g2 (Obj.isFreed_of_fields dm)) (by rw [Obj.cls_mapFields]; exact hc) (by rw [dict_map]; exact hdi) dm (by rw [Array.getElem?_setIfInBounds]; simp [h1]) (t0:=s.heap.objs.size) (by simp [hs0]) ((Array.getElem?_setIfInBounds_ne (by decide)).trans c2))
    rw [upd_as he] at I2
    exact I2
section
variable {X:Cx} {x:Str} {T:Addr} {mc:Value} {e:Expr} {es:List Expr} {t:TA} {np apos pos:Pos}
theorem pe_xinit {pl:Sem Bool} (hg:Gl X x) (hm:X.mg x = some (.ref T)) (h1:specialIn X.K (.ref T) "__getattribute__" = some (some (.builtin "type.__getattribute__"))) (h2:readsIn X.K T mc = true)
    (h3:findCls X.K (.ref T) mc "__init__" = some (.val (.builtin "ValueError.__init__"))) (ha:PA X (e :: es) t) (hdb:(x == ("__debug__" : Str)) = false:=by decide)
    (hst:starEach (e :: es) X.env = (false,eval e X.env) :: starEach es X.env:=by rfl) (hpl:(backTo pos (starEach es X.env)).any (·.1) = false:=by rfl)
    (ht:eval (.Call (.Attribute (.Name x np) "__init__" apos) (e :: es) [] pos) X.env = (do
      let ov ← eval (.Name x np) X.env
      standAt apos.atName
      let (f,first) ← holding [ov] (getMethod ov "__init__" pl)
      callWith pos f first (backTo pos (starEach (e :: es) X.env)) (backToKw pos (keywordEach [] X.env))):=by rfl) :
    PE X (.Call (.Attribute (.Name x np) "__init__" apos) (e :: es) [] pos) (tXinit X.K t):=by
  intro pins s σ H Q I h
  refine PySem.W.methodCall_KW (pl:=pl) (ld_glob I hg hm ?_ hdb) ht
  refine method_cls I.kIn h1 (cls_value I.kIn h2 h3 rfl ?_)
  exact PyProof.Rows.callWith_builtin1 (thn (ha pos pins _ σ H _ (I.tok _) h) fun us s1 ⟨vs,H1,I1,r1,q1⟩ => m_xinit pins s1 σ H1 vs us Q I1 r1 q1) hst hpl
end
theorem Inv.freAt {X:Cx} {pins:List (Addr × Obj)} {σ:St} {H:Hp} {s:Shared} {a:Addr} (I:Inv X pins σ H s) (h:s.heap.objs.size ≤ a):Fre X pins a where
  s0:=Heap.get?_none_of_le (Nat.le_trans I.sz h)
  loc:=fun z => absurd (Nat.lt_of_lt_of_le I.lt h) (by rw [z]; exact Nat.lt_irrefl _)
  cell:=fun x c e z => by
    obtain ⟨_,o,g,_⟩:=I.cell x c e
    exact absurd (Nat.lt_of_lt_of_le (Heap.lt_size g) h) (by rw [z]; exact Nat.lt_irrefl _)
  pin:=fun p hp z => absurd (Nat.lt_of_lt_of_le (Heap.lt_size (I.pin p hp).1) h) (by rw [z]; exact Nat.lt_irrefl _)
def sXfld (K:Frag) (ta tv:TE) (f:Str):TS:=fun D σ H => tv σ H fun y H1 => ta σ H1 fun x H2 => ∃ ea C T,x = .ref ea ∧ XcK K C T ∧ findIn K (.ref C) f = some none ∧
  ((H2 ea = some (excN ea C none) ∧ ∀ dx,H2 dx = none → D.nx σ (upd (upd H2 ea (excN ea C (some dx))) dx (xdO dx [(f,y)]))) ∨
   (∃ dx fs,H2 ea = some (excN ea C (some dx)) ∧ H2 dx = some (xdO dx fs) ∧ fs.length < 100 ∧ D.nx σ (upd H2 dx (xdO dx ((f,y) :: fs)))))
theorem look_cons {f g:Str} {y:V} {fs:List (Str × V)}:List.lookup g ((f,y) :: fs) = if g = f then some y else fs.lookup g:=by
  rw [List.lookup_cons]
  by_cases z:g = f
  · rw [if_pos z,z]; simp
  · rw [if_neg z]
    have:(g == f) = false:=by simpa using z
    rw [this]
theorem ps_xfld {X:Cx} {o value:Expr} {f:Str} {pos pos':Pos} {ta tv:TE} (ha:PE X o ta) (hv:PE X value tv) (hs:swapsWith value (some (.Attribute o f pos')) pos.line X.env = pure false):PS X (.Assign [.Attribute o f pos'] value pos) (sXfld X.K ta tv f):=by
  intro pins s σ H D I h
  refine plainObj_wpAny_Assign_Attribute (thn (hv pins s σ H _ I h) fun u s1 ⟨y,H1,I1,ry,q⟩ => thn (ha pins s1 σ H1 _ I1 q) fun ov s2 ⟨x,H2,I2,rx,ea,C,T,ex,Z,hn,q2⟩ => ?_) hs
  subst ex
  obtain rfl:ov = Value.ref ea:=rx
  rcases q2 with ⟨he,q3⟩ | ⟨dx,fs,he,hdx,hl,q3⟩
  · obtain ⟨oe,vs,t0,g,hc,hdi,hda,h1,h0,c2⟩:=(I2.hok ea _ he).1
    obtain ⟨od,hI⟩:=excN_inst I2.hok g hc hdi hda (fun _ z => nomatch z)
    have hod:od = none:=by
      have z:=hI.dict
      rw [hdi] at z
      cases od with
      | none => rfl
      | some o => exact z.elim
    subst hod
    refine exc_set0 Z.ex I2.kIn hI hda hdi Z.sa Z.mro hn fun h' tk' gx ns kp => ?_
    have fr:=I2.freAt (Nat.le_refl _)
    have hfree:H2 s2.heap.objs.size = none:=I2.hok.fresh (Nat.le_refl _)
    have ne:s2.heap.objs.size ≠ ea:=fun z => by rw [z,he] at hfree; cases hfree
    have I3:=I2.write (x:=ea) (e:=ea) (o:=excN ea C (some s2.heap.objs.size)) (h':=h') (t':=tk') (by rw [he]; exact True.intro) (.inl rfl) kp ⟨_,gx⟩ (excN_ok gx hc rfl hda h1 h0 c2)
    have I4:=I3.adopt (a:=s2.heap.objs.size) (o:=xdO s2.heap.objs.size [(f,y)]) fr (by rw [upd_ne ne]; exact hfree) (xdO_ok ns (fun g => by
      rw [look_cons]
      split
      · exact ry
      · exact True.intro) (fun g hg => by
      by_cases z:g = f
      · rw [z]; exact List.mem_singleton.mpr rfl
      · exact absurd (show (if g = f then some u else none) = none by rw [if_neg z]) hg))
    exact ⟨σ,_,I4,q3 _ hfree⟩
  · obtain ⟨oe,vs,t0,g,hc,hdi,hda,h1,h0,c2⟩:=(I2.hok ea _ he).1
    obtain ⟨mA,n,r,wi⟩:=(I2.hok dx _ hdx).1
    obtain ⟨od,hI⟩:=excN_inst I2.hok g hc hdi hda (fun z e => by cases e; exact ⟨_,hdx⟩)
    have hod:∃ o,od = some o:=by
      have z:=hI.dict
      rw [hdi] at z
      cases od with
      | none => exact z.elim
      | some o => exact ⟨o,rfl⟩
    obtain ⟨o,rfl⟩:=hod
    refine exc_set1 Z.ex I2.kIn hI hdi Z.sa Z.mro hn n wi (by rw [List.length_map,sizeLine_eq]; omega) fun h' tk' ns sb => ?_
    have hd':∃ o,h'.get? dx = some o:=let ⟨o,_,_,e',_⟩:=ns; ⟨o,e'⟩
    have I3:=I2.write (x:=dx) (e:=dx) (o:=xdO dx ((f,y) :: fs)) (h':=h') (t':=tk') (by rw [hdx]; exact True.intro) (.inl rfl) (fun b q hb z => (sb.2 b hb).trans z) hd' (xdO_ok ns (fun g => by
      rw [look_cons]
      split
      · exact ry
      · exact r g) (fun g hg => by
      by_cases z:g = f
      · rw [z]; exact List.mem_cons_self
      · refine List.mem_cons_of_mem _ (wi g fun z2 => hg ?_)
        show (if g = f then some u else mA g) = none
        rw [if_neg z]; exact z2))
    exact ⟨σ,_,I3,q3⟩
def tXget (K:Frag) (ta:TE) (f:Str):TE:=fun σ H Q => ta σ H fun x H1 => ∃ ea C dx fs v,x = .ref ea ∧ (H1 ea = some (excO ea (.ref C) (some dx)) ∨ H1 ea = some (excN ea C (some dx))) ∧ H1 dx = some (xdO dx fs) ∧ ExK K C ∧ findIn K (.ref C) f = some none ∧ fs.lookup f = some v ∧ Q v H1
theorem hand_rel {v:V} {u:Value} (r:RelV v u):handedIn u = true:=by
  cases v <;> first | (obtain ⟨_,rfl⟩:=(show ∃ t,u = _ from r); rfl) | (cases r; rfl)
theorem pe_xget {X:Cx} {e:Expr} {f:Str} {pos:Pos} {ta:TE} (he:PE X e ta) (hb:attributeBase e f X.env (eval e X.env) = eval e X.env):PE X (.Attribute e f pos) (tXget X.K ta f):=by
  intro pins s σ H Q I h
  refine attr_of hb (thn (he pins s σ H _ I h) fun u s1 ⟨x,H1,I1,rx,ea,C,dx,fs,v,ex,e1,e2,Z,n,l,q⟩ => ?_)
  subst ex
  obtain rfl:u = Value.ref ea:=rx
  obtain ⟨oe,vs,g,hc,hdi,hda⟩:∃ oe vs,s1.heap.get? ea = some oe ∧ oe.cls = .ref C ∧ oe.dict = some dx ∧ oe.data = .fields vs:=by
    rcases e1 with e1 | e1
    · exact (I1.hok ea _ e1).1
    · obtain ⟨oe,vs,t0,g,hc,hdi,hda,_⟩:=(I1.hok ea _ e1).1
      exact ⟨oe,vs,g,hc,hdi,hda⟩
  obtain ⟨⟨mA,ns,r,wi⟩,_⟩:=I1.hok dx _ e2
  obtain ⟨od,hI⟩:=excN_inst I1.hok g hc hdi hda (fun z e => by cases e; exact ⟨_,e2⟩)
  obtain ⟨o,go,lo⟩:=lookIn_ns ns
  have hod:od = some o:=by
    have z:=hI.dict
    rw [hdi] at z
    cases od with
    | none => exact z.elim
    | some o' =>
      have z:s1.heap.get? dx = some o':=z
      rw [go] at z
      exact z.symm
  subst hod
  have rl:=r f
  rw [l] at rl
  cases hu:mA f with
  | none => rw [hu] at rl; exact rl.elim
  | some u =>
    rw [hu] at rl
    exact exc_get Z I1.kIn hI (findObj_own Z.cls n rfl (by rw [lo,hu])) (hand_rel rl) ⟨v,H1,I1.tok _,rl,q⟩
end L2
set_option maxHeartbeats 4000000
namespace L2
open PySem PySem.Spec PyProof.Rows PySem.W
def excJ (K:Frag) (C:Addr) (bmB:List Value) (newId:String):Bool :=
  match K.lookup C with
  | some ⟨.type t,_,.cls c,sl⟩ => t == "type" && !c.hasDel && nsOkIn K c.ns &&
    (match c.mro with | .ref C1 :: bm => C1 == C && tailIn K bmB bm | _ => false) && (match sl.toList with | [_,_,_,_,some (.builtin n),_] => n == newId | _ => false)
  | _ => false
theorem objJ {K:Frag} {h:Heap} {C:Addr} {bmB:List Value} {newId:String} (X:K.In h) (q:excJ K C bmB newId = true) :
    ∃ bm N nm qn bs hd sn sub ab col dd k0 k1 k2 k3 k5,h.get? C = some (excClassObj nm qn C N bs bm hd sn sub ab col dd k0 k1 k2 k3 k5 newId) ∧ OwnTail h bmB bm:=by
  unfold excJ at q
  split at q
  · rename_i t dd c sl ho
    simp only [Bool.and_eq_true,beq_iff_eq,Bool.not_eq_true'] at q
    obtain ⟨⟨⟨⟨rfl,q1⟩,q2⟩,q3⟩,q4⟩:=q
    split at q3
    · rename_i C1 bm hm
      obtain ⟨rfl,q5⟩:C1 = C ∧ tailIn K bmB bm = true:=by simpa only [Bool.and_eq_true,beq_iff_eq] using q3
      split at q4
      · rename_i k0 k1 k2 k3 n k5 hs
        obtain rfl:n = newId:=by simpa using q4
        obtain ⟨nm,bs,mro,ns,qn,hd,sn,sub,ab,col,del⟩:=c
        dsimp only at hm q1 q2
        subst hm q1
        obtain ⟨l⟩:=sl
        cases (show l = _ from hs)
        exact ⟨bm,ns,nm,qn,bs,hd,sn,sub,ab,col,dd,k0,k1,k2,k3,k5,X _ _ ho,tail_of_in X q5⟩
      · cases q4
    · cases q3
  · cases q
section
variable {prog:Program} {w:World} {A:Around} {E:Value → Shared → Prop} {s:Shared} {K:Frag} {C f:Addr} {bmB:List Value} {B newId initId:String}
theorem type_make {rest:List Value} {Q:Fin → Shared → Prop} (FB:ExcBaseFacts B newId initId bmB) (X:K.In s.heap) (hx:excJ K C bmB newId = true) (hi:findIn K (.ref C) "__init__" = some (some (.ref f))) (hf:typeIn K (.ref f) = some (.type "function")) (hr:rest.length ≤ sizeLine)
    (hq:∀ h' e,Heap.MadeExcOf s.heap h' e (.ref C) rest → wpAny (model prog w) A (call (.ref f) (.ref e :: rest)) (fun r s' => r = .none ∧ Q (.done (.ret (.ref e))) s') E { s with heap:=h' }) :
    wpAny (model prog w) A (Builtin.«type.__call__» ⟨.ref C :: rest,[]⟩) Q E s:=by
  obtain ⟨h,g,d,t,os⟩:=s
  obtain ⟨bm,N,nm,qn,bs,hd,sn,sub,ab,col,dd,k0,k1,k2,k3,k5,hC,Tl⟩:=objJ X hx
  repeat (first | with_reducible refine wpAny_madeBy_exc hC ?_ | with_reducible refine wpAny_loadPart_at hC ?_ | wp_step)
  refine codeAny_call_builtin_code (Code.quiet_builtin _ FB.quiet) (wpAny_check_new_subT FB Tl hC (codeAny_exc_new_subT FB Tl hC ?_ hr))
  show wpAny _ _ _ _ _ _
  generalize hh1:(h.push { cls:=.type "tuple",data:=.seq rest.toArray }).push { cls:=.ref C,data:=.fields #[.ref h.objs.size,.none,.none,.none,.bool false,.none] } = h1
  have kp:∀ b o,h.get? b = some o → h1.get? b = some o:=fun b o e => by rw [← hh1]; exact Heap.get?_push_of_some _ (Heap.get?_push_of_some _ e)
  have hget:h1.get? (h.objs.size + 1) = some { cls:=.ref C,data:=.fields #[.ref h.objs.size,.none,.none,.none,.bool false,.none] }:=by rw [← hh1]; heap_get
  have X1:=X.keeps kp
  have hC1:=kp _ _ hC
  have hcC:(Value.ref C :: bm).contains (.ref C) = true:=by simp
  unfold isInstance
  repeat (first | (with_reducible refine wpAny_isSubtype_exc hC1 ?_; rw [hcC]) | with_reducible refine wpAny_loadPart_at hget ?_ | wp_step)
  show wpAny _ _ (typeLookup (.ref C) _) _ _ _
  refine (looks_findIn X1 hi).here (s:=⟨h1,g,d,t,os⟩) (wpAny_holding (wpAny_bind ?_))
  unfold bindSpecial
  refine wpAny_bind ((looks_typeIn X1 hf).here (s:=⟨h1,g,d,t,os⟩) ?_)
  rw [if_pos (by decide)]
  refine wpAny_pure (wpAny_bind (wpAny_mono (hq h1 (h.objs.size + 1) ⟨kp,Heap.get?_none_of_le (Nat.le_succ _),h.objs.size,hget,Heap.get?_none_of_le (Nat.le_refl _),?_⟩) (fun r s' hr => ?_) fun _ _ z => z))
  · rw [← hh1]
    exact Heap.get?_push_of_some _ (Heap.get?_push_at rfl rfl)
  · obtain ⟨rfl,z⟩:=hr
    wp_walk
    exact z
theorem exc_make {rest:List Value} {Q:Value → Shared → Prop} (FB:ExcBaseFacts B newId initId bmB) (X:K.In s.heap) (hx:excJ K C bmB newId = true) (hi:findIn K (.ref C) "__init__" = some (some (.ref f))) (hf:typeIn K (.ref f) = some (.type "function")) (hr:rest.length ≤ sizeLine)
    (hq:∀ h' e,Heap.MadeExcOf s.heap h' e (.ref C) rest → wpAny (model prog w) (A.under (.builtin "type.__call__" ⟨.ref C :: rest,[]⟩)) (call (.ref f) (.ref e :: rest)) (fun r s' => r = .none ∧ Q (.ref e) s') E { s with heap:=h' }) :
    wpAny (model prog w) A (call (.ref C) rest) Q E s:=by
  have X0:=X
  obtain ⟨h,g,d,t,os⟩:=s
  obtain ⟨bm,N,nm,qn,bs,hd,sn,sub,ab,col,dd,k0,k1,k2,k3,k5,hC,Tl⟩:=objJ X hx
  have c1:=tc_lookup
  have c2:=tc_bind (.ref C)
  have c3:(⟨h,g,d,t,os⟩:Shared).TypeIs (.ref C) "type" := ⟨_,hC,rfl⟩
  refine wpAny_call (codeAny_of_tree ?_)
  show wpAny _ _ (callAny (.ref C) _) _ _ _
  repeat (any_goals (first | with_reducible refine wpAny_loadPart_at hC ?_ | assumption | wp_step))
  exact ⟨rfl,codeAny_call_builtin_at (Code.quiet_builtin _ (by decide +kernel)) entry_typeCall (wpAny_check_type_call_sub hC (type_make FB X0 hx hi hf hr fun h' e hm => hq h' e hm))⟩
theorem raise_own {env:Env} {x:Sem Value} {Q:Flow → Shared → Prop} (hh:A.handled = none)
    (h:wpAny (model prog w) A x (fun v s1 => ∃ e oe vs bm N nm qn bs hd sn sub ab col dd k0 k1 k2 k3 k5,v = .ref e ∧ s1.heap.get? C = some (excClassObj nm qn C N bs bm hd sn sub ab col dd k0 k1 k2 k3 k5 newId) ∧ bm.contains (.type "BaseException") = true ∧
      s1.heap.get? e = some oe ∧ oe.cls = .ref C ∧ oe.data = .fields vs ∧ vs[1]? = some .none ∧ E (.ref e) s1) E s):wpAny (model prog w) A (raiseStmt env (some x) none) Q E s:=by
  unfold raiseStmt
  refine wpAny_bind (wpAny_mono h (fun v s1 q => ?_) fun _ _ z => z)
  obtain ⟨e,oe,vs,bm,N,nm,qn,bs,hd,sn,sub,ab,col,dd,k0,k1,k2,k3,k5,rfl,hC,hb,he,hc,hda,h1,hE⟩:=q
  obtain ⟨hp,g,d,tk,os⟩:=s1
  obtain ⟨oc,odi,oda,osl⟩:=oe
  dsimp only at hc hda
  subst hc hda
  have hcB:(Value.ref C :: bm).contains (.type "BaseException") = true:=by rw [List.contains_cons,hb,Bool.or_true]
  repeat (first | with_reducible refine wpAny_loadPart_at hC ?_ | with_reducible refine wpAny_loadPart_at he ?_ | (with_reducible refine wpAny_isSubtype_exc hC ?_; rw [hcB]) | wp_step)
  rw [h1]
  refine wpAny_pure ?_
  rw [if_neg (show ¬ ((Value.none != Value.none) = true) by decide)]
  exact wpAny_pure (wpAny_raiseNew_none hh hE)
end
def del (H:Hp) (a:Addr):Hp:=fun b => if b = a then none else H b
theorem del_ne {H:Hp} {a b:Addr} (h:b ≠ a):del H a b = H b:=if_neg h
theorem del_self {H:Hp} {a:Addr}:del H a a = none:=if_pos rfl
section
variable {X:Cx} {pins:List (Addr × Obj)} {σ:St} {H:Hp} {s:Shared}
theorem Inv.drop {ea:Addr} {φ:Heap → Prop} (I:Inv X pins σ H s) (e:H ea = some (.ext φ)):Inv X pins σ (del H ea) s:=by
  have ne:∀ b u,H b = some u → (∀ ψ,u ≠ .ext ψ) → b ≠ ea:=fun b u q n z => by
    rw [z,e] at q
    cases q
    exact n φ rfl
  refine I.re (fun b n => ?_) (fun b xs q => ?_) (fun b o u q => ?_) (fun b ps q => ?_) fun b o q => ?_
  · unfold del
    split
    · rfl
    · exact n
  · have q1:=I.base.tups b xs q
    rw [del_ne (ne b _ q1 fun _ z => nomatch z)]
    exact q1
  · have q1:=I.base.frzs b o u q
    rw [del_ne (ne b _ q1 fun _ z => nomatch z)]
    exact q1
  · obtain ⟨m,q1⟩:=I.base.tbls b ps q
    exact ⟨m,by rw [del_ne (ne b _ q1 fun _ z => nomatch z)]; exact q1⟩
  · have hb:b ≠ ea:=fun z => by rw [z,del_self] at q; cases q
    rw [del_ne hb] at q
    exact (I.hok b o q).stay (fun _ _ _ z => z) (fun c z => by rw [del_ne (ne c _ z fun _ z => nomatch z)]; exact z) fun c xs z => by rw [del_ne (ne c _ z fun _ z => nomatch z)]; exact z
theorem Inv.freNew {a:Addr} (I:Inv X pins σ H s) (hex:X.ex = []) (h:s.heap.get? a = none):Fre X pins a where
  s0:=by
    cases z:X.s₀.heap.get? a with
    | none => rfl
    | some o =>
      obtain ⟨o',z'⟩:=I.base.there a o z (by rw [hex]; simp)
      rw [h] at z'
      cases z'
  loc:=fun z => by
    obtain ⟨m,⟨o,_,_,g,_⟩,_⟩:=I.loc
    rw [← z,h] at g
    cases g
  cell:=fun x c e z => by
    obtain ⟨_,o,g,_⟩:=I.cell x c e
    rw [z,h] at g
    cases g
  pin:=fun p hp z => by
    have g:=(I.pin p hp).1
    rw [z,h] at g
    cases g
end
def CalI (P:Program) (w:World) (K:PySem.W.Frag) (mg:Str → Option Value) (base:Heap) (k:Nat) (C:Addr) (ps:List Str) (sp:Sp):Prop :=
  ∃ (f:Addr) (fd:FuncData),FnOk P w K mg base CX0 k f fd ps sp ∧ findIn K (.ref C) "__init__" = some (some (.ref f)) ∧ typeIn K (.ref f) = some (.type "function") ∧ Binds K fd ps []
structure XmK (K:Frag) (C:Addr):Prop where
  obj:excJ K C [.type "ValueError",.type "Exception",.type "BaseException",.type "object"] "ValueError.__new__" = true
  kp:keepIn K (.ref C) = true
def tRaiseI (C:Addr) (sp:Sp) (E:XK) (ta:TA):TS:=fun _ σ H => ta σ H fun vs H1 => vs.length ≤ sizeLine ∧ ∀ ea,H1 ea = none → sp (.ref ea :: vs) (upd H1 ea (excN ea C none)) (fun v H2 => v = .non ∧ ∃ d,H2 ea = some (excN ea C d) ∧ E (.ref C) d (del H2 ea)) E0
section
variable {X:Cx} {E:XK} {x:Str} {C:Addr} {e:Expr} {es:List Expr} {ta:TA} {np cpos pos:Pos} {k:Nat} {ps:List Str} {sp:Sp}
theorem run_xmake {pins:List (Addr × Obj)} {σ:St} {H1:Hp} {s1:Shared} {vs:List V} {us:List Value} {G:Addr → VK} {R:Value → Shared → Prop} (hex:X.ex = []) (M:XmK X.K C) (c:CalI X.prog X.w X.K X.mg X.base k C ps sp) (hr:Room (k + 1) X.A) (I1:Inv X pins σ H1 s1) (r:Vals vs us)
    (hl:vs.length ≤ sizeLine) (q:∀ ea,H1 ea = none → sp (.ref ea :: vs) (upd H1 ea (excN ea C none)) (G ea) E0)
    (hR:∀ ea H2 s2,X.s₀.heap.get? ea = none → Inv X pins σ H2 s2 → (G ea) .non H2 → R (.ref ea) s2) (hG:∀ ea v H2,G ea v H2 → v = .non):wpAny (model X.prog X.w) X.A (call (.ref C) us) R X.xe s1:=by
  obtain ⟨f,fd,F,hi,hf,hb⟩:=c
  refine exc_make PySem.F.excBase_ValueError I1.kIn M.obj hi hf (by rw [← r.length]; exact hl) fun h' ea hm => ?_
  obtain ⟨t,g,_,_⟩:=hm.there
  have hole:H1 ea = none:=I1.hok.hole hm.new
  have fr:=I1.freNew hex hm.new
  have I2:=(I1.kept (t':=s1.toks) hm.keeps).adopt (o:=excN ea C none) fr hole (excN_ok g rfl rfl rfl rfl rfl rfl)
  have r2:Vals (V.ref ea :: vs) (Value.ref ea :: us):=.cons rfl r
  have hq:=q ea hole
  have hl2:((Value.ref ea :: us) ++ []).length = ps.length:=by rw [List.append_nil,← r2.length]; exact F.len _ _ _ _ hq
  have hbb:=hb { s1 with heap:=h' } (Value.ref ea :: us) I2.kIn hl2
  rw [List.append_nil] at hbb
  refine wpAny_call (codeAny_mono (F.run _ X.stack { s1 with heap:=h' } _ ⟨Value.ref ea :: us,[]⟩ (Value.ref ea :: us) (V.ref ea :: vs) _ E0 (hr.make C us []) (I2.env0.make C us []) hbb r2 hq) fun rr s' hq' => ?_)
  cases rr with
  | error e => exact False.elim hq'
  | ok fl =>
    cases fl with
    | ret u =>
      obtain ⟨v,H',I3,rv,q3⟩:=I2.after hq'
      have ev:=hG ea v H' q3
      subst ev
      exact ⟨rv,hR ea H' s' fr.s0 I3 q3⟩
    | next => exact False.elim hq'
    | brk => exact False.elim hq'
    | cont => exact False.elim hq'
theorem ps_raiseI {k':Nat} (hR:Rais X E) (hex:X.ex = []) (hc:X.calm = true) (hg:Gl X x) (hm:X.mg x = some (.ref C)) (M:XmK X.K C) (c:CalI X.prog X.w X.K X.mg X.base k C ps sp) (hr:Room k' X.A) (hkk:k + 1 ≤ k') (ha:PA X (e :: es) ta)
    (hd:(x == ("__debug__" : Str)) = false:=by decide) (he:starEach (e :: es) X.env = (false,eval e X.env) :: starEach es X.env:=by rfl) (hpl:(backTo cpos (starEach es X.env)).any (·.1) = false:=by rfl) :
    PS X (.Raise (some (.Call (.Name x np) (e :: es) [] cpos)) none pos) (tRaiseI C sp E ta):=by
  intro pins s σ H D I h
  rw [arm_exec_Raise]
  simp only [evalOpt,Option.map]
  refine wpAny_bind (wpAny_standAt (raise_own (C:=C) (newId := "ValueError.__new__") (I.ok.hd hc) ?_))
  refine wpAny_bind (wpAny_mono (Q:=fun v s1 => ∃ e oe vs bm N nm qn bs hd sn sub ab col dd k0 k1 k2 k3 k5,v = .ref e ∧ s1.heap.get? C = some (excClassObj nm qn C N bs bm hd sn sub ab col dd k0 k1 k2 k3 k5 "ValueError.__new__") ∧ bm.contains (.type "BaseException") = true ∧
      s1.heap.get? e = some oe ∧ oe.cls = .ref C ∧ oe.data = .fields vs ∧ vs[1]? = some .none ∧ X.xe (.ref e) s1) ?_ (fun v s3 h3 => wpAny_bind (wpAny_standAt (wpAny_pure h3))) fun _ _ z => z)
  refine wpAny_Call_Name_kw (ld_glob I hg hm ?_ hd)
  refine PySem.W.callWith_K (h₀:=X.base) I.ok.mod.kin M.kp (thn (ha cpos pins s σ H _ I h) fun us s1 ⟨vs,H1,I1,r,hl,q⟩ => ⟨I1.kIn,?_⟩) he hpl
  refine run_xmake hex M c (hr.mono hkk) I1 r hl q (fun ea H' s' s0 I3 q3 => ?_) fun ea v H2 z => z.1
  obtain ⟨_,d,e2,q3⟩:=q3
  obtain ⟨oe,ws,t0,g2,hc2,hdi,hda,h1,h0,c2⟩:=(I3.hok ea _ e2).1
  obtain ⟨bm,N,nm,qn,bs,hdct,sn,sub,ab,col,dd,k0,k1,k2,k3,k5,hC,Tl⟩:=objJ I3.kIn M.obj
  refine ⟨ea,oe,ws,bm,N,nm,qn,bs,hdct,sn,sub,ab,col,dd,k0,k1,k2,k3,k5,rfl,hC,Tl.hasType PySem.F.excBase_ValueError.hasBase,g2,hc2,hda,h1,?_⟩
  exact hR pins σ (del H' ea) s' ea oe ws (I3.drop e2) g2 hda h1 c2 del_self s0 (by rw [hc2,hdi]; exact q3)
end
def clsAt (st:Stmt) (j:Nat):Stmt :=
  match st with
  | .ClassDef _ _ _ body _ _ _ _ _ _ _ => body.getD j (.Pass ⟨0,0,0,0⟩)
  | s => s
section
variable {g:TG} {tests:TT} {te:TE} {σ0:St} {Q:VK} {H1:Hp}
end
section
variable {K:PySem.W.Frag} {H:Hp} {Q:VK} {ea C D T dx tp:Addr} {c:V} {cs:List V} {cv:Value} {cvs:List Value} {b:Bool} {d:Option Addr} {σ:St} {D':Ends} {sp:Sp} {E:XK} {ta:TA} {te tv:TE} {f:Str}
theorem s_xinit (h:ta σ H fun vs H1 => mXinit K vs H1 Q):tXinit K ta σ H Q:=h
theorem s_raiseI (h:ta σ H fun vs H1 => vs.length ≤ sizeLine ∧ ∀ ea,H1 ea = none → sp (.ref ea :: vs) (upd H1 ea (excN ea C none)) (fun v H2 => v = .non ∧ ∃ d,H2 ea = some (excN ea C d) ∧ E (.ref C) d (del H2 ea)) E0):tRaiseI C sp E ta D' σ H:=h
theorem s_xget (h:te σ H fun x H1 => ∃ ea C dx fs v,x = .ref ea ∧ (H1 ea = some (excO ea (.ref C) (some dx)) ∨ H1 ea = some (excN ea C (some dx))) ∧ H1 dx = some (xdO dx fs) ∧ ExK K C ∧ PySem.W.findIn K (.ref C) f = some none ∧ fs.lookup f = some v ∧ Q v H1):tXget K te f σ H Q:=h
theorem s_xfld (h:tv σ H fun y H1 => te σ H1 fun x H2 => ∃ ea C T,x = .ref ea ∧ XcK K C T ∧ PySem.W.findIn K (.ref C) f = some none ∧
  ((H2 ea = some (excN ea C none) ∧ ∀ dx,H2 dx = none → D'.nx σ (upd (upd H2 ea (excN ea C (some dx))) dx (xdO dx [(f,y)]))) ∨
   (∃ dx fs,H2 ea = some (excN ea C (some dx)) ∧ H2 dx = some (xdO dx fs) ∧ fs.length < 100 ∧ D'.nx σ (upd H2 dx (xdO dx ((f,y) :: fs)))))):sXfld K te tv f D' σ H:=h
theorem s_isy1 (e:H ea = some (excO ea (.ref D) (some dx))) {o:HO} (hd:H dx = some o) (Z:ExK K D) (h1:clsV c = some cv) (h2:PySem.W.kitOne K (.ref D) cv = some b) (h:Q (.bl b) H):mIsx K [.ref ea,c] H Q :=
  ⟨ea,D,some dx,c,b,rfl,e,(fun _ z => by cases z; exact ⟨o,hd⟩),Z,.inl ⟨cv,h1,h2⟩,h⟩
end
end L2
set_option maxHeartbeats 4000000
namespace L2
open PySem PySem.Spec PyProof.Rows
structure FnOkM (P:Program) (w:World) (K:PySem.W.Frag) (mg:Str → Option Value) (base:Heap) (k:Nat) (f:Addr) (fd:FuncData) (ps:List Str) (sp:Sp):Prop where
  len:∀ vs H Q E,sp vs H Q E → vs.length = ps.length
  run:∀ (B:Around) (ea:Addr) (outer:List Env) (s:Shared) (H:Hp) (args:Args) (us:List Value) (vs:List V) (Q:VK),Room k B → Env0 P w K mg base B outer s H → BindsTo s fd args (ps.zip us) → Vals vs us → sp vs H Q E0 →
    codeAny (model P w) (B.mark (some (.ref ea))) (.call (.ref f) args) (CR CX0 outer P w H s Q E0) s
section
variable {P:Program} {w:World} {K:PySem.W.Frag} {mg:Str → Option Value} {base:Heap}
theorem Fun.okM {x qual:Str} {st:Stmt} {f:Addr} {fd:FuncData} {N ps:List Str} {k:Nat} {sp:Sp} (F:Fun K x qual st f fd) (S:FnScope N ps (defScope st)) (len:∀ vs H Q E,sp vs H Q E → vs.length = ps.length)
    (hbody:∀ (cdv:Value) (B:Around) (ea:Addr) (outer:List Env) (s:Shared) (H:Hp) (vs:List V) (Q:VK),Room k (B.deeper (envOfC qual (defScope st) s.heap.objs.size f cdv)) → sp vs H Q E0 →
      ∃ t,PSs ((cxOf CX0 P w K mg base N qual (defScope st) f cdv B outer s H E0).hnd [] ea) (defBody st) t ∧ t { nx:=fun _ H' => Q .non H',rt:=Q } (start N vs) H):FnOkM P w K mg base (k + 1) f fd ps sp:=by
  obtain ⟨oc,od,kV,doc,pm,an,cdv,ct,osl,rfl,lk,hcd⟩:=F.ex
  refine ⟨len,fun B ea outer s H args us vs Q hr e0 hb r hsp => ?_⟩
  have hl:=len _ _ _ _ hsp
  have KX:K.In s.heap:=e0.mod.kin.keeps fun b o e => (e0.bs b o e).1
  have nl:s.heap.NoLimit:=e0.mod.nolimit.keeps fun b o e => (e0.bs b o e).1
  have kinds:∀ y ∈ ps.zip us,(defScope st).names.lookup y.1 = some .local ∨ ((defScope st).names.lookup y.1 = some .cell ∧ ((cellsFrom (s.heap.objs.size + 1) (defScope st).names []).lookup y.1).isSome = true):=fun ⟨n,v⟩ hy =>
    (S.par n (List.of_mem_zip hy).1).elim .inl fun q => .inr ⟨q,PySem.W.cellsFrom_some _ _ _ (.inl q)⟩
  refine codeAny_call_function (show (B.mark (some (.ref ea))).depth < recursionLimit from hr.depth) (KX _ _ lk) rfl S.co S.gen rfl (PySem.W.codeRec_of KX hcd) (hb _ _ _ _ ?_)
  refine wpAny_newFunctionEnv_cells S.kind kinds fun env he s1 x => ?_
  subst he
  refine ⟨nl.keeps x.toInCall.keep,codeAny_func ?_⟩
  obtain ⟨t,ht,hq⟩:=hbody cdv B ea outer s H vs Q (hr.deeper _) hsp
  have I:=(inv_start (CX:=CX0) (E:=E0) S hr.hd e0 hl r x).hnd ea
  refine wpAny_mono (ht [] s1 (start N vs) H _ I hq) (fun fl s' hs => ?_) fun e s' z => False.elim z
  cases fl with
  | ret u =>
    obtain ⟨v,σ',H',J,rv,q⟩:=hs
    exact ⟨v,H',J.os,J.bare,J.base,J.hok,rv,q⟩
  | next =>
    obtain ⟨σ',H',J,q⟩:=hs
    exact ⟨V.non,H',J.os,J.bare,J.base,J.hok,rfl,q⟩
  | brk =>
    obtain ⟨_,_,_,q⟩:=hs
    exact False.elim q
  | cont =>
    obtain ⟨_,_,_,q⟩:=hs
    exact False.elim q
end
def CalM (P:Program) (w:World) (K:PySem.W.Frag) (mg:Str → Option Value) (base:Heap) (k:Nat) (x:Str) (ps:List Str) (sp:Sp):Prop :=
  ∃ (f:Addr) (fd:FuncData),FnOkM P w K mg base k f fd ps sp ∧ mg x = some (.ref f) ∧ PySem.W.keepIn K (.ref f) = true ∧ Binds K fd ps []
section
variable {X:Cx} {pn:List (Addr × Obj)} {ea:Addr} {k k':Nat} {ps:List Str} {sp:Sp} {x:Str} {p pos:Pos} {e:Expr} {es:List Expr} {t:TA}
theorem pe_calM (c:CalM X.prog X.w X.K X.mg X.base k x ps sp) (hr:Room k' X.A) (hk:k ≤ k') (hg:Gl (X.hnd pn ea) x)
    (ha:PA (X.hnd pn ea) (e :: es) t) (hdb:(x == ("__debug__" : Str)) = false:=by decide) (he:starEach (e :: es) (X.hnd pn ea).env = (false,eval e (X.hnd pn ea).env) :: starEach es (X.hnd pn ea).env:=by rfl) (hpl:(backTo pos (starEach es (X.hnd pn ea).env)).any (·.1) = false:=by rfl) :
    PE (X.hnd pn ea) (.Call (.Name x p) (e :: es) [] pos) (tCall sp [] E0 t):=by
  obtain ⟨f,fd,F,hm,hkp,hb⟩:=c
  intro pins s σ H Q I h
  refine wpAny_Call_Name_kw (ld_glob I hg hm ?_ hdb)
  refine PySem.W.callWith_K (h₀:=X.base) I.ok.mod.kin hkp (thn (ha pos pins s σ H _ I h) fun us s1 ⟨vs,H1,I1,r,q⟩ => ⟨I1.kIn,?_⟩) he hpl
  have q':sp vs H1 Q E0:=by have q:sp (vs ++ []) H1 Q E0:=q; rw [List.append_nil] at q; exact q
  have hl:(us ++ []).length = ps.length:=by rw [List.append_nil,← r.length]; exact F.len _ _ _ _ q'
  have hbb:=hb s1 us I1.kIn hl
  rw [List.append_nil] at hbb
  have e1:=I1.env0
  have e0:Env0 X.prog X.w X.K X.mg X.base X.A X.stack s1 H1:=⟨e1.frames,e1.mod,e1.bs,e1.bsz,e1.funs,e1.frf,e1.hok,e1.bare⟩
  refine wpAny_call (codeAny_mono (F.run X.A ea X.stack s1 H1 ⟨us,[]⟩ us vs Q (hr.mono hk) e0 hbb r q') fun rr s' hq => ?_)
  cases rr with
  | error e => exact False.elim hq
  | ok fl =>
    cases fl with
    | ret u => exact I1.after hq
    | next => exact False.elim hq
    | brk => exact False.elim hq
    | cont => exact False.elim hq
end
theorem pe_xgetK {X:Cx} {K:PySem.W.Frag} {e:Expr} {f:Str} {pos:Pos} {ta:TE} (h:X.K = K) (he:PE X e ta) (hb:attributeBase e f X.env (eval e X.env) = eval e X.env):PE X (.Attribute e f pos) (tXget K ta f):=by
  subst h
  exact pe_xget he hb
end L2
set_option maxHeartbeats 4000000
namespace L2
open PySem PySem.Spec PyProof.Rows
section
variable {prog:Program} {w:World} {A:Around} {E:Value → Shared → Prop}
end
def hid (H:Hp) (ps:List Addr):Hp:=fun b => if b ∈ ps then none else H b
end L2
set_option maxHeartbeats 4000000
namespace L2
open PySem PySem.Spec PyProof.Rows
open PySem.AutoSeq1 (wpAny_loadPart')
section
variable {prog:Program} {w:World} {A:Around} {E:Value → Shared → Prop} {s:Shared}
end
section
variable {X:Cx} {l:Expr} {ta tk:TA} {kws:List Keyword} {elts:List Expr} {x1:Nat} {tp p pos kp:Pos}
end
section
variable {K:PySem.W.Frag} {a:Addr} {k:Nat} {xs:List V} {g:TG} {tb:TS} {D:Ends} {σ σ0:St} {H H1:Hp} {tests:TT} {te:TE} {Q:VK} {z:Str} {ta tk:TA}
end
end L2
set_option maxHeartbeats 4000000
namespace L2
open PySem PySem.Spec PyProof.Rows
section
variable {X:Cx} {a b:Expr} {ta tb:TE} {pos:Pos} {rest:List Expr}
section
variable {σ:St} {H:Hp} {Q:VK} {p:Addr} {xs:List V} {z:Str} {j:Nat}
theorem cw_strF {g:TG} {tests:TT} {te:TE} {σ0:St} {H1:Hp} (f:Nat → Option V) (hl:z.length < sizeLine)
    (hs:∀ (i:Nat) c Hc (A:VK) (B:Hp → Prop),z.cps.toList[i]? = some c → Same H1 Hc → (∀ Hd,Same Hc Hd → match f c with | some y => A y Hd | none => B Hd) →
      g (.str ⟨#[c]⟩) σ0 Hc fun σ2 H2 => Wk σ0 σ2 ∧ tests σ2 H2 fun b H3 => if b = true then te σ2 H3 A else B H3)
    (fin:∀ D Hd,H1 D = none → Same H1 Hd → Hd D = some (.lst (z.cps.toList.filterMap f)) → Q (.ref D) Hd):tCompW g tests te σ0 Q (Its z) H1:=by
  intro D hD
  have hzz:z.cps.size = z.length:=rfl
  have hz2:z.cps.toList.length = z.length:=by simp [Str.length]
  refine ⟨fun i m Hc => m = z.length - i ∧ i ≤ z.length ∧ Same H1 Hc ∧ Hc D = some (.lst ((z.cps.toList.take i).filterMap f)),⟨z.length,by simp,Nat.zero_le _,same_upd hD _,by rw [upd_same]; rfl⟩,?_⟩
  rintro i m Hc ⟨rfl,hi,sm,hDc⟩
  by_cases hlt:i < z.length
  · refine .inr ⟨hlt,fun v H' y => ?_⟩
    obtain ⟨rfl,c,hz,rfl⟩:=y
    have hx:z.cps.toList[i]? = some c:=by rw [Array.getElem?_toList]; exact hz
    refine hs i c H' _ _ hx sm fun Hd sd => ?_
    have hDd:Hd D = some (.lst ((z.cps.toList.take i).filterMap f)):=sd _ _ hDc
    have sH:Same H1 Hd:=sm.trans sd
    cases e:f c with
    | some y =>
      refine ⟨_,hDd,?_,z.length - (i + 1),by omega,rfl,hlt,fun b o hb => ?_,?_⟩
      · have:=List.length_filterMap_le f (z.cps.toList.take i)
        rw [List.length_take] at this
        omega
      · rw [upd_ne (ne_of_none hb hD)]; exact sH b o hb
      · rw [upd_same,List.take_add_one,hx,List.filterMap_append]
        show some (HO.lst (_ ++ [y])) = some (HO.lst (_ ++ [c].filterMap f))
        rw [List.filterMap_cons_some e,List.filterMap_nil]
    | none =>
      refine ⟨z.length - (i + 1),by omega,rfl,hlt,sH,?_⟩
      rw [hDd,List.take_add_one,hx,List.filterMap_append]
      show some (HO.lst _) = some (HO.lst (_ ++ [c].filterMap f))
      rw [List.filterMap_cons_none e,List.filterMap_nil,List.append_nil]
  · have e:i = z.length:=by omega
    subst e
    refine .inl ⟨Nat.le_refl _,fin D Hc hD sm ?_⟩
    rw [hDc,List.take_of_length_le (by omega)]
theorem cw_rangeF {g:TG} {tests:TT} {te:TE} {σ0:St} {H1:Hp} {n:Nat} {lo:Int} (f:Nat → Option V) (hl:n < sizeLine)
    (hs:∀ (i:Nat) Hc (A:VK) (B:Hp → Prop),i < n → Same H1 Hc → (∀ Hd,Same Hc Hd → match f i with | some y => A y Hd | none => B Hd) →
      g (.int (lo + i)) σ0 Hc fun σ2 H2 => Wk σ0 σ2 ∧ tests σ2 H2 fun b H3 => if b = true then te σ2 H3 A else B H3)
    (fin:∀ D Hd,H1 D = none → Same H1 Hd → Hd D = some (.lst ((List.range n).filterMap f)) → Q (.ref D) Hd):tCompW g tests te σ0 Q (Itr lo n) H1:=by
  intro D hD
  refine ⟨fun i m Hc => m = n - i ∧ i ≤ n ∧ Same H1 Hc ∧ Hc D = some (.lst ((List.range i).filterMap f)),⟨n,by simp,Nat.zero_le _,same_upd hD _,by rw [upd_same]; rfl⟩,?_⟩
  rintro i m Hc ⟨rfl,hi,sm,hDc⟩
  by_cases hlt:i < n
  · refine .inr ⟨hlt,fun v H' y => ?_⟩
    obtain ⟨rfl,rfl⟩:=y
    refine hs i H' _ _ hlt sm fun Hd sd => ?_
    have hDd:Hd D = some (.lst ((List.range i).filterMap f)):=sd _ _ hDc
    have sH:Same H1 Hd:=sm.trans sd
    cases e:f i with
    | some y =>
      refine ⟨_,hDd,?_,n - (i + 1),by omega,rfl,hlt,fun b o hb => ?_,?_⟩
      · have:=List.length_filterMap_le f (List.range i)
        rw [List.length_range] at this
        omega
      · rw [upd_ne (ne_of_none hb hD)]; exact sH b o hb
      · rw [upd_same,List.range_succ,List.filterMap_append,List.filterMap_cons_some e,List.filterMap_nil]
    | none =>
      refine ⟨n - (i + 1),by omega,rfl,hlt,sH,?_⟩
      rw [hDd,List.range_succ,List.filterMap_append,List.filterMap_cons_none e,List.filterMap_nil,List.append_nil]
  · have e:i = n:=by omega
    subst e
    exact .inl ⟨Nat.le_refl _,fin D Hc hD sm hDc⟩
end
end
end L2
set_option maxHeartbeats 4000000
namespace L2
open PySem PySem.Spec PyProof.Rows
section
variable {X:Cx}
def mEqE:R2:=fun x y H Q => ∃ p q xs,x = .ref p ∧ y = .ref q ∧ rdL H p = some xs ∧ rdL H q = some [] ∧ Q (.bl xs.isEmpty) H
theorem m_eqE (hu:X.A.units < cLine):OpR X (compareOp .Eq) mEqE:=by
  intro pins s σ H x y v u Q I rx ry h
  obtain ⟨p,q,xs,rfl,rfl,hp,hq,k⟩:=h
  cases rx
  cases ry
  obtain ⟨its,r1,l1,_⟩:=I.list (rdL_sq hp)
  obtain ⟨its2,r2,l2,_⟩:=I.list (rdL_sq hq)
  have e1:=r1.length
  have e2:=r2.length
  cases xs with
  | nil =>
    have z1:its.length = 0:=e1.symm
    have z2:its2.length = 0:=e2.symm
    refine SeqAt.eq_listAt (e:=fun j => true) l1.isList l2.isList (by simp only [List.size_toArray]; omega) hu (fun j h1 h2 => ?_) ?_
    · have h1':j < its.length:=by simpa using h1
      omega
    · refine ⟨.bl true,H,I,?_,k⟩
      show Value.bool _ = Value.bool true
      simp
  | cons x0 xr =>
    rw [List.length_cons] at e1
    have z2:its2.length = 0:=e2.symm
    exact SeqAt.eq_list_lengthsAt l1.isList l2.isList (by simp only [List.size_toArray,bne_iff_ne]; omega) hu ⟨.bl false,H,I,rfl,k⟩
section
variable {H:Hp} {Q:VK} {a:Addr} {kvs:List (Key × V)} {z:Str}
theorem cw_listS {K:PySem.W.Frag} {g:TG} {tests:TT} {te:TE} {σ0:St} {H1:Hp} {xs:List V} (f:V → Option V) (ha:rdL H1 a = some xs) (hl:xs.length < sizeLine)
    (hs:∀ (i:Nat) x Hc (A:VK) (B:Hp → Prop),xs[i]? = some x → Same H1 Hc → (∀ Hd,Same Hc Hd → match f x with | some y => A y Hd | none => B Hd) →
      g x σ0 Hc fun σ2 H2 => Wk σ0 σ2 ∧ tests σ2 H2 fun b H3 => if b = true then te σ2 H3 A else B H3)
    (fin:∀ D Hd,H1 D = none → Same H1 Hd → Hd D = some (.lst (xs.filterMap f)) → Q (.ref D) Hd):tCompW g tests te σ0 Q (Itl K a) H1:=by
  intro D hD
  refine ⟨fun i m Hc => m = xs.length - i ∧ i ≤ xs.length ∧ Same H1 Hc ∧ Hc D = some (.lst ((xs.take i).filterMap f)),⟨xs.length,by simp,Nat.zero_le _,same_upd hD _,by rw [upd_same]; rfl⟩,?_⟩
  rintro i m Hc ⟨rfl,hi,sm,hDc⟩
  have hr:=rdL_keep sm ha
  by_cases hlt:i < xs.length
  · refine .inr ⟨⟨xs,xs[i],rdL_sq hr,by simp [hlt]⟩,fun v H' y => ?_⟩
    obtain ⟨rfl,hz⟩:=y
    have hx:xs[i]? = some v:=hz xs (rdL_sq hr)
    refine hs i v H' _ _ hx sm fun Hd sd => ?_
    have hDd:Hd D = some (.lst ((xs.take i).filterMap f)):=sd _ _ hDc
    have sH:Same H1 Hd:=sm.trans sd
    cases e:f v with
    | some y =>
      refine ⟨_,hDd,?_,xs.length - (i + 1),by omega,rfl,hlt,fun b o hb => ?_,?_⟩
      · have:=List.length_filterMap_le f (xs.take i)
        rw [List.length_take] at this
        omega
      · rw [upd_ne (ne_of_none hb hD)]; exact sH b o hb
      · rw [upd_same,List.take_add_one,hx,List.filterMap_append]
        show some (HO.lst (_ ++ [y])) = some (HO.lst (_ ++ [v].filterMap f))
        rw [List.filterMap_cons_some e,List.filterMap_nil]
    | none =>
      refine ⟨xs.length - (i + 1),by omega,rfl,hlt,sH,?_⟩
      rw [hDd,List.take_add_one,hx,List.filterMap_append]
      show some (HO.lst _) = some (HO.lst (_ ++ [v].filterMap f))
      rw [List.filterMap_cons_none e,List.filterMap_nil,List.append_nil]
  · have e:i = xs.length:=by omega
    subst e
    refine .inl ⟨⟨xs,rdL_sq hr,Nat.le_refl _⟩,fin D Hc hD sm ?_⟩
    rw [hDc,List.take_of_length_le (by omega)]
theorem s_eqE {p q:Addr} {xs:List V} (e:rdL H p = some xs) (e':rdL H q = some []) (h:Q (.bl xs.isEmpty) H):mEqE (.ref p) (.ref q) H Q:=⟨p,q,xs,rfl,rfl,e,e',h⟩
end
end
end L2
set_option maxHeartbeats 4000000
namespace L2
open PySem PySem.Spec PyProof.Rows PySem.Builtin PySem.Builtin.Str
section
variable {X:Cx}
theorem vals_strs:∀ l:List (Str × Tok),Vals ((l.map (·.1)).map V.str) (strValues l)
  | [] => .nil
  | p :: r => .cons ⟨p.2,rfl⟩ (vals_strs r)
def mSplit:V → List V → Hp → VK → Prop:=fun x vs H Q => ∃ z y:Str,x = .str z ∧ vs = [.str y] ∧ (y.length == 0) = false ∧ z.length + 2 ≤ sizeLine ∧ ∀ l,H l = none → Q (.ref l) (upd H l (.lst ((Txt.split z y).map V.str)))
theorem m_split:MtR X "str.split" mSplit:=by
  intro pins s σ H x vs v us Q I rx rv h
  obtain ⟨z,y,rfl,rfl,hy,hsz,q⟩:=h
  obtain ⟨t,rfl⟩:=rx
  obtain ⟨u,rfl,ru⟩:=rv.one
  obtain ⟨u,rfl⟩:=ru
  have hn:(partsBetween z (occurrences z y 0 z.length (z.length + 1)) y.length).length ≤ sizeLine:=by
    have e1:=StrLaws.occ_length_le z y 0 z.length (z.length + 1)
    rw [length_partsBetween]; omega
  have fin:∀ (l:List (Str × Tok)) (k:Nat),l.map (·.1) = Txt.split z y → (Txt.split z y).length ≤ sizeLine → EP X pins σ Q (.ref s.heap.objs.size) { s with heap:=s.heap.push { cls:=.type "list",data:=.seq (strValues l).toArray },toks:=k }:=fun l k e hl =>
    ⟨.ref _,_,I.lnew (ys:=(Txt.split z y).map V.str) (t':=k) (by rw [← e]; exact vals_strs l) (by rw [List.length_map]; exact hl),rfl,q _ I.fresh⟩
  cases h1:(decide (z.length < y.length) || decide (strKind z < strKind y))
  · cases hf:(occurrences z y 0 z.length (z.length + 1)).isEmpty
    · have es:Txt.split z y = partsBetween z (occurrences z y 0 z.length (z.length + 1)) y.length:=(if_neg (ne_true_of_eq_false h1)).trans (if_neg (ne_true_of_eq_false hf))
      refine call_meets F.slot_str_split (typeIs_str _ _ _) F.entry_str_split (F.args_str_split_2 _ _) (meets_str_split_sep z y t u h1 hy hf (by omega) hn) ?_
      show wants _ _ _ { s with toks:=_,heap:=s.heap.push { cls:=.type "list",data:=.seq (strsFrom s.toks (partsBetween z (occurrences z y 0 z.length (z.length + 1)) y.length)).toArray } }
      rw [strsFrom_eq]
      exact fin (numbered s.toks _) _ ((numbered_texts _ _).trans es.symm) (by rw [es]; exact hn)
    · have es:Txt.split z y = [z]:=(if_neg (ne_true_of_eq_false h1)).trans (if_pos hf)
      exact call_meets F.slot_str_split (typeIs_str _ _ _) F.entry_str_split (F.args_str_split_2 _ _) (meets_str_split_not_found z y t u h1 hy hf)
        (fin [(z,t)] s.toks es.symm (by rw [es]; exact len_line (by show 1 ≤ _; omega)))
  · have es:Txt.split z y = [z]:=if_pos h1
    exact call_meets F.slot_str_split (typeIs_str _ _ _) F.entry_str_split (F.args_str_split_2 _ _) (meets_str_split_cannot_occur z y t u h1)
      (fin [(z,t)] s.toks es.symm (by rw [es]; exact len_line (by show 1 ≤ _; omega)))
end
def jc:List (List Nat) → List Nat
  | [] => []
  | [t] => t
  | t :: u :: r => t ++ 32 :: jc (u :: r)
theorem join_jc:∀ L:List Str,(Str.join ⟨#[32]⟩ L).cps.toList = jc (L.map fun z => z.cps.toList)
  | [] => rfl
  | [z] => rfl
  | z :: y :: r => by
    have e:Str.join ⟨#[32]⟩ (z :: y :: r) = z ++ ⟨#[32]⟩ ++ Str.join ⟨#[32]⟩ (y :: r):=rfl
    rw [e,FlT.app_cps,FlT.app_cps,join_jc (y :: r)]
    show z.cps.toList ++ [32] ++ _ = z.cps.toList ++ 32 :: _
    rw [List.append_assoc]
    rfl
theorem blank_inj:∀ (t u a b:List Nat),32 ∉ t → 32 ∉ u → t ++ 32 :: a = u ++ 32 :: b → t = u ∧ a = b
  | [],[],a,b,_,_,h => by injection h with _ h; exact ⟨rfl,h⟩
  | [],c :: u,a,b,_,h2,h => by injection h with h _; exact absurd (by rw [h]; exact List.mem_cons_self) h2
  | c :: t,[],a,b,h1,_,h => by injection h with h _; exact absurd (by rw [← h]; exact List.mem_cons_self) h1
  | c :: t,d :: u,a,b,h1,h2,h => by
    injection h with e h
    obtain ⟨e1,e2⟩:=blank_inj t u a b (fun m => h1 (List.mem_cons_of_mem _ m)) (fun m => h2 (List.mem_cons_of_mem _ m)) h
    exact ⟨by rw [e,e1],e2⟩
theorem jc_inj:∀ (L M:List (List Nat)),L ≠ [] → M ≠ [] → (∀ t ∈ L,32 ∉ t) → (∀ t ∈ M,32 ∉ t) → jc L = jc M → L = M
  | [],_,h,_,_,_,_ => absurd rfl h
  | _ :: _,[],_,h,_,_,_ => absurd rfl h
  | [t],[u],_,_,_,_,h => by rw [show t = u from h]
  | [t],u :: v :: r,_,_,h1,_,h => by
    have e:t = u ++ 32 :: jc (v :: r):=h
    exact absurd (by rw [e]; exact List.mem_append_right _ List.mem_cons_self) (h1 t List.mem_cons_self)
  | t :: u :: r,[v],_,_,_,h2,h => by
    have e:t ++ 32 :: jc (u :: r) = v:=h
    exact absurd (by rw [← e]; exact List.mem_append_right _ List.mem_cons_self) (h2 v List.mem_cons_self)
  | t :: u :: r,v :: w :: q,_,_,h1,h2,h => by
    obtain ⟨e1,e2⟩:=blank_inj t v _ _ (h1 t List.mem_cons_self) (h2 v List.mem_cons_self) h
    rw [e1,jc_inj (u :: r) (w :: q) (fun z => nomatch z) (fun z => nomatch z) (fun x hx => h1 x (List.mem_cons_of_mem _ hx)) (fun x hx => h2 x (List.mem_cons_of_mem _ hx)) e2]
theorem split_ne (x y:Str):Txt.split x y ≠ []:=by
  unfold Txt.split
  split
  · exact fun z => nomatch z
  · split
    · exact fun z => nomatch z
    · intro z
      have:=congrArg List.length z
      rw [length_partsBetween] at this
      cases this
theorem split_join {L:List Str} (hn:L ≠ []) (hf:∀ z ∈ L,32 ∉ z.cps.toList):Txt.split (Txt.join ⟨#[32]⟩ L) ⟨#[32]⟩ = L:=by
  have e1:=StrLaws.join_split (Txt.join ⟨#[32]⟩ L) ⟨#[32]⟩
  have f1:=StrLaws.split_free (Txt.join ⟨#[32]⟩ L) 32
  have n1:=split_ne (Txt.join ⟨#[32]⟩ L) ⟨#[32]⟩
  have e2:Txt.join ⟨#[32]⟩ L = Str.join ⟨#[32]⟩ L:=StrLaws.glued_eq_join _ _
  generalize Txt.split (Txt.join ⟨#[32]⟩ L) ⟨#[32]⟩ = M at e1 f1 n1 ⊢
  rw [e2] at e1
  have e3:=congrArg (fun z:Str => z.cps.toList) e1
  rw [join_jc,join_jc] at e3
  have q:=jc_inj _ _ (by intro z; exact n1 (List.map_eq_nil_iff.mp z)) (by intro z; exact hn (List.map_eq_nil_iff.mp z)) (fun t ht => by obtain ⟨z,hz,rfl⟩:=List.mem_map.mp ht; exact f1 z hz) (fun t ht => by obtain ⟨z,hz,rfl⟩:=List.mem_map.mp ht; exact hf z hz) e3
  exact List.map_inj_right (fun a b h => FlT.str_ext h) |>.mp q
end L2
set_option maxHeartbeats 1000000
namespace L2
open PySem PySem.Spec PyProof.Rows
section
variable {X:Cx}
end
end L2
namespace L2
open PySem PySem.Spec PyProof.Rows
section
variable {prog:Program} {w:World} {A:Around} {R:Result → Shared → Prop} {J:Addr} {us ws:List Addr} {n:Nat} {P:Nat → Value → Prop} {St:Nat → Heap → Prop} {d:Value}
end
section
variable {prog:Program} {w:World} {A:Around} {E:Value → Shared → Prop} {s:Shared}
end
section
variable {X:Cx} {l:Expr} {ta:TA} {tk:TA} {p pos kp:Pos}
end
end L2
namespace L2
open PySem PySem.Spec PyProof.Rows
section
variable {X:Cx} {tg a b c:Expr} {p pos:Pos}
end
end L2
set_option maxHeartbeats 4000000
namespace L2
open PySem PySem.Spec PyProof.Rows
section
variable {g:TG} {tests:TT} {te:TE} {σ0:St} {Q:VK} {H1:Hp}
theorem range_fm_some {f:Nat → Option V} {i:Nat} {y:V} (h:f i = some y):(List.range (i + 1)).filterMap f = (List.range i).filterMap f ++ [y]:=by
  rw [List.range_succ,List.filterMap_append,List.filterMap_cons_some h,List.filterMap_nil]
theorem range_fm_none {f:Nat → Option V} {i:Nat} (h:f i = none):(List.range (i + 1)).filterMap f = (List.range i).filterMap f:=by
  rw [List.range_succ,List.filterMap_append,List.filterMap_cons_none h,List.filterMap_nil,List.append_nil]
theorem cw_listX {K:PySem.W.Frag} {a:Addr} {xs:List V} (f:Nat → Option V) (ha:rdL H1 a = some xs) (hl:xs.length < sizeLine)
    (hs:∀ (i:Nat) x Hc (A:VK) (B:Hp → Prop),xs[i]? = some x → Same H1 Hc → (∀ y,f i = some y → ∀ Hd,Same Hc Hd → A y Hd) → (f i = none → ∀ Hd,Same Hc Hd → B Hd) →
      g x σ0 Hc fun σ2 H2 => Wk σ0 σ2 ∧ tests σ2 H2 fun b H3 => if b = true then te σ2 H3 A else B H3)
    (fin:∀ D Hd,H1 D = none → Same H1 Hd → Hd D = some (.lst ((List.range xs.length).filterMap f)) → Q (.ref D) Hd):tCompW g tests te σ0 Q (Itl K a) H1:=by
  refine cw_gen (n:=xs.length) (fun D i ys Hc => Same H1 Hc ∧ ys = (List.range i).filterMap f) hl (fun D hD => ⟨same_upd hD _,rfl⟩)
    (fun D i ys Hc _ r h => ⟨xs,xs[i],rdL_sq (rdL_keep r.1 ha),by simp [h]⟩) (fun D ys Hc _ r => ⟨xs,rdL_sq (rdL_keep r.1 ha),Nat.le_refl _⟩) ?_ ?_
  · rintro D i ys Hc x H' A B hD hi ⟨sm,rfl⟩ hDc ⟨rfl,hz⟩ ha' hb
    refine hs i x H' A B (hz xs (rdL_sq (rdL_keep sm ha))) sm (fun y hy Hd sd => ?_) (fun hn Hd sd => ?_)
    · exact ha' _ _ (sd _ _ hDc) ⟨same_put hD (sm.trans sd),(range_fm_some hy).symm⟩
    · exact hb _ (sd _ _ hDc) ⟨sm.trans sd,(range_fm_none hn).symm⟩
  · rintro D ys Hc hD ⟨sm,rfl⟩ hDc _
    exact fin D Hc hD sm hDc
end
section
variable {X:Cx} {e:Expr} {te:TE} {p2 pos pu pc:Pos} {j:Nat}
end
end L2
set_option maxHeartbeats 4000000
namespace L2
open PySem PySem.Spec PyProof.Rows
section
variable {X:Cx}
end
end L2
set_option maxHeartbeats 4000000
namespace L2
open PySem PySem.Spec PyProof.Rows PySem.Builtin PySem.Builtin.Str
section
variable {X:Cx}
def partL (z y:Str):List V:=[.str (Txt.partition z y).1,.str (Txt.partition z y).2.1,.str (Txt.partition z y).2.2]
def mPartition:V → List V → Hp → VK → Prop:=fun x vs H Q => ∃ z y:Str,x = .str z ∧ vs = [.str y] ∧ (y.length == 0) = false ∧ z.length ≤ sizeLine ∧ ∀ p,H p = none → Q (.ref p) (upd H p (.tup (partL z y)))
theorem m_partition:MtR X "str.partition" mPartition:=by
  intro pins s σ H x vs v us Q I rx rv h
  obtain ⟨z,y,rfl,rfl,hy,hsz,q⟩:=h
  obtain ⟨t,rfl⟩:=rx
  obtain ⟨u,rfl,ru⟩:=rv.one
  obtain ⟨u,rfl⟩:=ru
  refine call_meets F.slot_str_partition (typeIs_str _ _ _) F.entry_str_partition (F.args_str_partition_2 _ _) (meets_str_partition z y t u hy hsz) ?_
  have ep:Txt.partition z y = match occurrences z y 0 z.length 1 with | i :: _ => (strSub z 0 i,y,strSub z (i + y.length) z.length) | [] => (z,Str.empty,Str.empty):=rfl
  unfold partL at q
  cases e:occurrences z y 0 z.length 1 with
  | nil =>
    rw [e] at ep
    rw [ep] at q
    refine ⟨.ref s.heap.objs.size,_,I.laid (t':=_) (o:=.tup [.str z,.str Str.empty,.str Str.empty]) (fun b ob q => Heap.get?_push_of_some _ q) (Nat.le_refl _) ?_,rfl,q _ I.fresh⟩
    exact ⟨len_line (by show 3 ≤ _; omega),[.str z t,.str Str.empty s.toks,.str Str.empty s.toks],.cons ⟨_,rfl⟩ (.cons ⟨_,rfl⟩ (.cons ⟨_,rfl⟩ .nil)),_,Heap.get?_push_size _ rfl,rfl,_,rfl⟩
  | cons i r =>
    rw [e] at ep
    rw [ep] at q
    refine ⟨.ref s.heap.objs.size,_,I.laid (t':=_) (o:=.tup [.str (strSub z 0 i),.str y,.str (strSub z (i + y.length) z.length)]) (fun b ob q => Heap.get?_push_of_some _ q) (Nat.le_refl _) ?_,rfl,q _ I.fresh⟩
    exact ⟨len_line (by show 3 ≤ _; omega),[.str (strSub z 0 i) s.toks,.str y u,.str (strSub z (i + y.length) z.length) (s.toks + 1)],.cons ⟨_,rfl⟩ (.cons ⟨_,rfl⟩ (.cons ⟨_,rfl⟩ .nil)),_,Heap.get?_push_size _ rfl,rfl,_,rfl⟩
end
theorem part_at {z m:Str} {c:Nat} (h:c ∉ z.cps.toList):Txt.partition (z ++ ⟨#[c]⟩ ++ m) ⟨#[c]⟩ = (z,⟨#[c]⟩,m):=by
  have ex:(z ++ ⟨#[c]⟩ ++ m).cps.toList = z.cps.toList ++ c :: m.cps.toList:=by
    rw [FlT.app_cps,FlT.app_cps,List.append_assoc]
    rfl
  have at1:∀ i,StrLaws.At (z ++ ⟨#[c]⟩ ++ m) ⟨#[c]⟩ (z ++ ⟨#[c]⟩ ++ m).length i ↔ (z.cps.toList ++ c :: m.cps.toList)[i]? = some c:=fun i => by
    rw [← ex]
    exact StrLaws.subAt_one _ c i
  have hz:(z.cps.toList ++ c :: m.cps.toList)[z.cps.toList.length]? = some c:=by
    rw [List.getElem?_append_right (Nat.le_refl _),Nat.sub_self]
    rfl
  unfold Txt.partition
  rcases StrLaws.occ_head (z ++ ⟨#[c]⟩ ++ m) ⟨#[c]⟩ 1 (Nat.le_refl 1) with ⟨h0,hn⟩ | ⟨i,r,h0,hi,hn⟩
  · exact absurd ((at1 _).mpr hz) (hn _)
  · rw [h0]
    have e1:i = z.cps.toList.length:=by
      have l1:¬ i < z.cps.toList.length:=fun hlt => by
        have q:=(at1 i).mp hi
        rw [List.getElem?_append_left hlt] at q
        exact h (List.mem_of_getElem? q)
      have l2:¬ z.cps.toList.length < i:=fun hlt => hn _ hlt ((at1 _).mpr hz)
      omega
    subst e1
    have s1:strSub (z ++ ⟨#[c]⟩ ++ m) 0 z.cps.toList.length = z:=by
      refine FlT.str_ext ?_
      unfold strSub
      rw [Array.toList_extract,ex]
      simp
    have s2:strSub (z ++ ⟨#[c]⟩ ++ m) (z.cps.toList.length + (⟨#[c]⟩:Str).length) (z ++ ⟨#[c]⟩ ++ m).length = m:=by
      refine FlT.str_ext ?_
      unfold strSub
      rw [Array.toList_extract,ex]
      have hl:(z ++ ⟨#[c]⟩ ++ m).length = z.cps.toList.length + 1 + m.cps.toList.length:=by
        show (z ++ ⟨#[c]⟩ ++ m).cps.size = _
        rw [← Array.length_toList,ex,List.length_append,List.length_cons]
        omega
      rw [hl,show (⟨#[c]⟩:Str).length = 1 from rfl]
      rw [List.extract_eq_drop_take,show z.cps.toList ++ c :: m.cps.toList = (z.cps.toList ++ [c]) ++ m.cps.toList by rw [List.append_assoc]; rfl,show z.cps.toList.length + 1 = (z.cps.toList ++ [c]).length by rw [List.length_append]; rfl,List.drop_left,List.take_of_length_le (by omega)]
    show (strSub _ 0 _,_,strSub _ _ _) = _
    rw [s1,s2]
def jcC (c:Nat):List (List Nat) → List Nat
  | [] => []
  | [t] => t
  | t :: u :: r => t ++ c :: jcC c (u :: r)
theorem join_jcC (c:Nat):∀ L:List Str,(Str.join ⟨#[c]⟩ L).cps.toList = jcC c (L.map fun z => z.cps.toList)
  | [] => rfl
  | [z] => rfl
  | z :: y :: r => by
    have e:Str.join ⟨#[c]⟩ (z :: y :: r) = z ++ ⟨#[c]⟩ ++ Str.join ⟨#[c]⟩ (y :: r):=rfl
    rw [e,FlT.app_cps,FlT.app_cps,join_jcC c (y :: r)]
    show z.cps.toList ++ [c] ++ _ = z.cps.toList ++ c :: _
    rw [List.append_assoc]
    rfl
theorem sign_inj {k:Nat}:∀ (t u a b:List Nat),k ∉ t → k ∉ u → t ++ k :: a = u ++ k :: b → t = u ∧ a = b
  | [],[],a,b,_,_,h => by injection h with _ h; exact ⟨rfl,h⟩
  | [],c :: u,a,b,_,h2,h => by injection h with h _; exact absurd (by rw [h]; exact List.mem_cons_self) h2
  | c :: t,[],a,b,h1,_,h => by injection h with h _; exact absurd (by rw [← h]; exact List.mem_cons_self) h1
  | c :: t,d :: u,a,b,h1,h2,h => by
    injection h with e h
    obtain ⟨e1,e2⟩:=sign_inj t u a b (fun m => h1 (List.mem_cons_of_mem _ m)) (fun m => h2 (List.mem_cons_of_mem _ m)) h
    exact ⟨by rw [e,e1],e2⟩
theorem jcC_inj {c:Nat}:∀ (L M:List (List Nat)),L ≠ [] → M ≠ [] → (∀ t ∈ L,c ∉ t) → (∀ t ∈ M,c ∉ t) → jcC c L = jcC c M → L = M
  | [],_,h,_,_,_,_ => absurd rfl h
  | _ :: _,[],_,h,_,_,_ => absurd rfl h
  | [t],[u],_,_,_,_,h => by rw [show t = u from h]
  | [t],u :: v :: r,_,_,h1,_,h => by
    have e:t = u ++ c :: jcC c (v :: r):=h
    exact absurd (by rw [e]; exact List.mem_append_right _ List.mem_cons_self) (h1 t List.mem_cons_self)
  | t :: u :: r,[v],_,_,_,h2,h => by
    have e:t ++ c :: jcC c (u :: r) = v:=h
    exact absurd (by rw [← e]; exact List.mem_append_right _ List.mem_cons_self) (h2 v List.mem_cons_self)
  | t :: u :: r,v :: w :: q,_,_,h1,h2,h => by
    obtain ⟨e1,e2⟩:=sign_inj t v _ _ (h1 t List.mem_cons_self) (h2 v List.mem_cons_self) h
    rw [e1,jcC_inj (u :: r) (w :: q) (fun z => nomatch z) (fun z => nomatch z) (fun x hx => h1 x (List.mem_cons_of_mem _ hx)) (fun x hx => h2 x (List.mem_cons_of_mem _ hx)) e2]
theorem split_joinC {c:Nat} {L:List Str} (hn:L ≠ []) (hf:∀ z ∈ L,c ∉ z.cps.toList):Txt.split (Txt.join ⟨#[c]⟩ L) ⟨#[c]⟩ = L:=by
  have e1:=StrLaws.join_split (Txt.join ⟨#[c]⟩ L) ⟨#[c]⟩
  have f1:=StrLaws.split_free (Txt.join ⟨#[c]⟩ L) c
  have n1:=split_ne (Txt.join ⟨#[c]⟩ L) ⟨#[c]⟩
  have e2:Txt.join ⟨#[c]⟩ L = Str.join ⟨#[c]⟩ L:=StrLaws.glued_eq_join _ _
  generalize Txt.split (Txt.join ⟨#[c]⟩ L) ⟨#[c]⟩ = M at e1 f1 n1 ⊢
  rw [e2] at e1
  have e3:=congrArg (fun z:Str => z.cps.toList) e1
  rw [join_jcC,join_jcC] at e3
  have q:=jcC_inj _ _ (by intro z; exact n1 (List.map_eq_nil_iff.mp z)) (by intro z; exact hn (List.map_eq_nil_iff.mp z)) (fun t ht => by obtain ⟨z,hz,rfl⟩:=List.mem_map.mp ht; exact f1 z hz) (fun t ht => by obtain ⟨z,hz,rfl⟩:=List.mem_map.mp ht; exact hf z hz) e3
  exact List.map_inj_right (fun a b h => FlT.str_ext h) |>.mp q
end L2
set_option maxHeartbeats 4000000
namespace L2
open PySem PySem.Spec PyProof.Rows
section
variable {prog:Program} {w:World} {A:Around} {E:Value → Shared → Prop} {s:Shared} {jt dq:Addr} {n0 ep:Nat} {en:Array DictEntry} {od:Obj}
end
section
variable {prog:Program} {w:World} {A:Around} {E:Value → Shared → Prop} {s:Shared} {dq:Addr} {en:Array DictEntry} {ep:Nat} {od:Obj}
end
section
variable {X:Cx} {tg:Expr} {pins:List (Addr × Obj)} {σ:St} {H:Hp} {s:Shared} {a:Addr}
end
section
variable {σ:St} {H:Hp} {Q:VK} {D:Ends} {a b:Addr} {kvs:List (List Key × V)} {k:List Key} {v w:V} {tl:TE} {R:It → Hp → Prop} {g:TG} {tb:TS} {o:Obj}
end
section
variable {X:Cx}
end
section
variable {H:Hp} {Q:VK} {a:Addr} {kvs:List (Key × V)} {z:Str}
end
section
variable {X:Cx}
end
end L2
set_option maxHeartbeats 4000000
namespace L2
open PySem PySem.Spec PyProof.Rows
open PySem.AutoSeq1 (wpAny_loadPart')
open PySem.MeetsSeq PySem.MeetsSeq2 PySem.MeetsSeq3
def EqB (P:Program) (w:World) (A:Around) (s:Shared) (u v:Value):Prop:=∃ b:Bool,∀ (E:Value → Shared → Prop) (Q:Bool → Shared → Prop),Q b s → wpAny (model P w) A (eqBool u v) Q E s
section
variable {P:Program} {w:World} {A:Around} {E:Value → Shared → Prop} {s:Shared} {l:Addr} {xs:Array Value}
theorem EqB.same (u:Value):EqB P w A s u u:=⟨true,fun E Q hq => SeqAt.EqAt.same u P w E Q hq⟩
end
section
variable {X:Cx}
end
section
variable {X:Cx} {l:Expr} {ta:TA} {elts:List Expr} {x1:Nat} {tp p pos:Pos}
end
end L2
set_option maxHeartbeats 4000000
namespace L2
open PySem PySem.Spec PyProof.Rows
section
variable {prog:Program} {w:World} {A:Around} {E:Value → Shared → Prop} {s:Shared}
def CtxNone (h:Heap) (ea:Addr):Prop:=∃ o fs,h.get? ea = some o ∧ o.data = .fields fs ∧ fs[2]? = some .none
theorem CtxNone.ext {h h':Heap} {ea:Addr} (c:CtxNone h ea) (k:∀ o,h.get? ea = some o → h'.get? ea = some o):CtxNone h' ea:=by
  obtain ⟨o,fs,h1,h2,h3⟩:=c
  exact ⟨o,fs,k o h1,h2,h3⟩
end
end L2
set_option maxHeartbeats 4000000
namespace L2
open PySem PySem.Spec PyProof.Rows
section
variable {X:Cx} {pins:List (Addr × Obj)} {σ:St} {H:Hp} {s:Shared} {ea:Addr}
end
section
variable {prog:Program} {w:World} {A:Around} {E:Value → Shared → Prop} {s:Shared}
theorem CtxNone.some {h:Heap} {ea:Addr} (c:CtxNone h ea):∃ o,h.get? ea = Option.some o:=by
  obtain ⟨o,_,e,_⟩:=c
  exact ⟨o,e⟩
end
end L2
set_option maxHeartbeats 4000000
namespace L2
open PySem PySem.Spec PyProof.Rows
section
variable {X:Cx} {tg:Expr}
end
section
variable {X:Cx} {tg l a b:Expr} {tl ta tb:TE} {p pos:Pos}
end
end L2
set_option maxHeartbeats 4000000
namespace L2
open PySem PySem.Spec PyProof.Rows
section
variable {P:Program} {w:World} {K:PySem.W.Frag} {mg:Str → Option Value} {base:Heap}
end
section
variable {X:Cx} {pn:List (Addr × Obj)} {ea:Addr} {k k':Nat} {ps:List Str} {sp:Sp} {x:Str} {p pos:Pos} {e:Expr} {es:List Expr} {t:TA}
end
section
variable {X:Cx} {pins:List (Addr × Obj)}
end
end L2
set_option maxHeartbeats 4000000
namespace L2
open PySem PySem.Spec PyProof.Rows
section
variable {M:Model} {A:Around} {E:Value → Shared → Prop} {s:Shared} {B:Heap} {env:Env} {outer l:List Env} {L e:Addr} {cls fl:Value} {d:Option Addr} {Q:Unit → Shared → Prop}
theorem fly_flightA {o:Option Addr} (F:Fly B l e cls d fl s.heap) (hQ:∀ h' fl',Fly B l e cls d fl' h' → s.heap.UpToSlots h' → Q () { s with heap:=h' }):wpAny M A (setFlight (.ref e) o) Q E s:=by
  obtain ⟨hB,hn,hl,oe,vs,T,oT,ts,he,hc,hd,h1,hT,hTe,gT,dT,t3,c2⟩:=F
  have z3:3 < ts.size:=(Array.getElem?_eq_some_iff.mp t3).1
  unfold setFlight
  refine wpAny_bind (wpAny_field he hd h1 ?_)
  rw [if_pos (show (Value.ref T != Value.none) = true by simp)]
  refine wpAny_setField gT dT z3 (hQ _ (o.elim .none fun f => rawInt f) ?_ fun b o q nf => ⟨o.slots,up_ne gT dT b o q nf⟩)
  have dm:=Obj.data_mapFields dT (·.setIfInBounds 3 (o.elim Value.none fun f => rawInt f))
  refine ⟨fun b u q => ?_,hn,hl.of_keeps fun b u q nf => ⟨u,up_ne gT dT b u q nf,rfl⟩,oe,vs,T,_,_,?_,hc,hd,h1,hT,hTe,Heap.get?_update_self _ gT (Obj.isFreed_of_fields dm),dm,by simp [z3],c2⟩
  · rw [Heap.get?_update_other _ _ (fun z:T = b => by rw [← z,hT] at q; cases q)]
    exact hB b u q
  · rw [Heap.get?_update_other _ _ hTe]
    exact he
theorem fly_passOn {α:Type} {what:String} {cenv:Env} {Q:α → Shared → Prop} (F:Fly B l e cls d fl s.heap) (hE:∀ h' fl',Fly B l e cls d fl' h' → s.heap.UpToSlots h' → E (.ref e) { s with heap:=h' }) :
    wpAny M A (passOn what (.ref e) cenv:Sem α) Q E s:=by
  obtain ⟨oe,vs,T,oT,ts,he,hc,hd,h1,_⟩:=id F.on
  unfold PySem.passOn
  refine wpAny_bind (wpAny_field he hd h1 ?_)
  rw [if_neg (show ¬ ((Value.ref T == Value.none) = true) by simp)]
  exact wpAny_bind (fly_flightA F fun h' fl' F' up => wpAny_throw (hE h' fl' F' up))
theorem Fly.hid {h h':Heap} {C:Addr} {oC:Obj} (F:Fly B l e cls d fl h) (hC:B.get? C = some oC) (sb:Heap.SameBut C h h'):Fly (PySem.W.hideAll B [C]) l e cls d fl h':=by
  have nC:∀ b,B.get? b = none → b ≠ C:=fun b hb z => by rw [z,hC] at hb; cases hb
  have gone:∀ b,B.get? b = none → (PySem.W.hideAll B [C]).get? b = none:=fun b hb => by
    cases q:(PySem.W.hideAll B [C]).get? b with
    | none => rfl
    | some o =>
      have:=PySem.W.of_hideAll _ q
      rw [hb] at this
      cases this
  obtain ⟨hB,hn,hl,oe,vs,T,oT,ts,he,hc,hd,h1,hT,hTe,gT,r⟩:=F
  refine ⟨fun b o q => ?_,gone e hn,?_,oe,vs,T,oT,ts,(sb.2 e (nC e hn)).trans he,hc,hd,h1,gone T hT,hTe,(sb.2 T (nC T hT)).trans gT,r⟩
  · have hb:b ≠ C:=fun z => by
      rw [z,PySem.W.hideAll_none _ List.mem_cons_self] at q
      cases q
    exact (sb.2 b hb).trans (hB b o (PySem.W.of_hideAll _ q))
  · have all:∀ l:List Env,h.FunFrames B l → h'.FunFrames (PySem.W.hideAll B [C]) l:=fun l => by
      induction l with
      | nil => exact fun _ => trivial
      | cons env r ih => exact fun ⟨hk,⟨L,o,hf,hn,ho,hd⟩,hr⟩ => ⟨hk,⟨L,o,hf,gone L hn,(sb.2 L (nC L hn)).trans ho,hd⟩,ih hr⟩
    exact all l hl
end
def LX (X:Cx) (Ex:XK):Value → Shared → Prop:=fun e s' => ∃ ea cls d B H' fl,e = .ref ea ∧ s'.os = X.s₀.os ∧ AllBare s'.gens ∧ Fly B X.stack ea cls d fl s'.heap ∧ HOk X.prog X.w H' B ∧ UnB X.fs X.H₀ H' X.s₀.heap B s'.heap ∧ Ex cls d H'
def Late (X:Cx) (Ex:XK):Prop:=∀ e s',X.Ok → LX X Ex e s' → X.xe e s'
def CErr (X:Cx) (Ex:XK) (C:Addr) (e:Value) (s':Shared):Prop:=∃ ea cls d B H' fl m,e = .ref ea ∧ s'.os = X.s₀.os ∧ AllBare s'.gens ∧ Fly B X.stack ea cls d fl s'.heap ∧ B.Ns C m ∧ HOk X.prog X.w H' B ∧ H' C = none ∧ UnB X.fs X.H₀ H' X.s₀.heap B s'.heap ∧ X.s₀.heap.objs.size ≤ C ∧ Ex cls d H'
theorem CErr.post {X:Cx} {Ex:XK} {C:Addr} {e:Value} {s':Shared} (h:CErr X Ex C e s') (ok:X.Ok) (hL:Late X Ex):∃ m,s'.heap.Ns C m ∧ ∀ h',Heap.SameBut C s'.heap h' → ∀ cenv:Env,cenv.locals = C →
    wpAny (model X.prog X.w) X.A (passOn "comprehension.variables-let-go" e cenv:Sem Value) (fun _ _ => False) X.xe { s' with heap:=h' }:=by
  obtain ⟨ea,cls,d,B,H',fl,m,rfl,os,bare,F,nB,hok,hC,un,hz,q⟩:=h
  refine ⟨m,nB.keeps fun b o e => F.stays b o e,fun h' sb cenv _ => ?_⟩
  obtain ⟨oC,_,_,gC,_⟩:=id nB
  refine fly_passOn (s:={ s' with heap:=h' }) (F.hid gC sb) fun h2 fl2 F2 up => hL _ _ ok ?_
  have neC:∀ b o,X.s₀.heap.get? b = some o → b ≠ C:=fun b o e z => absurd (Heap.lt_size e) (Nat.not_lt.mpr (by rw [z]; exact hz))
  have hid:∀ b o,B.get? b = some o → b ≠ C → (PySem.W.hideAll B [C]).get? b = some o:=fun b o e n => PySem.W.hideAll_get _ e fun hm => n (List.mem_singleton.mp hm)
  refine ⟨ea,cls,d,_,H',fl2,rfl,os,bare,F2,hok.down fun b o u e g => hid b o g fun z => ?_,⟨fun b o e n hb => hid b o (un.keep b o e n hb) (neC b o e),fun b o e n hb => ?_,un.free,fun b o e hb => ?_,un.tups,un.frzs,un.tbls⟩,q⟩
  · rw [z,hC] at e
    cases e
  · obtain ⟨sl,q1⟩:=un.slot b o e n hb
    obtain ⟨_,o2,g2,nf⟩:=ok.funs.mem hb
    rw [e] at g2
    cases g2
    obtain ⟨sl2,q2⟩:=up b _ ((sb.2 b (neC b o e)).trans q1) nf
    exact ⟨sl2,q2⟩
  · obtain ⟨o',q1⟩:=un.there b o e hb
    exact ⟨o',hid b o' q1 (neC b o e)⟩
section
variable {X:Cx} {Ex:XK} {N:List Str} {scope:Scope} {cl:List (Str × Addr)} {vals:St → St} {tg elt iter:Expr} {ifs:List Expr} {pos spos py:Pos} {wi:TI} {g:TG} {tests:TT} {te:TE}
end
end L2
set_option maxHeartbeats 4000000
namespace L2
open PySem PySem.Spec PyProof.Rows
end L2
set_option maxHeartbeats 4000000
namespace L2
open PySem PySem.Spec PyProof.Rows
section
variable {prog:Program} {w:World} {A:Around} {E:Value → Shared → Prop} {R:Result → Shared → Prop} {old:Heap} {S l it:Addr} {vs:List Value} {J:Nat → Obj → Prop}
end
section
variable {prog:Program} {w:World} {A:Around} {E:Value → Shared → Prop} {s:Shared}
def bare (led:Bool):Obj:={ cls:=.type "set",dict:=none,data:=.set #[] 0 (.fresh 0 0 led) }
end
end L2
set_option maxHeartbeats 4000000
namespace L2
open PySem PySem.Spec PyProof.Rows
end L2
set_option maxHeartbeats 4000000
namespace L2
open PySem PySem.Spec PyProof.Rows
theorem Lsts.app {H1 Hc:Hp} {ps qs:List Addr} {fs gs:List (List V)} (t:Lsts H1 Hc ps fs) (u:Lsts H1 Hc qs gs):Lsts H1 Hc (ps ++ qs) (fs ++ gs):=by
  refine ⟨by rw [List.length_append,List.length_append,t.1,u.1],fun j p v hp hv => ?_⟩
  by_cases h:j < ps.length
  · rw [List.getElem?_append_left h] at hp
    rw [List.getElem?_append_left (by rw [← t.1]; exact h)] at hv
    exact t.2 j p v hp hv
  · rw [List.getElem?_append_right (by omega)] at hp
    rw [List.getElem?_append_right (by rw [← t.1]; omega),← t.1] at hv
    exact u.2 _ p v hp hv
section
variable {g:TG} {tests:TT} {te:TE} {σ0:St} {Q:VK} {H1:Hp}
theorem cw_lsts {K:PySem.W.Frag} {a:Addr} {xs:List V} (f:Nat → List V) (ha:rdL H1 a = some xs) (hl:xs.length < sizeLine)
    (hs:∀ (i:Nat) x Hc (A:VK) (B:Hp → Prop),xs[i]? = some x → Same H1 Hc → (∀ q Hd,Hc q = none → Same Hc Hd → Hd q = some (.lst (f i)) → A (.ref q) Hd) →
      g x σ0 Hc fun σ2 H2 => Wk σ0 σ2 ∧ tests σ2 H2 fun b H3 => if b = true then te σ2 H3 A else B H3)
    (fin:∀ D Hd ps,H1 D = none → Same H1 Hd → Hd D = some (.lst (ps.map V.ref)) → ps.length = xs.length → Lsts H1 Hd ps ((List.range xs.length).map f) → (∀ p ∈ ps,p ≠ D) → Q (.ref D) Hd):tCompW g tests te σ0 Q (Itl K a) H1:=by
  refine cw_gen (n:=xs.length) (fun D i ys Hc => Same H1 Hc ∧ ∃ ps,ys = ps.map V.ref ∧ ps.length = i ∧ Lsts H1 Hc ps ((List.range i).map f) ∧ ∀ p ∈ ps,p ≠ D) hl (fun D hD => ⟨same_upd hD _,[],rfl,rfl,.nil,fun p hp => nomatch hp⟩)
    (fun D i ys Hc _ r h => ⟨xs,xs[i],rdL_sq (rdL_keep r.1 ha),by simp [h]⟩) (fun D ys Hc _ r => ⟨xs,rdL_sq (rdL_keep r.1 ha),Nat.le_refl _⟩) ?_ ?_
  · rintro D i ys Hc x H' A B hD hi ⟨sm,ps,rfl,hn,ls,nd⟩ hDc ⟨rfl,hz⟩ ha' hb
    refine hs i x H' A B (hz xs (rdL_sq (rdL_keep sm ha))) sm (fun q Hd hq sd hd => ?_)
    have nq:q ≠ D:=fun z => by rw [z,hDc] at hq; cases hq
    have nd2:∀ p ∈ ps ++ [q],p ≠ D:=fun p hp => by
      rcases List.mem_append.mp hp with e | e
      · exact nd p e
      · rw [List.mem_singleton.mp e]; exact nq
    refine ha' _ _ (sd _ _ hDc) ⟨same_put hD (sm.trans sd),ps ++ [q],by rw [List.map_append]; rfl,by rw [List.length_append,hn]; rfl,?_,nd2⟩
    rw [List.range_succ,List.map_append]
    exact ((ls.keep sd).snoc (none_of sm hq) hd).put nd2
  · rintro D ys Hc hD ⟨sm,ps,rfl,hn,ls,nd⟩ hDc _
    exact fin D Hc ps hD sm hDc hn ls nd
theorem cw_listT {K:PySem.W.Frag} {a:Addr} {xs:List V} (f:Nat → List V) (ha:rdL H1 a = some xs) (hl:xs.length < sizeLine)
    (hs:∀ (i:Nat) x Hc (A:VK) (B:Hp → Prop),xs[i]? = some x → Same H1 Hc → (∀ q Hd,Hc q = none → Same Hc Hd → Hd q = some (.tup (f i)) → A (.ref q) Hd) →
      g x σ0 Hc fun σ2 H2 => Wk σ0 σ2 ∧ tests σ2 H2 fun b H3 => if b = true then te σ2 H3 A else B H3)
    (fin:∀ D Hd ps,H1 D = none → Same H1 Hd → Hd D = some (.lst (ps.map V.ref)) → ps.length = xs.length → Tups H1 Hd ps ((List.range xs.length).map f) → Q (.ref D) Hd):tCompW g tests te σ0 Q (Itl K a) H1:=by
  refine cw_gen (n:=xs.length) (fun D i ys Hc => Same H1 Hc ∧ ∃ ps,ys = ps.map V.ref ∧ ps.length = i ∧ Tups H1 Hc ps ((List.range i).map f)) hl (fun D hD => ⟨same_upd hD _,[],rfl,rfl,.nil⟩)
    (fun D i ys Hc _ r h => ⟨xs,xs[i],rdL_sq (rdL_keep r.1 ha),by simp [h]⟩) (fun D ys Hc _ r => ⟨xs,rdL_sq (rdL_keep r.1 ha),Nat.le_refl _⟩) ?_ ?_
  · rintro D i ys Hc x H' A B hD hi ⟨sm,ps,rfl,hn,tp⟩ hDc ⟨rfl,hz⟩ ha' hb
    refine hs i x H' A B (hz xs (rdL_sq (rdL_keep sm ha))) sm (fun q Hd hq sd hd => ?_)
    refine ha' _ _ (sd _ _ hDc) ⟨same_put hD (sm.trans sd),ps ++ [q],by rw [List.map_append]; rfl,by rw [List.length_append,hn]; rfl,?_⟩
    rw [List.range_succ,List.map_append]
    exact ((tp.keep sd).app (.one (none_of sm hq) hd)).put (sd _ _ hDc)
  · rintro D ys Hc hD ⟨sm,ps,rfl,hn,tp⟩ hDc _
    exact fin D Hc ps hD sm hDc hn tp
end
end L2
set_option maxHeartbeats 1000000
namespace L2
open PySem
def leaps (mask:Nat) (x:Nat × Nat):Nat → Nat × Nat
  | 0 => x
  | n + 1 => leaps mask (SetTable.leap mask x.1 x.2) n
theorem leaps_add (mask m:Nat):∀ (n:Nat) (x:Nat × Nat),leaps mask x (n + m) = leaps mask (leaps mask x n) m
  | 0,x => by rw [Nat.zero_add]; rfl
  | n + 1,x => by rw [Nat.succ_add]; exact leaps_add mask m n _
theorem per_leaps (mask:Nat):∀ (n:Nat) (x:Nat × Nat),(leaps mask x n).2 = x.2 / 32 ^ n
  | 0,x => by show x.2 = x.2 / 1; rw [Nat.div_one]
  | n + 1,x => by
    show (leaps mask (SetTable.leap mask x.1 x.2) n).2 = _
    rw [per_leaps mask n]
    show x.2 / 32 / 32 ^ n = _
    rw [Nat.div_div_eq_div_mul,Nat.pow_succ,Nat.mul_comm]
def cyc (M:Nat):Nat → Nat
  | 0 => 0
  | n + 1 => (cyc M n * 5 + 1) % M
theorem leaps_cyc (mask:Nat):∀ (n a:Nat),(leaps mask (cyc (mask + 1) a,0) n) = (cyc (mask + 1) (a + n),0)
  | 0,a => rfl
  | n + 1,a => by
    show leaps mask (SetTable.leap mask (cyc (mask + 1) a) 0) n = _
    have e:SetTable.leap mask (cyc (mask + 1) a) 0 = (cyc (mask + 1) (a + 1),0):=by
      show ((cyc (mask + 1) a * 5 + 1 + 0 / 32) % (mask + 1),0 / 32) = _
      rw [Nat.zero_div,Nat.add_zero]
      rfl
    rw [e,leaps_cyc mask n (a + 1),Nat.add_right_comm,Nat.add_assoc]
def Full (M:Nat):Prop:=cyc M M = 0 ∧ ∀ e,e < M → ∃ n,n < M ∧ cyc M n = e
theorem cyc_add (M:Nat) (h:cyc M M = 0):∀ n,cyc M (M + n) = cyc M n
  | 0 => h
  | n + 1 => by
    show (cyc M (M + n) * 5 + 1) % M = _
    rw [cyc_add M h n]
    rfl
theorem Full.reach {mask:Nat} (F:Full (mask + 1)) {x e:Nat} (hx:x < mask + 1) (he:e < mask + 1):∃ m,m ≤ mask ∧ (leaps mask (x,0) m).1 = e:=by
  obtain ⟨a,ha,rfl⟩:=F.2 x hx
  obtain ⟨b,hb,rfl⟩:=F.2 e he
  by_cases h:a ≤ b
  · exact ⟨b - a,by omega,by rw [leaps_cyc,Nat.add_sub_cancel' h]⟩
  · exact ⟨mask + 1 + b - a,by omega,by rw [leaps_cyc,show a + (mask + 1 + b - a) = mask + 1 + b by omega,cyc_add _ F.1]⟩
theorem leap_lt {mask:Nat}:∀ (n:Nat) {x:Nat × Nat},x.1 < mask + 1 → (leaps mask x n).1 < mask + 1
  | 0,x,h => h
  | n + 1,x,h => leap_lt n (x:=SetTable.leap mask x.1 x.2) (Nat.mod_lt _ (Nat.succ_pos _))
theorem come {mask:Nat} (F:Full (mask + 1)) {i per e:Nat} (hi:i < mask + 1) (hp:per < 2 ^ 64) (he:e < mask + 1):∃ m,m ≤ mask + 13 ∧ (leaps mask (i,per) m).1 = e:=by
  obtain ⟨m,hm,e1⟩:=F.reach (x:=(leaps mask (i,per) 13).1) (leap_lt 13 hi) he
  refine ⟨13 + m,by omega,?_⟩
  rw [leaps_add]
  have hz:(leaps mask (i,per) 13).2 = 0:=by
    rw [per_leaps]
    exact Nat.div_eq_of_lt (Nat.lt_of_lt_of_le hp (by decide))
  rw [show leaps mask (i,per) 13 = ((leaps mask (i,per) 13).1,0) from Prod.ext rfl hz]
  exact e1
section
variable {prog:Program} {w:World} {A:Around} {E:Value → Shared → Prop} {s:Shared}
end
end L2
set_option maxHeartbeats 4000000
namespace L2
open PySem PySem.Spec PyProof.Rows
section
variable {X:Cx} {a b:Expr} {rest:List Expr} {pos:Pos} {ta tb:TE}
end
end L2
set_option maxHeartbeats 4000000
namespace L2
open PySem PySem.Spec PyProof.Rows
open PySem.AutoSeq1 (wpAny_loadPart')
open PySem.MeetsSeq PySem.MeetsSeq2 PySem.MeetsSeq3
section
variable {P:Program} {w:World} {A:Around} {E:Value → Shared → Prop} {s:Shared} {l b:Addr} {xs ys:Array Value} {as bs:List Int}
end
open PySem.W (KasT kas_sort kas_cmp kas_item kas_item_eq kas_range kas_runs kas_kind kas_st)
section
variable {prog:Program} {w:World} {A:Around} {E:Value → Shared → Prop} {s:Shared}
end
end L2
set_option maxHeartbeats 4000000
namespace L2
open PySem PySem.Spec PyProof.Rows
end L2
set_option maxHeartbeats 1000000
namespace L2
open PySem
theorem getD_none {owner:Array (Option Nat)} {j:Nat} (h:owner.getD j (some 0) = none):j < owner.size ∧ owner.getD j none = none:=by
  have hj:j < owner.size:=by
    refine Nat.lt_of_not_le fun z => ?_
    rw [Array.getD_eq_getD_getElem?,Array.getElem?_eq_none z] at h
    cases h
  rw [Array.getD_eq_getD_getElem?,Array.getElem?_eq_getElem hj] at h ⊢
  exact ⟨hj,h⟩
theorem getD_some {owner:Array (Option Nat)} {j:Nat} (hj:j < owner.size) (h:owner.getD j (some 0) ≠ none):∃ k,owner.getD j none = some k:=by
  rw [Array.getD_eq_getD_getElem?,Array.getElem?_eq_getElem hj] at h ⊢
  cases e:owner[j] with
  | none => rw [e] at h; exact absurd rfl h
  | some k => exact ⟨k,rfl⟩
section
variable {prog:Program} {w:World} {A:Around} {E:Value → Shared → Prop} {s:Shared}
end
open PySem.Spec PyProof.Rows
def Alx (H:Hp):Nat → V → V → Prop
  | 0,x,y => x = y ∧ (flatV x = true ∨ ∃ p,x = .ref p)
  | n + 1,x,y => (x = y ∧ (flatV x = true ∨ ∃ p,x = .ref p)) ∨ ∃ p q,x = .ref p ∧ y = .ref q ∧ ((∃ xs ys,rdL H p = some xs ∧ rdL H q = some ys ∧ xs.length = ys.length ∧ ∀ (j:Nat) x' y',xs[j]? = some x' → ys[j]? = some y' → Alx H n x' y') ∨ ∃ kvs kws,Rd H p (.dK kvs) ∧ Rd H q (.dK kws) ∧ DEq kvs kws)
theorem Alx.same {H:Hp} {n:Nat} {x:V} (h:flatV x = true ∨ ∃ p,x = .ref p):Alx H n x x:=by
  cases n with
  | zero => exact ⟨rfl,h⟩
  | succ n => exact .inl ⟨rfl,h⟩
end L2
set_option maxHeartbeats 1000000
namespace L2
open PySem PySem.Spec PyProof.Rows
def hdl (i:Nat) (ts:TS) (D:Ends) (cls:Value) (d:Option Addr) (σ1:St) (H1:Hp):Prop:=∀ ea,H1 ea = none →
  ts { nx:=fun σ2 H2 => D.nx (σ2.set i none) H2,rt:=D.rt,bk:=fun σ2 H2 => D.bk (σ2.set i none) H2,ct:=fun σ2 H2 => D.ct (σ2.set i none) H2 } (σ1.set i (some (.ref ea))) (upd H1 ea (excO ea cls d))
def tTry2 (K:PySem.W.Frag) (C1 C2:Addr) (i1 i2:Nat) (mk:(Value → Option Addr → St → Hp → Prop) → TS) (t1 t2:TS):TS:=fun D σ H =>
  mk (fun cls d σ1 H1 => (PySem.W.exmOne K cls (.ref C1) = some true ∧ hdl i1 t1 D cls d σ1 H1) ∨ (PySem.W.exmOne K cls (.ref C1) = some false ∧ PySem.W.exmOne K cls (.ref C2) = some true ∧ hdl i2 t2 D cls d σ1 H1)) D σ H
section
variable {X:Cx} {pins:List (Addr × Obj)}
theorem ps_try2 {body suite1 suite2:List Stmt} {b1 b2:Stmt} {x1 x2 n1 n2:Str} {np1 np2 hp1 hp2 pos:Pos} {i1 i2:Nat} {C1 C2:Addr} {mk:(Value → Option Addr → St → Hp → Prop) → TS} {t1 t2:TS} (hstk:X.stack = X.env :: X.outer) (hfm:X.env.frame = some X.env.locals) (hex:X.ex = [])
    (hN:X.N.Nodup) (hi1:X.N[i1]? = some n1) (hl1:X.env.scope.names.lookup n1 = some .local) (hi2:X.N[i2]? = some n2) (hl2:X.env.scope.names.lookup n2 = some .local) (hg1:Gl X x1) (hm1:X.mg x1 = some (.ref C1)) (hg2:Gl X x2) (hm2:X.mg x2 = some (.ref C2)) (hb:∀ pins R,PSs (X.tr pins (XS X pins R)) body (mk R)) (hs1:∀ pins ea,PSs (X.hnd pins ea) (b1 :: suite1) t1) (hs2:∀ pins ea,PSs (X.hnd pins ea) (b2 :: suite2) t2)
    (hd1:(x1 == ("__debug__" : Str)) = false:=by decide) (hd2:(x2 == ("__debug__" : Str)) = false:=by decide):PS X (.Try body [.ExceptHandler (some (.Name x1 np1)) (some n1) (b1 :: suite1) hp1,.ExceptHandler (some (.Name x2 np2)) (some n2) (b2 :: suite2) hp2] [] [] pos) (tTry2 X.K C1 C2 i1 i2 mk t1 t2):=by
  intro pins s σ H D I h
  have hfr:X.A.frames = some (X.env :: X.outer):=by rw [← hstk]; exact I.ok.frames
  have hcls:(X.env.scope.kind == .class || (X.env.scope.kind == .module && X.env.locals != X.env.globals)) = false:=by rw [I.ok.kind]; rfl
  refine wpAny_Try_except (wpAny_mono (hb pins _ [] s σ H D (I.tr _) h) (fun f s1 q => ?_) fun e s1 q => ?_)
  · cases f with
    | next =>
      obtain ⟨σ',H',I',q⟩:=q.untr
      exact pss_nil pins s1 σ' H' D I' q
    | brk => exact q.untr
    | cont => exact q.untr
    | ret u => exact q.untr
  · obtain ⟨ea,cls,d,B,σ1,H1,rfl,F,fre,hn,inv,hxr⟩:=q
    rw [hstk] at F
    refine fly_note hfr hfm F fun h2 F2 u2 => fly_flight (s:={ s1 with heap:=h2 }) F2 fun h3 F3 u3 => ?_
    have I3:=inv h3 F3.stays (u2.trans u3)
    rcases hxr with ⟨hx,r⟩ | ⟨hx0,hx,r⟩
    · refine wpAny_handleBy_cons (codeAny_handlers_test (ld_glob (I3.hnd ea) hg1 hm1 ?_ hd1)) (by intro q; cases q)
      obtain ⟨oe,vs,T,oT,tts,he,hc,_⟩:=id F3.on
      refine PySem.W.exm_one I3.kIn (hc.1 ▸ (PySem.W.Looks.ld he).andThen .now) hx _ _ _ _ (fun _ _ q => q) ?_
      refine codeAny_handlers_suite_as (fly_flight (s:={ s1 with heap:=h3 }) F3 fun h4 F4 u4 => ?_)
      have I4:=(inv h4 F4.stays ((u2.trans u3).trans u4)).adopt (o:=excO ea cls d) fre hn F4.obj
      refine store_ok I4 hN hi1 (.inl hl1) (v:=.ref ea) rfl (fun s5 I5 => ?_) (.inr hl1)
      refine wpAny_mono (hs1 pins ea [] s5 _ _ _ (I5.hnd ea) (r ea hn)) (fun f s6 q => ?_) fun _ _ z => z.elim
      have go:∀ {σ2:St} {H2:Hp} {Q:Unit → Shared → Prop} {E:Value → Shared → Prop},Inv (X.hnd pins ea) [] σ2 H2 s6 → (∀ s7,Inv X pins (σ2.set i1 none) H2 s7 → Q () s7) →
          wpAny (model X.prog X.w) X.A (do bindName X.env n1 .none; unbindBehindTheSuite X.env n1 hp1) Q E s6:=fun {σ2 H2 Q E} I6 k => by
        have I6':=I6.unhnd I.ok
        obtain ⟨m,hm6,_⟩:=id I6'.loc
        exact wpAny_nameGoes_keeps hl1 hm6 hcls fun h7 v hn7 sb => k _ (I6'.unname hN hi1 hm6 hl1 hn7 sb)
      cases f with
      | next =>
        obtain ⟨σ2,H2,I6,q⟩:=q
        exact go I6 fun s7 I7 => ⟨_,H2,I7,q⟩
      | brk =>
        obtain ⟨σ2,H2,I6,q⟩:=q
        exact go I6 fun s7 I7 => ⟨_,H2,I7,q⟩
      | cont =>
        obtain ⟨σ2,H2,I6,q⟩:=q
        exact go I6 fun s7 I7 => ⟨_,H2,I7,q⟩
      | ret u =>
        obtain ⟨v,σ2,H2,I6,rv,q⟩:=q
        exact go I6 fun s7 I7 => ⟨v,_,H2,I7,rv,q⟩
    · refine wpAny_handleBy_cons (codeAny_handlers_test (ld_glob (I3.hnd ea) hg1 hm1 ?_ hd1)) (by intro q; cases q)
      obtain ⟨oe,vs,T,oT,tts,he,hc,_⟩:=id F3.on
      refine PySem.W.exm_one I3.kIn (hc.1 ▸ (PySem.W.Looks.ld he).andThen .now) hx0 _ _ _ _ (fun _ _ q => q) ?_
      rw [if_neg (show ¬ (false = true) from fun z => nomatch z)]
      dsimp only
      refine wpAny_handleBy_cons (codeAny_handlers_test (ld_glob (I3.hnd ea) hg2 hm2 ?_ hd2)) (by intro q; cases q)
      refine PySem.W.exm_one I3.kIn (hc.1 ▸ (PySem.W.Looks.ld he).andThen .now) hx _ _ _ _ (fun _ _ q => q) ?_
      refine codeAny_handlers_suite_as (fly_flight (s:={ s1 with heap:=h3 }) F3 fun h4 F4 u4 => ?_)
      have I4:=(inv h4 F4.stays ((u2.trans u3).trans u4)).adopt (o:=excO ea cls d) fre hn F4.obj
      refine store_ok I4 hN hi2 (.inl hl2) (v:=.ref ea) rfl (fun s5 I5 => ?_) (.inr hl2)
      refine wpAny_mono (hs2 pins ea [] s5 _ _ _ (I5.hnd ea) (r ea hn)) (fun f s6 q => ?_) fun _ _ z => z.elim
      have go:∀ {σ2:St} {H2:Hp} {Q:Unit → Shared → Prop} {E:Value → Shared → Prop},Inv (X.hnd pins ea) [] σ2 H2 s6 → (∀ s7,Inv X pins (σ2.set i2 none) H2 s7 → Q () s7) →
          wpAny (model X.prog X.w) X.A (do bindName X.env n2 .none; unbindBehindTheSuite X.env n2 hp2) Q E s6:=fun {σ2 H2 Q E} I6 k => by
        have I6':=I6.unhnd I.ok
        obtain ⟨m,hm6,_⟩:=id I6'.loc
        exact wpAny_nameGoes_keeps hl2 hm6 hcls fun h7 v hn7 sb => k _ (I6'.unname hN hi2 hm6 hl2 hn7 sb)
      cases f with
      | next =>
        obtain ⟨σ2,H2,I6,q⟩:=q
        exact go I6 fun s7 I7 => ⟨_,H2,I7,q⟩
      | brk =>
        obtain ⟨σ2,H2,I6,q⟩:=q
        exact go I6 fun s7 I7 => ⟨_,H2,I7,q⟩
      | cont =>
        obtain ⟨σ2,H2,I6,q⟩:=q
        exact go I6 fun s7 I7 => ⟨_,H2,I7,q⟩
      | ret u =>
        obtain ⟨v,σ2,H2,I6,rv,q⟩:=q
        exact go I6 fun s7 I7 => ⟨v,_,H2,I7,rv,q⟩
theorem s_try2 {K:PySem.W.Frag} {C1 C2:Addr} {i1 i2:Nat} {mk:(Value → Option Addr → St → Hp → Prop) → TS} {t1 t2:TS} {D:Ends} {σ:St} {H:Hp} (h:mk (fun cls d σ1 H1 => (PySem.W.exmOne K cls (.ref C1) = some true ∧ hdl i1 t1 D cls d σ1 H1) ∨ (PySem.W.exmOne K cls (.ref C1) = some false ∧ PySem.W.exmOne K cls (.ref C2) = some true ∧ hdl i2 t2 D cls d σ1 H1)) D σ H):tTry2 K C1 C2 i1 i2 mk t1 t2 D σ H:=h
end
end L2
set_option maxHeartbeats 1000000
namespace L2
open PySem PySem.Spec PyProof.Rows
section
variable {X:Cx}
def mNeE:R2:=fun x y H Q => ∃ p q xs,x = .ref p ∧ y = .ref q ∧ rdL H p = some xs ∧ rdL H q = some [] ∧ Q (.bl (!xs.isEmpty)) H
theorem m_neE (hu:X.A.units < cLine):OpR X (compareOp .NotEq) mNeE:=by
  intro pins s σ H x y v u Q I rx ry h
  obtain ⟨p,q,xs,rfl,rfl,hp,hq,k⟩:=h
  cases rx
  cases ry
  obtain ⟨its,r1,l1,_⟩:=I.list (rdL_sq hp)
  obtain ⟨its2,r2,l2,_⟩:=I.list (rdL_sq hq)
  have e1:=r1.length
  have e2:=r2.length
  have z2:its2.length = 0:=e2.symm
  cases xs with
  | nil =>
    have z1:its.length = 0:=e1.symm
    refine SeqAt.RcNeAt.lists (e:=fun j => true) l1.isList l2.isList (by simp only [List.size_toArray]; omega) hu (fun j h1 h2 => ?_) X.prog X.w _ _ ?_
    · have h1':j < its.length:=by simpa using h1
      omega
    · refine ⟨.bl false,H,I,?_,k⟩
      show Value.bool _ = Value.bool false
      simp
  | cons x0 xr =>
    rw [List.length_cons] at e1
    exact SeqAt.RcNeAt.lists_lengths l1.isList l2.isList (by simp only [List.size_toArray,bne_iff_ne]; omega) hu X.prog X.w _ _ ⟨.bl true,H,I,rfl,k⟩
theorem s_neE {H:Hp} {Q:VK} {p q:Addr} {xs:List V} (e:rdL H p = some xs) (e':rdL H q = some []) (h:Q (.bl (!xs.isEmpty)) H):mNeE (.ref p) (.ref q) H Q:=⟨p,q,xs,rfl,rfl,e,e',h⟩
end
theorem s_splitB {H:Hp} {Q:VK} {z y:Str} (hy:(y.length == 0) = false) (hl:z.length ≤ 90000) (h:∀ l,H l = none → Q (.ref l) (upd H l (.lst ((Txt.split z y).map V.str)))):mSplit (.str z) [.str y] H Q:=⟨z,y,rfl,rfl,hy,len_line (by omega),h⟩
theorem s_partB {H:Hp} {Q:VK} {z y:Str} (hy:(y.length == 0) = false) (hl:z.length ≤ 90000) (h:∀ p,H p = none → Q (.ref p) (upd H p (.tup (partL z y)))):mPartition (.str z) [.str y] H Q:=⟨z,y,rfl,rfl,hy,len_line (by omega),h⟩
end L2
namespace Mine
open PySem L2
local macro_rules | `(tactic| walk_at "rd") => `(tactic| first | assumption | exact rdL_same | exact mutL_same | exact tupL_same | exact rdL_of (by assumption) | exact mutL_of (by assumption) | (apply rdL_keep (same_upd (by assumption) _); walk_at "rd"))
local macro_rules | `(tactic| walk_at "lo") => `(tactic| first | assumption | decide | omega | (simp only [List.length_map,List.length_append,List.length_cons,List.length_nil,Str.length_append]; omega))
local macro_rules | `(tactic| walk_at "ln") => `(tactic| first | assumption | decide | exact len_line (by walk_at "lo") | exact lt_line (by walk_at "lo"))
local macro_rules | `(tactic| walk_at "ar") => `(tactic| first | assumption | decide | omega | exact ⟨by omega,by omega⟩ | exact Or.inl ⟨by omega,by omega⟩ | exact Or.inr ⟨by omega,by omega⟩ | (dsimp only; done) | (dsimp only; omega))
local macro_rules | `(tactic| walk_at "s") => `(tactic| first
  | (with_reducible first | refine s_seq ?_ | refine s_next ?_ | refine s_if ?_ | refine s_ret ?_ | refine s_drop ?_ | refine s_asg ?_ | refine s_for ?_ | refine s_gname ?_)
  | ((with_reducible refine' s_var ?sv ?_); (case sv => exact rfl))
  | (with_reducible first | refine s_c ?_ | refine s_op ?_ | refine s_nil ?_ | refine s_cons ?_ | refine s_call ?_ | refine s_cb ?_ | refine s_sl ?_ | refine s_nopart ?_ | refine s_part ?_ | refine s_meth ?_ | refine s_tyS ?_)
  | ((with_reducible refine' s_tyL ?se ?_); (case se => walk_at "rd"))
  | (with_reducible first | refine s_test ?_ | refine s_truth ?_ | refine s_mB ?_ | refine s_trub ?_ | refine s_and ?_ | refine s_or ?_ | refine s_not ?_ | refine s_andV ?_ | refine s_orV ?_ | refine s_notV ?_ | refine s_chain ?_ | refine s_mI ?_)
  | ((with_reducible refine s_mIC ?sc ?_); (case sc => walk_at "ar"))
  | with_reducible refine s_addI ?_
  | ((with_reducible refine s_addS ?sc ?_); (case sc => walk_at "ln"))
  | (with_reducible first | refine s_eqI ?_ | refine s_eqS ?_ | refine s_neS ?_ | refine s_inS ?_)
  | ((with_reducible refine s_slS ?sc ?_); (case sc => walk_at "ln"))
  | ((with_reducible refine' s_slL ?sc ?_); (case sc => walk_at "rd"))
  | ((with_reducible refine s_lenS ?sc ?_); (case sc => walk_at "ln"))
  | ((with_reducible refine' s_lenL ?sc ?_); (case sc => walk_at "rd"))
  | ((with_reducible refine' s_isi ?se ?se2 ?_); (case se => exact rfl); (case se2 => first | exact (show isiT _ _ = some true from rfl) | exact (show isiT _ _ = some false from rfl) | exact rfl))
  | (with_reducible first | refine s_jStr ?_ | refine s_jRng1 ?_ | refine s_jList ?_ | refine s_onStr ?_ | refine s_onRef ?_ | refine s_onI1 ?_ | refine s_onIntP ?_)
  | ((with_reducible refine' s_onL ?se ?_); (case se => walk_at "rd"))
  | ((with_reducible refine' s_app ?se ?sl ?_); (case se => walk_at "rd"); (case sl => walk_at "ln"))
  | (with_reducible first | refine s_jEnum ?_ | refine s_onR1 ?_ | refine s_gCons ?_ | refine s_gNil ?_)
  | ((with_reducible refine' s_gTup ?se ?sn ?_); (case se => walk_at "rd"); (case sn => exact rfl))
  | (with_reducible first | refine s_lst ?_ | refine s_tup ?_ | refine s_raise ?_ | refine s_callS ?_ | refine s_try2 ?_ | refine s_xinit ?_ | refine s_xfld ?_ | refine s_xget ?_ | refine s_raiseI ?_ | refine s_comp ?_ | refine s_yes ?_ | refine iteT ?_ | refine iteF ?_ | refine iteNT ?_ | refine iteNF ?_)
  | dsimp only)
local macro_rules | `(tactic| walk_at "go") => `(tactic| repeat' (walk_at "s"))
local macro_rules | `(tactic| walk_at "gs") => `(tactic| repeat' ((fail_if_success (with_reducible refine s_seq ?_)); (walk_at "s")))
def top (i:Nat):Stmt:=PySem.Challenge.pw_flaglocker_k52_books_read_or_not.main.body.getD i (.Pass ⟨0,0,0,0⟩)
abbrev s_l_mixed:Stmt:=top 31
abbrev s_l_terms:Stmt:=top 32
abbrev s_l_word:Stmt:=top 33
abbrev s_l_book:Stmt:=top 34
abbrev s_l_cell_at:Stmt:=top 30
abbrev s_l_good_book:Stmt:=top 35
abbrev s_l_long:Stmt:=top 43
abbrev s_l_sign:Stmt:=top 37
abbrev s_l_spoiled:Stmt:=top 38
abbrev s_NoBook_init:Stmt:=clsAt (top 5) 0
abbrev s_is_term:Stmt:=top 23
abbrev s_is_row_of_terms:Stmt:=top 24
abbrev s_is_word:Stmt:=top 16
abbrev s_may_follow:Stmt:=top 25
abbrev s_look_at:Stmt:=top 26
abbrev s_read_book:Stmt:=top 28
abbrev s_l_others:Stmt:=top 36
abbrev s_l_told:Stmt:=top 42
abbrev s_l_made_of:Stmt:=top 40
abbrev s_l_due:Stmt:=top 41
abbrev s_l_rows_spoiled:Stmt:=top 39
abbrev s_law:Stmt:=top 44
structure Gs (K:PySem.W.Frag) (mg:Str → Option Value) (aNoBook aNoText aTowerError aNoHoist aShort aLack aNoCut aNoWord aNoHalyard aNoFlag aNoDeed aNoRow:Addr):Prop where
  c_NoBook:mg "NoBook" = some (.ref aNoBook)
  c_NoText:mg "NoText" = some (.ref aNoText)
  c_TowerError:mg "TowerError" = some (.ref aTowerError)
  c_NoHoist:mg "NoHoist" = some (.ref aNoHoist)
  c_Short:mg "Short" = some (.ref aShort)
  c_Lack:mg "Lack" = some (.ref aLack)
  c_NoCut:mg "NoCut" = some (.ref aNoCut)
  c_NoWord:mg "NoWord" = some (.ref aNoWord)
  c_NoHalyard:mg "NoHalyard" = some (.ref aNoHalyard)
  c_NoFlag:mg "NoFlag" = some (.ref aNoFlag)
  c_NoDeed:mg "NoDeed" = some (.ref aNoDeed)
  c_NoRow:mg "NoRow" = some (.ref aNoRow)
  m_NoText:PySem.W.exmOne K (.ref aNoText) (.ref aNoText) = some true
  m_Other:PySem.W.exmOne K (.ref aNoBook) (.ref aNoText) = some false
  m_NoBook:PySem.W.exmOne K (.ref aNoBook) (.ref aNoBook) = some true
  x_NoText:PySem.W.excIn K aNoText [.type "ValueError",.type "Exception",.type "BaseException",.type "object"] "ValueError.__new__" = true
  e_1:PySem.W.hasDictIn K aNoText = true
  e_2:PySem.W.findIn K (.ref aNoText) "__getattribute__" = some (some (.builtin "BaseException.__getattribute__"))
  e_3:PySem.W.findIn K (.ref aNoText) "__getattr__" = some none
  e_4:PySem.W.findIn K (.ref aNoText) "__class__" = some (some (.builtin "object.__class__"))
  e_5:PySem.W.specialIn K (.builtin "object.__class__") "__get__" = some (some (.builtin "getset_descriptor.__get__"))
  e_6:PySem.W.takesIn K (.builtin "object.__class__") = some true
  e_7:PySem.W.mroIn K aNoText (.type "object") = some true
  e_8:PySem.W.subIn K (.ref aNoText) (.type "BaseException") = some true
  t_1:PySem.W.kitOne K (.ref aNoText) (.ref aNoHoist) = some false
  t_2:PySem.W.kitOne K (.ref aNoText) (.ref aShort) = some false
  t_3:PySem.W.kitOne K (.ref aNoText) (.ref aLack) = some false
  t_4:PySem.W.kitOne K (.ref aNoText) (.ref aNoCut) = some false
  t_5:PySem.W.kitOne K (.ref aNoText) (.ref aNoWord) = some false
  t_6:PySem.W.kitOne K (.ref aNoText) (.ref aNoHalyard) = some false
  t_7:PySem.W.kitOne K (.ref aNoText) (.ref aNoFlag) = some false
  t_8:PySem.W.kitOne K (.ref aNoText) (.ref aNoDeed) = some false
  t_9:PySem.W.kitOne K (.ref aNoText) (.ref aNoRow) = some false
  t_10:PySem.W.kitOne K (.ref aNoText) (.ref aTowerError) = some true
  t_11:PySem.W.kitOne K (.ref aNoText) (.type "ValueError") = some true
  t_12:PySem.W.kitOne K (.ref aNoText) (.ref aNoBook) = some false
  i_1:PySem.W.kitOne K (.ref aNoBook) (.ref aNoHoist) = some false
  i_2:PySem.W.kitOne K (.ref aNoBook) (.ref aShort) = some false
  i_3:PySem.W.kitOne K (.ref aNoBook) (.ref aLack) = some false
  i_4:PySem.W.kitOne K (.ref aNoBook) (.ref aNoCut) = some false
  i_5:PySem.W.kitOne K (.ref aNoBook) (.ref aNoWord) = some false
  i_6:PySem.W.kitOne K (.ref aNoBook) (.ref aNoHalyard) = some false
  i_7:PySem.W.kitOne K (.ref aNoBook) (.ref aNoFlag) = some false
  i_8:PySem.W.kitOne K (.ref aNoBook) (.ref aNoDeed) = some false
  i_9:PySem.W.kitOne K (.ref aNoBook) (.ref aNoRow) = some false
  i_10:PySem.W.kitOne K (.ref aNoBook) (.ref aTowerError) = some true
  i_11:PySem.W.kitOne K (.ref aNoBook) (.type "ValueError") = some true
  i_12:PySem.W.kitOne K (.ref aNoBook) (.ref aNoText) = some false
  t1_TowerError:PySem.W.specialIn K (.ref aTowerError) "__getattribute__" = some (some (.builtin "type.__getattribute__"))
  t2_TowerError:PySem.W.readsIn K aTowerError (.type "type") = true
  t3_TowerError:PySem.W.findCls K (.ref aTowerError) (.type "type") "__init__" = some (.val (.builtin "ValueError.__init__"))
  xo_NoBook:excJ K aNoBook [.type "ValueError",.type "Exception",.type "BaseException",.type "object"] "ValueError.__new__" = true
  xk_NoBook:PySem.W.keepIn K (.ref aNoBook) = true
  xe1_NoBook:PySem.W.hasDictIn K aNoBook = true
  xe2_NoBook:PySem.W.findIn K (.ref aNoBook) "__getattribute__" = some (some (.builtin "BaseException.__getattribute__"))
  xe3_NoBook:PySem.W.findIn K (.ref aNoBook) "__getattr__" = some none
  xe4_NoBook:PySem.W.findIn K (.ref aNoBook) "__class__" = some (some (.builtin "object.__class__"))
  xe5_NoBook:PySem.W.specialIn K (.builtin "object.__class__") "__get__" = some (some (.builtin "getset_descriptor.__get__"))
  xe6_NoBook:PySem.W.takesIn K (.builtin "object.__class__") = some true
  xe7_NoBook:PySem.W.mroIn K aNoBook (.type "object") = some true
  xe8_NoBook:PySem.W.subIn K (.ref aNoBook) (.type "BaseException") = some true
  xs_NoBook:PySem.W.findIn K (.ref aNoBook) "__setattr__" = some (some (.builtin "object.__setattr__"))
  xr_NoBook:mroB K aNoBook aTowerError = true
  xv_NoBook:PySem.W.subIn K (.ref aNoBook) (.type "ValueError") = some true
  xn_NoBook_at:PySem.W.findIn K (.ref aNoBook) "at" = some none
  b_range:mg "range" = none
  b_len:mg "len" = none
  b_all:mg "all" = none
  b_isinstance:mg "isinstance" = none
  b_ValueError:mg "ValueError" = none
  b_bool:mg "bool" = none
  b_enumerate:mg "enumerate" = none
  s_LONGEST_TERM:∃ t,mg "LONGEST_TERM" = some (.int 10 t)
  s_TERM_LETTERS:∃ t,mg "TERM_LETTERS" = some (.str "abcdefghijklmnopqrstuvwxyz" t)
  s_MOST_PLACES:∃ t,mg "MOST_PLACES" = some (.int 7 t)
  s_LETTERS:∃ t,mg "LETTERS" = some (.str "abcdefghijklmnopqrstuvw" t)
  s_MOST_TUPLES:∃ t,mg "MOST_TUPLES" = some (.int 60 t)
  s_LONGEST_WORD:∃ t,mg "LONGEST_WORD" = some (.int 6 t)
  s_MOST_TERMS_MEANT:∃ t,mg "MOST_TERMS_MEANT" = some (.int 5 t)
theorem Gs.xx_NoBook {K:PySem.W.Frag} {mg:Str → Option Value} {aNoBook aNoText aTowerError aNoHoist aShort aLack aNoCut aNoWord aNoHalyard aNoFlag aNoDeed aNoRow:Addr} (G:Gs K mg aNoBook aNoText aTowerError aNoHoist aShort aLack aNoCut aNoWord aNoHalyard aNoFlag aNoDeed aNoRow):ExK K aNoBook:=⟨G.xe1_NoBook,G.xe2_NoBook,G.xe3_NoBook,G.xe4_NoBook,G.xe5_NoBook,G.xe6_NoBook,G.xe7_NoBook,G.xe8_NoBook⟩
theorem Gs.xc_NoBook {K:PySem.W.Frag} {mg:Str → Option Value} {aNoBook aNoText aTowerError aNoHoist aShort aLack aNoCut aNoWord aNoHalyard aNoFlag aNoDeed aNoRow:Addr} (G:Gs K mg aNoBook aNoText aTowerError aNoHoist aShort aLack aNoCut aNoWord aNoHalyard aNoFlag aNoDeed aNoRow):XcK K aNoBook aTowerError:=⟨G.xx_NoBook,G.xs_NoBook,mroL_of G.xr_NoBook,G.xv_NoBook⟩
theorem Gs.xm_NoBook {K:PySem.W.Frag} {mg:Str → Option Value} {aNoBook aNoText aTowerError aNoHoist aShort aLack aNoCut aNoWord aNoHalyard aNoFlag aNoDeed aNoRow:Addr} (G:Gs K mg aNoBook aNoText aTowerError aNoHoist aShort aLack aNoCut aNoWord aNoHalyard aNoFlag aNoDeed aNoRow):XmK K aNoBook:=⟨G.xo_NoBook,G.xk_NoBook⟩
abbrev lettersT:Str := "abcdefghijklmnopqrstuvw"
abbrev one (c:Nat):Str:=⟨#[c]⟩
def isLet (c:Nat):Prop:=97 ≤ c ∧ c ≤ 119
def isSub (c:Nat):Prop:=49 ≤ c ∧ c ≤ 52
instance (c:Nat):Decidable (isLet c):=inferInstanceAs (Decidable (_ ∧ _))
instance (c:Nat):Decidable (isSub c):=inferInstanceAs (Decidable (_ ∧ _))
theorem len_toList (z:Str):z.cps.toList.length = z.length:=by simp [Str.length]
def standC (c:Nat) (p:Int):Prop:=isLet c ∨ (isSub c ∧ (c:Int) - 48 < p)
instance (c:Nat) (p:Int):Decidable (standC c p):=inferInstanceAs (Decidable (_ ∨ _))
def strC (cs:List Nat):Str:=⟨cs.toArray⟩
theorem strC_len (cs:List Nat):(strC cs).length = cs.length:=by show cs.toArray.size = _; simp
theorem strC_list (cs:List Nat):(strC cs).cps.toList = cs:=rfl
theorem strC_inj {a b:List Nat} (h:strC a = strC b):a = b:=congrArg (fun z:Str => z.cps.toList) h
def allL (z:Str):Bool:=z.cps.toList.all fun c => decide (c ∈ lettersT.cps.toList)
def isWord (z:Str):Bool:=if z.length < 1 ∨ 7 < z.length then false else allL z
theorem fm_some {α β:Type} (f:α → β):∀ l:List α,l.filterMap (fun x => some (f x)) = l.map f
  | [] => rfl
  | x :: r => by rw [List.filterMap_cons_some (f:=fun x => some (f x)) (b:=f x) rfl,List.map_cons,fm_some f r]
theorem at_lets {k:Nat} (h:k < 23):atI lettersT.cps.toList ((k:Nat):Int) = some (97 + k):=by
  refine atI_nat ?_
  have q:∀ k:_root_.Fin 23,lettersT.cps.toList[k.val]? = some (97 + k.val):=by decide +kernel
  exact q ⟨k,h⟩
theorem cut_take {xs:List V} {k:Int} (h:0 ≤ k):cutV xs none (some k) = xs.take k.toNat:=by
  unfold cutV
  show (xs.drop 0).take ((if k < 0 then (k + (xs.length:Int)).toNat else min k.toNat xs.length) - 0) = _
  rw [if_neg (by omega),List.drop_zero,Nat.sub_zero]
  by_cases hk:k.toNat ≤ xs.length
  · rw [Nat.min_eq_left hk]
  · rw [Nat.min_eq_right (by omega),List.take_of_length_le (Nat.le_refl _),List.take_of_length_le (by omega)]
theorem join_ones (cs:List Nat):Txt.join (Str.ofString "") (cs.map one) = strC cs:=by
  refine FlT.str_ext ?_
  rw [show Str.ofString "" = ⟨#[]⟩ from rfl,FlT.join_cps,strC_list]
  induction cs with
  | nil => rfl
  | cons c r ih => rw [List.map_cons,List.map_cons,List.flatten_cons,ih]; rfl
theorem ones_sum (cs:List Nat):((cs.map one).map (·.length)).sum = cs.length:=by
  induction cs with
  | nil => rfl
  | cons m r ih => rw [List.map_cons,List.map_cons,List.sum_cons,ih,List.length_cons]; show 1 + r.length = _; omega
theorem get_int {ns:List Int} {i:Int} (h0:0 ≤ i) (h:i < ns.length):∃ n,n ∈ ns ∧ atI (ns.map V.int) i = some (.int n):=by
  obtain ⟨v,h1,h2⟩:=atI_lt (xs:=ns.map V.int) (i:=i) h0 (by rw [List.length_map]; exact h)
  rw [List.getElem?_map,List.getElem?_eq_getElem (by omega)] at h2
  cases h2
  exact ⟨_,List.getElem_mem _,h1⟩
theorem of_map_int {ns:List Int} {j:Nat} {x:V} (h:(ns.map V.int)[j]? = some x):∃ n,n ∈ ns ∧ x = V.int n:=by
  obtain ⟨n,hn,e⟩:=List.mem_map.mp (List.mem_of_getElem? h)
  exact ⟨n,hn,e.symm⟩
theorem of_map_str {ns:List Str} {j:Nat} {x:V} (h:(ns.map V.str)[j]? = some x):∃ n,ns[j]? = some n ∧ x = V.str n:=by
  rw [List.getElem?_map] at h
  cases e:ns[j]? with
  | none => rw [e] at h; cases h
  | some n => rw [e] at h; cases h; exact ⟨n,rfl,rfl⟩
theorem allFlat_str (zs:List Str):(zs.map V.str).all flatV = true:=by
  rw [List.all_eq_true]
  intro x hx
  obtain ⟨z,_,rfl⟩:=List.mem_map.mp hx
  rfl
def isTm (c:Nat):Prop:=97 ≤ c ∧ c ≤ 122
def TermC (t:List Nat):Prop:=1 ≤ t.length ∧ t.length ≤ 10 ∧ ∀ c ∈ t,isTm c
abbrev tmsT:Str := "abcdefghijklmnopqrstuvwxyz"
theorem at_tms {k:Nat} (h:k < 26):atI tmsT.cps.toList ((k:Nat):Int) = some (97 + k):=by
  refine atI_nat ?_
  have q:∀ k:_root_.Fin 26,tmsT.cps.toList[k.val]? = some (97 + k.val):=by decide +kernel
  exact q ⟨k,h⟩
def midC (bs:List Nat) (m k:Nat):List Nat:=bs.take m ++ [97 + k % 23] ++ bs.drop m
def wordC (bs:List Nat) (m k:Nat):List Nat:=if 23 ≤ k ∨ bs.length < 2 then (97 + k / 23) :: midC bs m k else midC bs m k
theorem mid_len {bs:List Nat} {m k:Nat} (h:m ≤ bs.length):(midC bs m k).length = bs.length + 1:=by
  unfold midC
  rw [List.length_append,List.length_append,List.length_take,List.length_drop]
  show _ + 1 + _ = _
  omega
theorem mid_inj {bs:List Nat} {m k j:Nat} (h:m ≤ bs.length) (e:midC bs m k = midC bs m j):k % 23 = j % 23:=by
  have g:∀ i,(midC bs m i)[m]? = some (97 + i % 23):=fun i => by
    unfold midC
    rw [List.append_assoc,List.getElem?_append_right (by rw [List.length_take]; omega),List.length_take,Nat.min_eq_left h,Nat.sub_self]
    rfl
  have q:=g k
  rw [e,g j] at q
  injection q with q
  omega
theorem word_inj {bs:List Nat} {m k j:Nat} (h:m ≤ bs.length) (e:wordC bs m k = wordC bs m j):k = j:=by
  unfold wordC at e
  by_cases h1:23 ≤ k ∨ bs.length < 2 <;> by_cases h2:23 ≤ j ∨ bs.length < 2
  · rw [if_pos h1,if_pos h2] at e
    injection e with e1 e2
    have:=mid_inj h e2
    omega
  · rw [if_pos h1,if_neg h2] at e
    have:=congrArg List.length e
    rw [List.length_cons,mid_len h,mid_len h] at this
    omega
  · rw [if_neg h1,if_pos h2] at e
    have:=congrArg List.length e
    rw [List.length_cons,mid_len h,mid_len h] at this
    omega
  · rw [if_neg h1,if_neg h2] at e
    have:=mid_inj h e
    omega
theorem word_ok {bs:List Nat} {m k:Nat} (h:m ≤ bs.length) (h4:bs.length ≤ 4) (hL:∀ d ∈ bs,isLet d) (hk:k < 100):1 ≤ (wordC bs m k).length ∧ (wordC bs m k).length ≤ 6 ∧ ∀ d ∈ wordC bs m k,isLet d:=by
  have hm:∀ d ∈ midC bs m k,isLet d:=fun d hd => by
    unfold midC at hd
    rcases List.mem_append.mp hd with hd | hd
    · rcases List.mem_append.mp hd with hd | hd
      · exact hL d (List.mem_of_mem_take hd)
      · rw [List.mem_singleton.mp hd]; exact ⟨by omega,by omega⟩
    · exact hL d (List.mem_of_mem_drop hd)
  have hl:=mid_len (k:=k) h
  unfold wordC
  split
  · rw [List.length_cons]
    refine ⟨by omega,by omega,fun d hd => ?_⟩
    rcases List.mem_cons.mp hd with z | z
    · rw [z]; exact ⟨by omega,by omega⟩
    · exact hm d z
  · exact ⟨by omega,by omega,hm⟩
def codeI (n:Int):Nat:=97 + n.toNat
def BkAt (H:Hp) (r:Addr) (bk:List (Str × Str)):Prop:=∃ ps:List Addr,H r = some (.lst (ps.map V.ref)) ∧ ps.length = bk.length ∧ ∀ (j:Nat) p b,ps[j]? = some p → bk[j]? = some b → H p = some (.tup [.str b.1,.str b.2])
theorem BkAt.keep {H H':Hp} {r:Addr} {bk:List (Str × Str)} (h:BkAt H r bk) (s:Same H H'):BkAt H' r bk:=by
  obtain ⟨ps,h1,h2,h3⟩:=h
  exact ⟨ps,s _ _ h1,h2,fun j p b hp hb => s _ _ (h3 j p b hp hb)⟩
def meanC (ts:List (List Nat)):Str:=Txt.join " " (ts.map strC)
structure GoodBk (bk:List (Str × Str)):Prop where
  le:bk.length ≤ 60
  words:(bk.map (·.1)).Nodup
  means:(bk.map (·.2)).Nodup
  word:∀ b ∈ bk,∃ cw:List Nat,b.1 = strC cw ∧ 1 ≤ cw.length ∧ cw.length ≤ 6 ∧ ∀ d ∈ cw,isLet d
  mean:∀ b ∈ bk,∃ ts:List (List Nat),b.2 = meanC ts ∧ 1 ≤ ts.length ∧ ts.length ≤ 5 ∧ ∀ t ∈ ts,TermC t
theorem sum_terms:∀ ts:List (List Nat),(∀ t ∈ ts,TermC t) → ((ts.map strC).map (·.length)).sum ≤ 10 * ts.length
  | [],_ => Nat.le_refl _
  | t :: r,h => by
    rw [List.map_cons,List.map_cons,List.sum_cons,List.length_cons,strC_len]
    have h1:=(h t List.mem_cons_self).2.1
    have:=sum_terms r fun x hx => h x (List.mem_cons_of_mem _ hx)
    omega
theorem cutV_drop {xs:List V} {k:Int} (h:0 ≤ k):cutV xs (some k) none = xs.drop k.toNat:=by
  unfold cutV
  show (xs.drop (if k < 0 then (k + (xs.length:Int)).toNat else min k.toNat xs.length)).take (xs.length - (if k < 0 then (k + (xs.length:Int)).toNat else min k.toNat xs.length)) = _
  rw [if_neg (by omega)]
  by_cases hk:k.toNat ≤ xs.length
  · rw [Nat.min_eq_left hk,List.take_of_length_le (by rw [List.length_drop]; omega)]
  · rw [Nat.min_eq_right (by omega),List.drop_eq_nil_of_le (by omega),List.drop_eq_nil_of_le (by omega),List.take_nil]
theorem foldl_sep (sep:Array Nat):∀ (ys:List Str) (acc:Array Nat),(ys.foldl (fun acc p => acc ++ sep ++ p.cps) acc).toList = acc.toList ++ (ys.map fun y => sep.toList ++ y.cps.toList).flatten
  | [],acc => by simp
  | y :: r,acc => by
    rw [List.foldl_cons,foldl_sep sep r]
    simp
theorem join_sep (sep y:Str) (r:List Str):(Txt.join sep (y :: r)).cps.toList = y.cps.toList ++ (r.map fun y => sep.cps.toList ++ y.cps.toList).flatten:=by
  have e:=foldl_sep sep.cps r y.cps
  rw [← e]
  rfl
theorem mean_len {ts:List (List Nat)} (h5:ts.length ≤ 5) (h:∀ t ∈ ts,TermC t):(meanC ts).length ≤ 60:=by
  unfold meanC
  cases ts with
  | nil => exact Nat.zero_le _
  | cons t r =>
    have hl:∀ r:List (List Nat),(∀ t ∈ r,TermC t) → ((r.map strC).map fun y => (Str.ofString " ").cps.toList ++ y.cps.toList).flatten.length ≤ 11 * r.length:=fun r h => by
      induction r with
      | nil => exact Nat.le_refl _
      | cons u v ih =>
        rw [List.map_cons,List.map_cons,List.flatten_cons,List.length_append,List.length_append,List.length_cons]
        have h1:=(h u List.mem_cons_self).2.1
        have h2:=ih fun x hx => h x (List.mem_cons_of_mem _ hx)
        rw [strC_list]
        have h3:(Str.ofString " ").cps.toList.length = 1:=rfl
        omega
    have e:=join_sep (Str.ofString " ") (strC t) (r.map strC)
    have h1:=(h t List.mem_cons_self).2.1
    have h2:=hl r fun x hx => h x (List.mem_cons_of_mem _ hx)
    rw [← len_toList,List.map_cons,show Txt.join " " (strC t :: r.map strC) = Txt.join (Str.ofString " ") (strC t :: r.map strC) from rfl,e,List.length_append,strC_list]
    rw [List.length_cons] at h5
    omega
def sp_law (K:PySem.W.Frag):Sp:=fun vs H Q _ => ∃ (a:Addr) (ns:List Int),vs = [.ref a] ∧ SqL K H a (ns.map V.int) ∧ ns.length ≤ 63 ∧ ∀ H',Q (.bl true) H'
section
variable {P:Program} {w:World} {K:PySem.W.Frag} {mg:Str → Option Value} {base:Heap}
def sp_l_cell_at (K:PySem.W.Frag):Sp:=fun vs H Q _ => ∃ (a:Addr) (ns:List Int) (k:Int),vs = [.ref a,.int k] ∧ SqL K H a (ns.map V.int) ∧ 0 ≤ k ∧ ∀ n:Int,Q (.int n) H
theorem sc_l_cell_at:FnScope ["_law_script", "_law_k"] ["_law_script", "_law_k"] (defScope s_l_cell_at):=⟨rfl,rfl,rfl,by decide +kernel,rfl,by decide +kernel,by decide +kernel⟩
theorem ok_l_cell_at {aNoBook aNoText aTowerError aNoHoist aShort aLack aNoCut aNoWord aNoHalyard aNoFlag aNoDeed aNoRow:Addr} {f:Addr} {fd:FuncData} (F:Fun K "_law_cell_at" "_law_cell_at" s_l_cell_at f fd) (G:Gs K mg aNoBook aNoText aTowerError aNoHoist aShort aLack aNoCut aNoWord aNoHalyard aNoFlag aNoDeed aNoRow)  : FnOk P w K mg base CX0 1 f fd ["_law_script", "_law_k"] (sp_l_cell_at K):=by
  refine F.ok sc_l_cell_at (fun vs H Q E h => ?_) (fun cdv A outer s H vs Q E hr h => ?_)
  · obtain ⟨a,ns,k,rfl,_⟩:=h; rfl
  obtain ⟨a,ns,k,rfl,hS,h0,q⟩:=h
  refine ⟨_,(@pss_cons _ _ _ _ _ (ps_if (mt_cmp m_lt (mv 1) (pe_callB call_len_seq rfl G.b_len bt_len (pa_cons (mv 0) pa_nil)) (nomark _)) (@pss_one _ _ _ (ps_ret (pe_ix ix_list (mv 0) (mv 1) (fun _ _ => rfl)))) pss_nil) (@pss_one _ _ _ (ps_ret pe_int))),?_⟩
  walk_at "go"
  refine ⟨_,_,rfl,.inl hS,?_⟩
  have hnl:(ns.map V.int).length = ns.length:=List.length_map ..
  rw [hnl]
  walk_at "go"
  refine ite2 (fun hd => ?_) (fun hd => ?_)
  · have hd':=of_decide_eq_true hd
    obtain ⟨n,_,an⟩:=get_int (ns:=ns) (i:=k) h0 hd'
    walk_at "go"
    exact s_ixK hS an (q n)
  · walk_at "go"
    exact q 0
def sp_l_mixed:Sp:=fun vs H Q _ => ∃ c k:Int,vs = [.int c,.int k] ∧ 0 ≤ k ∧ k ≤ 1000 ∧ ∀ n:Int,0 ≤ n → Q (.int n) H
theorem sc_l_mixed:FnScope ["_law_cell", "_law_k"] ["_law_cell", "_law_k"] (defScope s_l_mixed):=⟨rfl,rfl,rfl,by decide +kernel,rfl,by decide +kernel,by decide +kernel⟩
theorem ok_l_mixed {aNoBook aNoText aTowerError aNoHoist aShort aLack aNoCut aNoWord aNoHalyard aNoFlag aNoDeed aNoRow:Addr} {f:Addr} {fd:FuncData} (F:Fun K "_law_mixed" "_law_mixed" s_l_mixed f fd) (G:Gs K mg aNoBook aNoText aTowerError aNoHoist aShort aLack aNoCut aNoWord aNoHalyard aNoFlag aNoDeed aNoRow)  : FnOk P w K mg base CX0 1 f fd ["_law_cell", "_law_k"] sp_l_mixed:=by
  refine F.ok sc_l_mixed (fun vs H Q E h => ?_) (fun cdv A outer s H vs Q E hr h => ?_)
  · obtain ⟨c,k,rfl,_⟩:=h; rfl
  obtain ⟨c,k,rfl,h0,h1,q⟩:=h
  refine ⟨_,(@pss_one _ _ _ (ps_ret (pe_op m_mod (pe_op m_mul (pe_op m_add (pe_op m_mod (mv 0) (pe_op m_pow pe_int pe_int)) pe_int) (pe_op m_add pe_int (pe_op m_mul (pe_op m_mul pe_int (mv 1)) (mv 1)))) pe_int))),?_⟩
  walk_at "go"
  refine s_pow ?_
  have m0:=Int.emod_nonneg c (show (1000000000000000000:Int) ≠ 0 by decide)
  have m1:=Int.emod_lt_of_pos c (show (0:Int) < 1000000000000000000 by decide)
  walk_at "go"
  exact q _ (Int.emod_nonneg _ (by decide))
def bsI (c:Int):List Int:=(List.range (c % 5).toNat).map fun j:Nat => (c / ((0:Int) + (j:Int) + 1) + (0 + (j:Int)) * (0 + (j:Int))) % 23
def bsC (c:Int):List Nat:=(bsI c).map codeI
def mC (c:Int):Nat:=(c / 5 % (((bsI c).length:Int) + 1)).toNat
theorem bsI_len (c:Int):(bsI c).length = (c % 5).toNat:=by unfold bsI; rw [List.length_map,List.length_range]
theorem bsC_len (c:Int):(bsC c).length = (c % 5).toNat:=by unfold bsC; rw [List.length_map,bsI_len]
theorem bsI_ok {c n:Int} (h:n ∈ bsI c):0 ≤ n ∧ n < 23:=by
  obtain ⟨j,_,rfl⟩:=List.mem_map.mp h
  exact ⟨Int.emod_nonneg _ (by decide),Int.emod_lt_of_pos _ (by decide)⟩
theorem bsC_let (c:Int):∀ d ∈ bsC c,isLet d:=fun d hd => by
  obtain ⟨n,hn,rfl⟩:=List.mem_map.mp hd
  have:=bsI_ok hn
  unfold codeI
  exact ⟨by omega,by omega⟩
theorem mC_le (c:Int):mC c ≤ (bsC c).length:=by
  have h1:=Int.emod_lt_of_pos (c / 5) (show (0:Int) < ((bsI c).length:Int) + 1 by omega)
  have h2:=bsI_len c
  have h3:=bsC_len c
  unfold mC
  omega
def sp_l_word:Sp:=fun vs H Q _ => ∃ (c:Int) (k:Nat),vs = [.int c,.int (k:Int)] ∧ 0 ≤ c ∧ k < 100 ∧ ∀ H',Same H H' → Q (.str (strC (wordC (bsC c) (mC c) k))) H'
theorem sc_l_word:FnScope ["_law_cell", "_law_k", "_law_letters", "_law_base", "_law_at", "_law_some"] ["_law_cell", "_law_k"] (defScope s_l_word):=⟨rfl,rfl,rfl,by decide +kernel,rfl,by decide +kernel,by decide +kernel⟩
theorem ok_l_word {aNoBook aNoText aTowerError aNoHoist aShort aLack aNoCut aNoWord aNoHalyard aNoFlag aNoDeed aNoRow:Addr} {f:Addr} {fd:FuncData} (F:Fun K "_law_word" "_law_word" s_l_word f fd) (G:Gs K mg aNoBook aNoText aTowerError aNoHoist aShort aLack aNoCut aNoWord aNoHalyard aNoFlag aNoDeed aNoRow)  : FnOk P w K mg base CX0 1 f fd ["_law_cell", "_law_k"] sp_l_word:=by
  refine F.ok sc_l_word (fun vs H Q E h => ?_) (fun cdv A outer s H vs Q E hr h => ?_)
  · obtain ⟨c,k,rfl,_⟩:=h; rfl
  obtain ⟨c,k,rfl,h0,hk,q⟩:=h
  refine ⟨_,(@pss_cons _ _ _ _ _ (@ps_set _ _ 2 _ _ _ _ sc_l_word.nd (by rfl) (by exact (Or.inr rfl)) pe_str (by rfl) (by first | exact Or.inl rfl | exact Or.inr rfl)) (@pss_cons _ _ _ _ _ (ps_setC (i:=3) sc_l_word.nd rfl (Or.inl rfl) rfl (pj_range1 rfl G.b_range (pa_cons (pe_op m_mod (mv 0) pe_int) pa_nil)) (clOkF (N:=["_law_j", "_law_cell"]) ["_law_cell", "_law_k", "_law_letters", "_law_base", "_law_at", "_law_some"] (defScope s_l_word) [none,some 0] rfl rfl rfl (fun x h => cell_has h) (by decide +kernel)) (by decide +kernel) rfl (by decide +kernel) (fun C s₀ H₀ ex => (pg_name (i:=0) (show List.Nodup (["_law_j", "_law_cell"]:List Str) by decide +kernel) rfl (Or.inl rfl))) (fun C s₀ H₀ ex => pf_nil) (fun C s₀ H₀ ex => (pe_op m_mod (pe_op m_add (pe_op m_fdiv (mv 1) (pe_op m_add (mv 0) pe_int)) (pe_op m_mul (mv 0) (mv 0))) pe_int))) (@pss_cons _ _ _ _ _ (@ps_set _ _ 4 _ _ _ _ sc_l_word.nd (by rfl) (by exact (Or.inl rfl)) (pe_op m_mod (pe_op m_fdiv (mv 0) pe_int) (pe_op m_add (pe_callB m_len rfl G.b_len bt_len (pa_cons (mv 3) pa_nil)) pe_int)) (by rfl) (by first | exact Or.inl rfl | exact Or.inr rfl)) (@pss_cons _ _ _ _ _ (@ps_set _ _ 5 _ _ _ _ sc_l_word.nd (by rfl) (by exact (Or.inl rfl)) (pe_op m_add (pe_op m_add (pe_slice m_sl (mv 3) po_none (mo_some (mv 4))) (pe_lst (pa_cons (pe_op m_mod (mv 1) pe_int) pa_nil))) (pe_slice m_sl (mv 3) (mo_some (mv 4)) po_none)) (by rfl) (by first | exact Or.inl rfl | exact Or.inr rfl)) (@pss_cons _ _ _ _ _ (ps_if (PW.pt (pw_or (mt_cmp m_ge (mv 1) pe_int (nomark _)) (pw_or1 (mt_cmp m_lt (pe_op m_mod (mv 0) pe_int) pe_int (nomark _))))) (@pss_one _ _ _ (@ps_set _ _ 5 _ _ _ _ sc_l_word.nd (by rfl) (by exact (Or.inl rfl)) (pe_op m_add (pe_lst (pa_cons (pe_op m_fdiv (mv 1) pe_int) pa_nil)) (pe_slice m_sl (mv 5) po_none (mo_some pe_int))) (by rfl) (by first | exact Or.inl rfl | exact Or.inr rfl))) pss_nil) (@pss_one _ _ _ (ps_ret (me_meth PySem.F.plainAttrs_str PySem.F.slot_str_join PySem.F.type_str_join m_join pe_str (pa_cons (pe_comp rfl (pj_list (pe_slice m_sl (mv 5) po_none (mo_some pe_int))) (clOkF (N:=["_law_number", "_law_letters"]) ["_law_cell", "_law_k", "_law_letters", "_law_base", "_law_at", "_law_some"] (defScope s_l_word) [none,some 2] rfl rfl rfl (fun x h => cell_has h) (by decide +kernel)) (by decide +kernel) rfl (by decide +kernel) (fun C s₀ H₀ ex => (pg_name (i:=0) (show List.Nodup (["_law_number", "_law_letters"]:List Str) by decide +kernel) rfl (Or.inl rfl))) (fun C s₀ H₀ ex => pf_nil) (fun C s₀ H₀ ex => (pe_ix m_ix (mv 1) (mv 0) (fun _ _ => rfl)))) pa_nil))))))))),?_⟩
  have c0:=Int.emod_nonneg c (show (5:Int) ≠ 0 by decide)
  have c1:=Int.emod_lt_of_pos c (show (0:Int) < 5 by decide)
  walk_at "go"
  refine ⟨⟨by omega,by omega⟩,?_⟩
  refine cw_rangeF (fun j:Nat => some (V.int ((c / ((0:Int) + (j:Int) + 1) + (0 + (j:Int)) * (0 + (j:Int))) % 23))) (lt_line (by omega)) (fun i Hc A B hi sm hA => ?_) (fun D Hd hD sD hd => ?_)
  · walk_at "go"
    refine ⟨Wk.set rfl (Wk.refl _),?_⟩
    walk_at "go"
    exact hA _ (Same.refl _)
  · rw [fm_some (fun j:Nat => V.int ((c / ((0:Int) + (j:Int) + 1) + (0 + (j:Int)) * (0 + (j:Int))) % 23))] at hd
    have eb:(List.range (c % 5).toNat).map (fun j:Nat => V.int ((c / ((0:Int) + (j:Int) + 1) + (0 + (j:Int)) * (0 + (j:Int))) % 23)) = (bsI c).map V.int:=by unfold bsI; rw [List.map_map]; rfl
    rw [eb] at hd
    have hb4:(bsI c).length ≤ 4:=by rw [bsI_len]; omega
    clear c0 c1
    have hlen:((bsI c).map V.int).length = (bsI c).length:=List.length_map ..
    have rD:=rdL_of hd
    walk_at "go"
    rw [hlen]
    have em:c / 5 % (((bsI c).length:Int) + 1) = ((mC c:Nat):Int):=by
      have:=Int.emod_nonneg (c / 5) (show (((bsI c).length:Int) + 1) ≠ 0 by omega)
      unfold mC
      omega
    rw [em]
    have hml:mC c ≤ (bsI c).length:=by have:=mC_le c; rw [bsC_len,← bsI_len] at this; exact this
    intro r hr
    rw [cut_take (by omega),show ((mC c:Nat):Int).toNat = mC c from rfl,← List.map_take]
    have lt:(((bsI c).take (mC c)).map V.int).length ≤ 4:=by rw [List.length_map,List.length_take]; omega
    have ld:(((bsI c).drop (mC c)).map V.int).length ≤ 4:=by rw [List.length_map,List.length_drop]; omega
    have sa:=same_upd hr (.lst (((bsI c).take (mC c)).map V.int))
    have ea:(upd Hd r (.lst (((bsI c).take (mC c)).map V.int))) r = _:=upd_same
    generalize upd Hd r (.lst (((bsI c).take (mC c)).map V.int)) = Ha at sa ea ⊢
    walk_at "go"
    refine ⟨by show 1 ≤ sizeLine; decide,fun p hp => ?_⟩
    have np:r ≠ p:=ne_of_none ea hp
    refine s_addL (xs:=((bsI c).take (mC c)).map V.int) (ys:=[V.int ((k:Int) % 23)]) (by rw [mutL_ne np]; exact mutL_of ea) mutL_same (len_line (by show _ + 1 ≤ _; omega)) fun l hl => ?_
    have sb:=sa.trans ((same_upd hp (.lst [V.int ((k:Int) % 23)])).trans (same_upd hl (.lst (((bsI c).take (mC c)).map V.int ++ [V.int ((k:Int) % 23)]))))
    have eb:(upd (upd Ha p (.lst [V.int ((k:Int) % 23)])) l (.lst (((bsI c).take (mC c)).map V.int ++ [V.int ((k:Int) % 23)]))) l = _:=upd_same
    generalize upd (upd Ha p (.lst [V.int ((k:Int) % 23)])) l (.lst (((bsI c).take (mC c)).map V.int ++ [V.int ((k:Int) % 23)])) = Hb at sb eb ⊢
    have rb:=rdL_keep sb rD
    walk_at "go"
    intro t ht
    rw [cutV_drop (by omega),show ((mC c:Nat):Int).toNat = mC c from rfl,← List.map_drop]
    have nt:l ≠ t:=ne_of_none eb ht
    refine s_addL (xs:=((bsI c).take (mC c)).map V.int ++ [V.int ((k:Int) % 23)]) (ys:=((bsI c).drop (mC c)).map V.int) (by rw [mutL_ne nt]; exact mutL_of eb) mutL_same (len_line (by rw [List.length_append]; show _ + 1 + _ ≤ _; omega)) fun g hg => ?_
    have eL:((bsI c).take (mC c)).map V.int ++ [V.int ((k:Int) % 23)] ++ ((bsI c).drop (mC c)).map V.int = ((bsI c).take (mC c) ++ [(k:Int) % 23] ++ (bsI c).drop (mC c)).map V.int:=by rw [List.map_append,List.map_append]; rfl
    rw [eL]
    have hML:((bsI c).take (mC c) ++ [(k:Int) % 23] ++ (bsI c).drop (mC c)).map codeI = midC (bsC c) (mC c) k:=by
      unfold midC bsC codeI
      rw [List.map_append,List.map_append,List.map_take,List.map_drop,List.map_cons,List.map_nil,show ((k:Int) % 23).toNat = k % 23 by omega]
    have hMn:∀ n ∈ (bsI c).take (mC c) ++ [(k:Int) % 23] ++ (bsI c).drop (mC c),0 ≤ n ∧ n < 23:=fun n hn => by
      rcases List.mem_append.mp hn with z | z
      · rcases List.mem_append.mp z with z | z
        · exact bsI_ok (List.mem_of_mem_take z)
        · rw [List.mem_singleton.mp z]; omega
      · exact bsI_ok (List.mem_of_mem_drop z)
    have hMl:((bsI c).take (mC c) ++ [(k:Int) % 23] ++ (bsI c).drop (mC c)).length = (bsI c).length + 1:=by
      rw [List.length_append,List.length_append,List.length_take,List.length_drop]
      show _ + 1 + _ = _
      omega
    generalize ((bsI c).take (mC c) ++ [(k:Int) % 23] ++ (bsI c).drop (mC c)) = M at hML hMn hMl ⊢
    have sc:=sb.trans ((same_upd ht (.lst (((bsI c).drop (mC c)).map V.int))).trans (same_upd hg (.lst (M.map V.int))))
    have ec:(upd (upd Hb t (.lst (((bsI c).drop (mC c)).map V.int))) g (.lst (M.map V.int))) g = _:=upd_same
    generalize upd (upd Hb t (.lst (((bsI c).drop (mC c)).map V.int))) g (.lst (M.map V.int)) = H1 at sc ec ⊢
    have sc1:=sD.trans sc
    refine s_gname ?_
    refine s_seqJ (fun σ' H' => ∃ (x:Addr) (L:List Int),σ' = [some (.int c),some (.int (k:Int)),some (.str (Str.ofString "abcdefghijklmnopqrstuvw")),some (.ref D),some (.int (mC c:Nat)),some (.ref x)] ∧ Same H H' ∧ H' x = some (.lst (L.map V.int)) ∧ L.length ≤ 6 ∧ (∀ n ∈ L,0 ≤ n ∧ n < 23) ∧ L.map codeI = wordC (bsC c) (mC c) k) ?_ ?_
    · rintro σ' H2 ⟨x,L,rfl,s2,e2,hl6,hLn,hLw⟩
      have r2:=rdL_of e2
      walk_at "go"
      intro y hy
      rw [cut_take (by omega),show (6:Int).toNat = 6 from rfl,List.take_of_length_le (by rw [List.length_map]; exact hl6)]
      have s3:=same_upd hy (.lst (L.map V.int))
      have r3:rdL (upd H2 y (.lst (L.map V.int))) y = some (L.map V.int):=rdL_same
      generalize upd H2 y (.lst (L.map V.int)) = H3 at s3 r3 ⊢
      walk_at "go"
      refine cw_list (xs:=L.map V.int) (fun x => match x with | .int n => some (.str (one (codeI n))) | _ => none) r3 (by rw [List.length_map]; exact lt_line (by omega)) (fun i x Hc A B hx hk hA => ?_) (fun D2 hD2 => ?_)
      · obtain ⟨n,hn,rfl⟩:=of_map_int hx
        have hn2:=hLn n hn
        walk_at "go"
        refine ⟨Wk.set rfl (Wk.refl _),?_⟩
        walk_at "go"
        have e1:=at_lets (k:=n.toNat) (by omega)
        rw [show ((n.toNat:Nat):Int) = n by omega] at e1
        refine s_ixS (by decide) e1 ?_
        exact hA
      · have e:(L.map V.int).filterMap (fun x => match x with | .int n => some (V.str (one (codeI n))) | _ => none) = ((L.map codeI).map one).map V.str:=by
          rw [List.filterMap_map,List.map_map,List.map_map]
          exact fm_some (fun n:Int => V.str (one (codeI n))) L
        rw [e]
        walk_at "go"
        refine s_join (ss:=(L.map codeI).map one) rdL_same (by rw [ones_sum,List.length_map,List.length_map,show (Str.ofString "").length = 0 from rfl]; omega) ?_
        rw [join_ones,hLw]
        exact q _ (s2.trans (s3.trans (same_upd hD2 _)))
    · intro N hN
      have r1:=rdL_of ec
      have cons_case:(23 ≤ k ∨ (bsC c).length < 2) → ∀ (Z:St → Hp → Prop),True:=fun _ _ => trivial
      have app:∀ (hcond:23 ≤ k ∨ (bsC c).length < 2),tAsg (tOp mAdd (tLst (tCons (tOp (mIC CDiv fun i j => V.int (i / j)) (mVar 1) (tC (V.int 23))) tNil)) (tSl mSl (mVar 5) tNoPart (mPart (tC (V.int 5))))) (gName 5)
          { nx:=N,rt:=Q } [some (.int c),some (.int (k:Int)),some (.str (Str.ofString "abcdefghijklmnopqrstuvw")),some (.ref D),some (.int (mC c:Nat)),some (.ref g)] H1:=fun hcond => by
        walk_at "go"
        refine ⟨by show 1 ≤ sizeLine; decide,fun p2 hp2 => ?_⟩
        have s2:=same_upd hp2 (.lst [V.int ((k:Int) / 23)])
        have e2:(upd H1 p2 (.lst [V.int ((k:Int) / 23)])) p2 = _:=upd_same
        have r2:=rdL_keep s2 r1
        generalize upd H1 p2 (.lst [V.int ((k:Int) / 23)]) = H2 at s2 e2 r2 ⊢
        walk_at "go"
        intro y hy
        rw [cut_take (by omega),show (5:Int).toNat = 5 from rfl,List.take_of_length_le (by rw [List.length_map]; omega)]
        have ny:p2 ≠ y:=ne_of_none e2 hy
        refine s_addL (xs:=[V.int ((k:Int) / 23)]) (ys:=M.map V.int) (by rw [mutL_ne ny]; exact mutL_of e2) mutL_same (len_line (by rw [List.length_map]; show 1 + _ ≤ _; omega)) fun u hu => ?_
        walk_at "go"
        refine hN _ _ ⟨u,(k:Int) / 23 :: M,rfl,sc1.trans (s2.trans ((same_upd hy _).trans (same_upd hu _))),upd_same,by rw [List.length_cons]; omega,fun n hn => ?_,?_⟩
        · rcases List.mem_cons.mp hn with z | z
          · rw [z]; omega
          · exact hMn n z
        · unfold wordC
          rw [if_pos hcond,List.map_cons,hML]
          unfold codeI
          rw [show ((k:Int) / 23).toNat = k / 23 by omega]
      have hbl2:=bsC_len c
      walk_at "go"
      refine ite2 (fun hd => ?_) (fun hd => ?_)
      · exact app (.inl (by have:=of_decide_eq_true hd; omega))
      · have hd':=of_decide_eq_false (Bool.eq_false_iff.mpr hd)
        walk_at "go"
        refine ite2 (fun he => ?_) (fun he => ?_)
        · exact app (.inr (by have:=of_decide_eq_true he; omega))
        · have he':=of_decide_eq_false (Bool.eq_false_iff.mpr he)
          walk_at "go"
          refine hN _ _ ⟨g,M,rfl,sc1,ec,by omega,hMn,?_⟩
          unfold wordC
          rw [if_neg (by omega),hML]
theorem rep_ints (n:Nat):(List.replicate n [V.int 25]).flatten = (List.replicate n (25:Int)).map V.int:=by
  induction n with
  | zero => rfl
  | succ n ih => rw [List.replicate_succ,List.flatten_cons,ih,List.replicate_succ,List.map_cons]; rfl
def IntsOk (L:List Int):Prop:=∀ n ∈ L,0 ≤ n ∧ n < 26
theorem ints_app {L M:List Int} (h:IntsOk L) (g:IntsOk M):IntsOk (L ++ M):=fun n hn => (List.mem_append.mp hn).elim (h n) (g n)
theorem ints_take {L:List Int} (h:IntsOk L) (k:Nat):IntsOk (L.take k):=fun n hn => h n (List.mem_of_mem_take hn)
theorem ints_drop {L:List Int} (h:IntsOk L) (k:Nat):IntsOk (L.drop k):=fun n hn => h n (List.mem_of_mem_drop hn)
theorem term_of {L:List Int} (h1:1 ≤ L.length) (h10:L.length ≤ 10) (h:IntsOk L):TermC (L.map codeI):=by
  refine ⟨by rw [List.length_map]; exact h1,by rw [List.length_map]; exact h10,fun c hc => ?_⟩
  obtain ⟨n,hn,rfl⟩:=List.mem_map.mp hc
  have:=h n hn
  unfold codeI
  exact ⟨by omega,by omega⟩
def sp_l_terms:Sp:=fun vs H Q _ => ∃ c:Int,vs = [.int c] ∧ 0 ≤ c ∧ ∀ (r:Addr) (ts:List (List Nat)) (H':Hp),H r = none → Same H H' → H' r = some (.lst ((ts.map strC).map V.str)) → ts.length = 4 → (∀ t ∈ ts,TermC t) → Q (.ref r) H'
theorem sc_l_terms:FnScope ["_law_cell", "_law_letters", "_law_size", "_law_at", "_law_base", "_law_terms_here", "_law_k", "_law_some"] ["_law_cell"] (defScope s_l_terms):=⟨rfl,rfl,rfl,by decide +kernel,rfl,by decide +kernel,by decide +kernel⟩
theorem ok_l_terms {aNoBook aNoText aTowerError aNoHoist aShort aLack aNoCut aNoWord aNoHalyard aNoFlag aNoDeed aNoRow:Addr} {f:Addr} {fd:FuncData} (F:Fun K "_law_terms" "_law_terms" s_l_terms f fd) (G:Gs K mg aNoBook aNoText aTowerError aNoHoist aShort aLack aNoCut aNoWord aNoHalyard aNoFlag aNoDeed aNoRow)  : FnOk P w K mg base CX0 1 f fd ["_law_cell"] sp_l_terms:=by
  refine F.ok sc_l_terms (fun vs H Q E h => ?_) (fun cdv A outer s H vs Q E hr h => ?_)
  · obtain ⟨c,rfl,_⟩:=h; rfl
  obtain ⟨c,rfl,h0,q⟩:=h
  refine ⟨_,(@pss_cons _ _ _ _ _ (@ps_set _ _ 1 _ _ _ _ sc_l_terms.nd (by rfl) (by exact (Or.inr rfl)) pe_str (by rfl) (by first | exact Or.inl rfl | exact Or.inr rfl)) (@pss_cons _ _ _ _ _ (@ps_set _ _ 2 _ _ _ _ sc_l_terms.nd (by rfl) (by exact (Or.inl rfl)) (pe_op m_add pe_int (pe_op m_mod (mv 0) pe_int)) (by rfl) (by first | exact Or.inl rfl | exact Or.inr rfl)) (@pss_cons _ _ _ _ _ (@ps_set _ _ 3 _ _ _ _ sc_l_terms.nd (by rfl) (by exact (Or.inl rfl)) (pe_op m_mod (pe_op m_fdiv (mv 0) pe_int) (mv 2)) (by rfl) (by first | exact Or.inl rfl | exact Or.inr rfl)) (@pss_cons _ _ _ _ _ (ps_setC (i:=4) sc_l_terms.nd rfl (Or.inl rfl) rfl (pj_range1 rfl G.b_range (pa_cons (mv 2) pa_nil)) (clOkF (N:=["_law_k", "_law_cell"]) ["_law_cell", "_law_letters", "_law_size", "_law_at", "_law_base", "_law_terms_here", "_law_k", "_law_some"] (defScope s_l_terms) [none,some 0] rfl rfl rfl (fun x h => cell_has h) (by decide +kernel)) (by decide +kernel) rfl (by decide +kernel) (fun C s₀ H₀ ex => (pg_name (i:=0) (show List.Nodup (["_law_k", "_law_cell"]:List Str) by decide +kernel) rfl (Or.inl rfl))) (fun C s₀ H₀ ex => pf_nil) (fun C s₀ H₀ ex => (pe_op m_mod (pe_op m_add (pe_op m_fdiv (mv 1) (pe_op m_add (mv 0) pe_int)) (pe_op m_mul (mv 0) (mv 0))) pe_int))) (@pss_cons _ _ _ _ _ (@ps_set _ _ 5 _ _ _ _ sc_l_terms.nd (by rfl) (by exact (Or.inl rfl)) (pe_lst pa_nil) (by rfl) (by first | exact Or.inl rfl | exact Or.inr rfl)) (@pss_cons _ _ _ _ _ (pj_for PassesOwn.never rfl (pj_range1 rfl G.b_range (pa_cons pe_int pa_nil)) (pg_name (i:=6) sc_l_terms.nd rfl (Or.inl rfl)) (@pss_cons _ _ _ _ _ (@ps_set _ _ 7 _ _ _ _ sc_l_terms.nd (by rfl) (by exact (Or.inl rfl)) (pe_op m_add (pe_op m_add (pe_slice m_sl (mv 4) po_none (mo_some (mv 3))) (pe_lst (pa_cons (pe_op m_mod (pe_op m_add (pe_ix m_ix (mv 4) (mv 3) (fun _ _ => rfl)) (pe_op m_mul pe_int (mv 6))) pe_int) pa_nil))) (pe_slice m_sl (mv 4) (mo_some (pe_op m_add (mv 3) pe_int)) po_none)) (by rfl) (by first | exact Or.inl rfl | exact Or.inr rfl)) (@pss_cons _ _ _ _ _ (@ps_set _ _ 7 _ _ _ _ sc_l_terms.nd (by rfl) (by exact (Or.inl rfl)) (pe_op m_add (mv 7) (pe_op op_rep (pe_lst (pa_cons pe_int pa_nil)) (pe_op m_mul (pe_op m_mod (pe_op m_fdiv (mv 0) pe_int) pe_int) (pe_op m_mod (mv 6) pe_int)))) (by rfl) (by first | exact Or.inl rfl | exact Or.inr rfl)) (@pss_cons _ _ _ _ _ (ps_if (mt_cmp m_eq (pe_op m_mod (pe_op m_fdiv (mv 0) pe_int) pe_int) pe_int (nomark _)) (@pss_one _ _ _ (@ps_set _ _ 7 _ _ _ _ sc_l_terms.nd (by rfl) (by exact (Or.inl rfl)) (pe_op m_add (pe_slice m_sl (mv 4) po_none (mo_some pe_int)) (pe_slice m_sl (pe_lst (pa_cons pe_int (pa_cons pe_int (pa_cons pe_int pa_nil)))) po_none (mo_some (mv 6)))) (by rfl) (by first | exact Or.inl rfl | exact Or.inr rfl))) pss_nil) (@pss_one _ _ _ (ps_expr (me_meth PySem.F.plainAttrs_list PySem.F.slot_list_append PySem.F.type_list_append m_app (mv 5) (pa_cons (me_meth PySem.F.plainAttrs_str PySem.F.slot_str_join PySem.F.type_str_join m_join pe_str (pa_cons (pe_comp rfl (pj_list (mv 7)) (clOkF (N:=["_law_number", "_law_letters"]) ["_law_cell", "_law_letters", "_law_size", "_law_at", "_law_base", "_law_terms_here", "_law_k", "_law_some"] (defScope s_l_terms) [none,some 1] rfl rfl rfl (fun x h => cell_has h) (by decide +kernel)) (by decide +kernel) rfl (by decide +kernel) (fun C s₀ H₀ ex => (pg_name (i:=0) (show List.Nodup (["_law_number", "_law_letters"]:List Str) by decide +kernel) rfl (Or.inl rfl))) (fun C s₀ H₀ ex => pf_nil) (fun C s₀ H₀ ex => (pe_ix m_ix (mv 1) (mv 0) (fun _ _ => rfl)))) pa_nil)) pa_nil)))))))) (@pss_one _ _ _ (ps_ret (mv 5))))))))),?_⟩
  have c0:=Int.emod_nonneg c (show (9:Int) ≠ 0 by decide)
  have c1:=Int.emod_lt_of_pos c (show (0:Int) < 9 by decide)
  walk_at "go"
  have a0:=Int.emod_nonneg (c / 9) (show 1 + c % 9 ≠ 0 by omega)
  have a1:=Int.emod_lt_of_pos (c / 9) (show 0 < 1 + c % 9 by omega)
  obtain ⟨sz,esz⟩:∃ sz:Nat,1 + c % 9 = (sz:Int):=⟨(1 + c % 9).toNat,by omega⟩
  rw [esz] at a0 a1
  rw [esz]
  obtain ⟨m,em⟩:∃ m:Nat,c / 9 % (sz:Int) = (m:Int):=⟨(c / 9 % (sz:Int)).toNat,by omega⟩
  rw [em] at a0 a1
  rw [em]
  have hsz:1 ≤ sz ∧ sz ≤ 9:=by omega
  clear c0 c1 esz em
  refine ⟨⟨by omega,by omega⟩,?_⟩
  rw [show ((sz:Nat):Int).toNat = sz from rfl]
  refine cw_rangeF (fun j:Nat => some (V.int ((c / ((0:Int) + (j:Int) + 1) + (0 + (j:Int)) * (0 + (j:Int))) % 26))) (lt_line (by omega)) (fun i Hc A B hi sm hA => ?_) (fun D Hd hD sD hd => ?_)
  · walk_at "go"
    refine ⟨Wk.set rfl (Wk.refl _),?_⟩
    walk_at "go"
    exact hA _ (Same.refl _)
  · rw [fm_some (fun j:Nat => V.int ((c / ((0:Int) + (j:Int) + 1) + (0 + (j:Int)) * (0 + (j:Int))) % 26))] at hd
    have eb:(List.range sz).map (fun j:Nat => V.int ((c / ((0:Int) + (j:Int) + 1) + (0 + (j:Int)) * (0 + (j:Int))) % 26)) = ((List.range sz).map (fun j:Nat => (c / ((0:Int) + (j:Int) + 1) + (0 + (j:Int)) * (0 + (j:Int))) % 26)).map V.int:=by rw [List.map_map]; rfl
    rw [eb] at hd
    have hBl:((List.range sz).map (fun j:Nat => (c / ((0:Int) + (j:Int) + 1) + (0 + (j:Int)) * (0 + (j:Int))) % 26)).length = sz:=by rw [List.length_map,List.length_range]
    have hBo:IntsOk ((List.range sz).map (fun j:Nat => (c / ((0:Int) + (j:Int) + 1) + (0 + (j:Int)) * (0 + (j:Int))) % 26)):=fun n hn => by
      obtain ⟨j,_,rfl⟩:=List.mem_map.mp hn
      exact ⟨Int.emod_nonneg _ (by decide),Int.emod_lt_of_pos _ (by decide)⟩
    generalize ((List.range sz).map (fun j:Nat => (c / ((0:Int) + (j:Int) + 1) + (0 + (j:Int)) * (0 + (j:Int))) % 26)) = B at hd hBl hBo
    have rD:=rdL_of hd
    walk_at "go"
    refine ⟨by decide,fun pt hpt => ?_⟩
    walk_at "go"
    refine ⟨⟨by omega,by omega⟩,?_⟩
    refine fj_range (fun i σ H' => ∃ (ts:List (List Nat)) (v6 v7:Option V),σ = [some (.int c),some (.str (Str.ofString "abcdefghijklmnopqrstuvwxyz")),some (.int (sz:Int)),some (.int (m:Int)),some (.ref D),some (.ref pt),v6,v7] ∧ Same Hd H' ∧ H' pt = some (.lst ((ts.map strC).map V.str)) ∧ ts.length = i ∧ ∀ t ∈ ts,TermC t)
      ⟨[],_,_,rfl,same_upd hpt _,upd_same,rfl,fun t ht => nomatch ht⟩ ?_ ?_
    · rintro i σ H2 hi ⟨ts,v6,v7,rfl,s2,hf2,htl,hts⟩
      have hi4:i < 4:=by have:i < (4:Int).toNat:=hi; exact this
      have r2:=rdL_keep s2 rD
      walk_at "go"
      intro r hr
      rw [cut_take (by omega),show ((m:Nat):Int).toNat = m from rfl,← List.map_take]
      have lt:((B.take m).map V.int).length = m:=by rw [List.length_map,List.length_take]; omega
      have ld:((B.drop (m + 1)).map V.int).length = sz - (m + 1):=by rw [List.length_map,List.length_drop]; omega
      have sa:=same_upd hr (.lst ((B.take m).map V.int))
      have ea:(upd H2 r (.lst ((B.take m).map V.int))) r = _:=upd_same
      generalize upd H2 r (.lst ((B.take m).map V.int)) = Ha at sa ea ⊢
      have ra:=rdL_keep sa r2
      obtain ⟨bm,ibm,abm⟩:=get_int (ns:=B) (i:=(m:Int)) (by omega) (by omega)
      walk_at "go"
      refine s_ixL ra abm ?_
      walk_at "go"
      have y0:=Int.emod_nonneg (bm + 5 * (0 + (i:Int))) (show (26:Int) ≠ 0 by decide)
      have y1:=Int.emod_lt_of_pos (bm + 5 * (0 + (i:Int))) (show (0:Int) < 26 by decide)
      generalize (bm + 5 * (0 + (i:Int))) % 26 = y at y0 y1 ⊢
      refine ⟨by show 1 ≤ sizeLine; decide,fun p hp => ?_⟩
      have np:r ≠ p:=ne_of_none ea hp
      refine s_addL (xs:=(B.take m).map V.int) (ys:=[V.int y]) (by rw [mutL_ne np]; exact mutL_of ea) mutL_same (len_line (by show _ + 1 ≤ _; omega)) fun l hl => ?_
      have sb:=sa.trans ((same_upd hp (.lst [V.int y])).trans (same_upd hl (.lst ((B.take m).map V.int ++ [V.int y]))))
      have eb:(upd (upd Ha p (.lst [V.int y])) l (.lst ((B.take m).map V.int ++ [V.int y]))) l = _:=upd_same
      generalize upd (upd Ha p (.lst [V.int y])) l (.lst ((B.take m).map V.int ++ [V.int y])) = Hb at sb eb ⊢
      have rb:=rdL_keep sb r2
      walk_at "go"
      intro t ht
      rw [cutV_drop (by omega),show (((m:Nat):Int) + 1).toNat = m + 1 by omega,← List.map_drop]
      have nt:l ≠ t:=ne_of_none eb ht
      refine s_addL (xs:=(B.take m).map V.int ++ [V.int y]) (ys:=(B.drop (m + 1)).map V.int) (by rw [mutL_ne nt]; exact mutL_of eb) mutL_same (len_line (by rw [List.length_append]; show _ + 1 + _ ≤ _; omega)) fun g hg => ?_
      have eL:(B.take m).map V.int ++ [V.int y] ++ (B.drop (m + 1)).map V.int = (B.take m ++ [y] ++ B.drop (m + 1)).map V.int:=by rw [List.map_append,List.map_append]; rfl
      rw [eL]
      have hMo:IntsOk (B.take m ++ [y] ++ B.drop (m + 1)):=ints_app (ints_app (ints_take hBo _) fun n hn => by rw [List.mem_singleton.mp hn]; exact ⟨y0,y1⟩) (ints_drop hBo _)
      have hMl:(B.take m ++ [y] ++ B.drop (m + 1)).length = sz:=by
        rw [List.length_append,List.length_append,List.length_take,List.length_drop]
        show _ + 1 + _ = _
        omega
      generalize B.take m ++ [y] ++ B.drop (m + 1) = M at hMo hMl ⊢
      have sc:=sb.trans ((same_upd ht (.lst ((B.drop (m + 1)).map V.int))).trans (same_upd hg (.lst (M.map V.int))))
      have ec:(upd (upd Hb t (.lst ((B.drop (m + 1)).map V.int))) g (.lst (M.map V.int))) g = _:=upd_same
      generalize upd (upd Hb t (.lst ((B.drop (m + 1)).map V.int))) g (.lst (M.map V.int)) = H1 at sc ec ⊢
      walk_at "go"
      refine ⟨by show 1 ≤ sizeLine; decide,fun p3 hp3 => ?_⟩
      have s3:=sc.trans (same_upd hp3 (.lst [V.int 25]))
      have e3:=same_upd hp3 (.lst [V.int 25]) _ _ ec
      have e4:(upd H1 p3 (.lst [V.int 25])) p3 = _:=upd_same
      generalize upd H1 p3 (.lst [V.int 25]) = H3 at s3 e3 e4 ⊢
      walk_at "go"
      have hn:0 ≤ c / 81 % 2 * ((0 + (i:Int)) % 2) ∧ c / 81 % 2 * ((0 + (i:Int)) % 2) ≤ 1:=by
        have z:c / 81 % 2 = 0 ∨ c / 81 % 2 = 1:=by omega
        rcases z with z | z <;> rw [z] <;> omega
      generalize c / 81 % 2 * ((0 + (i:Int)) % 2) = n at hn ⊢
      refine ⟨p3,n,[V.int 25],rfl,rfl,e4,by omega,by omega,by show 1 * n.toNat ≤ sizeLine; exact len_line (by omega),fun u hu => ?_⟩
      rw [rep_ints]
      have nu:g ≠ u:=ne_of_none e3 hu
      have lu:((List.replicate n.toNat (25:Int)).map V.int).length = n.toNat:=by rw [List.length_map,List.length_replicate]
      refine s_addL (xs:=M.map V.int) (ys:=(List.replicate n.toNat (25:Int)).map V.int) (by rw [mutL_ne nu]; exact mutL_of e3) mutL_same (len_line (by rw [List.length_map]; omega)) fun x hx => ?_
      rw [← List.map_append]
      have hNo:IntsOk (M ++ List.replicate n.toNat (25:Int)):=ints_app hMo fun z hz => by rw [(List.mem_replicate.mp hz).2]; omega
      have hNl:(M ++ List.replicate n.toNat (25:Int)).length = sz + n.toNat:=by rw [List.length_append,List.length_replicate,hMl]
      generalize M ++ List.replicate n.toNat (25:Int) = M2 at hNo hNl ⊢
      have s5:=s3.trans ((same_upd hu (.lst ((List.replicate n.toNat (25:Int)).map V.int))).trans (same_upd hx (.lst (M2.map V.int))))
      have e5:(upd (upd H3 u (.lst ((List.replicate n.toNat (25:Int)).map V.int))) x (.lst (M2.map V.int))) x = _:=upd_same
      generalize upd (upd H3 u (.lst ((List.replicate n.toNat (25:Int)).map V.int))) x (.lst (M2.map V.int)) = H5 at s5 e5 ⊢
      have hf5:=s5 _ _ hf2
      have r5:=rdL_keep s5 r2
      refine s_gname ?_
      refine s_seqJ (fun σ' H' => ∃ (x:Addr) (L:List Int),σ' = [some (.int c),some (.str (Str.ofString "abcdefghijklmnopqrstuvwxyz")),some (.int (sz:Int)),some (.int (m:Int)),some (.ref D),some (.ref pt),some (.int (0 + (i:Int))),some (.ref x)] ∧ Same H5 H' ∧ H' x = some (.lst (L.map V.int)) ∧ 1 ≤ L.length ∧ L.length ≤ 10 ∧ IntsOk L) ?_ ?_
      · rintro σ' H6 ⟨x6,L,rfl,s6,e6,hL1,hL10,hLo⟩
        have r6:=rdL_of e6
        have hf6:=s6 _ _ hf5
        have hm6:=mutL_of hf6
        walk_at "go"
        refine cw_list (xs:=L.map V.int) (fun x => match x with | .int n => some (.str (one (codeI n))) | _ => none) r6 (by rw [List.length_map]; exact lt_line (by omega)) (fun i x Hc A B hx hk hA => ?_) (fun D2 hD2 => ?_)
        · obtain ⟨n,hn,rfl⟩:=of_map_int hx
          have hn2:=hLo n hn
          walk_at "go"
          refine ⟨Wk.set rfl (Wk.refl _),?_⟩
          walk_at "go"
          have e1:=at_tms (k:=n.toNat) (by omega)
          rw [show ((n.toNat:Nat):Int) = n by omega] at e1
          refine s_ixS (by decide) e1 ?_
          exact hA
        · have e:(L.map V.int).filterMap (fun x => match x with | .int n => some (V.str (one (codeI n))) | _ => none) = ((L.map codeI).map one).map V.str:=by
            rw [List.filterMap_map,List.map_map,List.map_map]
            exact fm_some (fun n:Int => V.str (one (codeI n))) L
          rw [e]
          have s7:=same_upd hD2 (.lst (((L.map codeI).map one).map V.str))
          have r7:rdL (upd H6 D2 (.lst (((L.map codeI).map one).map V.str))) D2 = some (((L.map codeI).map one).map V.str):=rdL_same
          have hf7:=s7 _ _ hf6
          generalize upd H6 D2 (.lst (((L.map codeI).map one).map V.str)) = H7 at s7 r7 hf7 ⊢
          have hm7:=mutL_of hf7
          have htl2:((ts.map strC).map V.str).length < sizeLine:=by rw [List.length_map,List.length_map]; exact lt_line (by omega)
          walk_at "go"
          refine s_join (ss:=(L.map codeI).map one) r7 (by rw [ones_sum,List.length_map,List.length_map,show (Str.ofString "").length = 0 from rfl]; omega) ?_
          rw [join_ones]
          walk_at "go"
          refine ⟨ts ++ [L.map codeI],_,_,rfl,same_put hpt (s2.trans (s5.trans (s6.trans s7))),?_,by rw [List.length_append,htl]; rfl,fun t ht => ?_⟩
          · rw [upd_same,List.map_append,List.map_append]
            rfl
          · rcases List.mem_append.mp ht with z | z
            · exact hts t z
            · rw [List.mem_singleton.mp z]
              exact term_of hL1 hL10 hLo
      · intro N hN
        walk_at "go"
        refine ite2 (fun hd => ?_) (fun hd => ?_)
        · walk_at "go"
          intro y1 hy1
          rw [cut_take (by omega),show (7:Int).toNat = 7 from rfl,← List.map_take]
          have s6:=same_upd hy1 (.lst ((B.take 7).map V.int))
          have e6:(upd H5 y1 (.lst ((B.take 7).map V.int))) y1 = _:=upd_same
          generalize upd H5 y1 (.lst ((B.take 7).map V.int)) = H6 at s6 e6 ⊢
          walk_at "go"
          refine ⟨by show 3 ≤ sizeLine; decide,fun p4 hp4 => ?_⟩
          have s7:=s6.trans (same_upd hp4 (.lst (([18,0,1]:List Int).map V.int)))
          have e7:=same_upd hp4 (.lst (([18,0,1]:List Int).map V.int)) _ _ e6
          have r7:rdL (upd H6 p4 (.lst (([18,0,1]:List Int).map V.int))) p4 = some (([18,0,1]:List Int).map V.int):=rdL_same
          rw [show [V.int 18,V.int 0,V.int 1] = ([18,0,1]:List Int).map V.int from rfl]
          generalize upd H6 p4 (.lst (([18,0,1]:List Int).map V.int)) = H7 at s7 e7 r7 ⊢
          walk_at "go"
          intro y2 hy2
          rw [cut_take (by omega),show (0 + (i:Int)).toNat = i by omega,← List.map_take]
          have n2:y1 ≠ y2:=ne_of_none e7 hy2
          have l1:(B.take 7).length = min 7 sz:=by rw [List.length_take,hBl]
          have l2:(([18,0,1]:List Int).take i).length = min i 3:=by rw [List.length_take]; rfl
          refine s_addL (xs:=(B.take 7).map V.int) (ys:=(([18,0,1]:List Int).take i).map V.int) (by rw [mutL_ne n2]; exact mutL_of e7) mutL_same (len_line (by rw [List.length_map,List.length_map]; omega)) fun y3 hy3 => ?_
          rw [← List.map_append]
          walk_at "go"
          refine hN _ _ ⟨y3,B.take 7 ++ ([18,0,1]:List Int).take i,rfl,s7.trans ((same_upd hy2 _).trans (same_upd hy3 _)),upd_same,by rw [List.length_append]; omega,by rw [List.length_append]; omega,ints_app (ints_take hBo _) (ints_take (show ∀ n ∈ ([18,0,1]:List Int),0 ≤ n ∧ n < 26 by decide) _)⟩
        · walk_at "go"
          exact hN _ _ ⟨x,M2,rfl,Same.refl _,e5,by omega,by omega,hNo⟩
    · rintro σ H2 ⟨ts,v6,v7,rfl,s2,hf2,htl,hts⟩
      walk_at "go"
      exact q pt ts H2 (none_of sD hpt) (sD.trans s2) hf2 htl hts
theorem inV_strs (y:Str) (zs:List Str):inV (.str y) (zs.map V.str) = decide (y ∈ zs):=by
  induction zs with
  | nil => rfl
  | cons z r ih =>
    unfold inV at ih ⊢
    rw [List.map_cons,List.any_cons,ih]
    show (eqV _ _ || _) = _
    by_cases e:y = z
    · subst e
      rw [decide_eq_true List.mem_cons_self]
      simp [eqV]
    · have e2:decide (y ∈ z :: r) = decide (y ∈ r):=decide_eq_decide.mpr ⟨fun h => (List.mem_cons.mp h).elim (fun z => absurd z e) id,List.mem_cons_of_mem _⟩
      rw [e2]
      have:¬ z = y:=fun z => e z.symm
      simp [eqV,e,this]
theorem nodup_ix {α:Type}:∀ {l:List α},(∀ (i j:Nat) (x:α),l[i]? = some x → l[j]? = some x → i = j) → l.Nodup
  | [],_ => List.nodup_nil
  | a :: r,h => List.nodup_cons.mpr ⟨fun m => by
      obtain ⟨j,hj,e⟩:=List.mem_iff_getElem.mp m
      exact absurd (h 0 (j + 1) a rfl (by rw [List.getElem?_cons_succ,List.getElem?_eq_getElem hj,e])) (by omega),
    nodup_ix fun i j x hi hj => by
      have:=h (i + 1) (j + 1) x (by simpa using hi) (by simpa using hj)
      omega⟩
theorem BkAt.put {H:Hp} {r p:Addr} {bk:List (Str × Str)} {xs ys:List V} (h:BkAt H r bk) (e:H p = some (.lst xs)) (n:p ≠ r):BkAt (upd H p (.lst ys)) r bk:=by
  obtain ⟨ps,h1,h2,h3⟩:=h
  refine ⟨ps,by rw [upd_ne (Ne.symm n)]; exact h1,h2,fun j q b hq hb => ?_⟩
  have:=h3 j q b hq hb
  rw [upd_ne (fun z => by rw [z,e] at this; cases this)]
  exact this
def sp_l_book:Sp:=fun vs H Q _ => ∃ (a b:Addr) (ms:List Int) (ts:List (List Nat)) (c:Int),vs = [.ref a,.ref b,.int c] ∧ rdL H a = some (ms.map V.int) ∧ ms.length ≤ 60 ∧ rdL H b = some ((ts.map strC).map V.str) ∧ ts.length = 4 ∧ (∀ t ∈ ts,TermC t) ∧ 0 ≤ c ∧
  ∀ (r:Addr) (bk:List (Str × Str)) (H':Hp),H r = none → Same H H' → BkAt H' r bk → GoodBk bk → Q (.ref r) H'
theorem get_term {ts:List (List Nat)} {i:Int} (h0:0 ≤ i) (h:i < ts.length):∃ t,t ∈ ts ∧ atI ((ts.map strC).map V.str) i = some (.str (strC t)):=by
  obtain ⟨v,h1,h2⟩:=atI_lt (xs:=(ts.map strC).map V.str) (i:=i) h0 (by rw [List.length_map,List.length_map]; exact h)
  rw [List.getElem?_map,List.getElem?_map,List.getElem?_eq_getElem (by omega)] at h2
  cases h2
  exact ⟨_,List.getElem_mem _,h1⟩
theorem sc_l_book:FnScope ["_law_cells", "_law_terms_here", "_law_cell", "_law_book_here", "_law_known", "_law_k", "_law_mixed_here", "_law_number", "_law_some", "_law_j", "_law_meaning"] ["_law_cells", "_law_terms_here", "_law_cell"] (defScope s_l_book):=⟨rfl,rfl,rfl,by decide +kernel,rfl,by decide +kernel,by decide +kernel⟩
theorem ok_l_book {aNoBook aNoText aTowerError aNoHoist aShort aLack aNoCut aNoWord aNoHalyard aNoFlag aNoDeed aNoRow:Addr} {f:Addr} {fd:FuncData} (F:Fun K "_law_book" "_law_book" s_l_book f fd) (G:Gs K mg aNoBook aNoText aTowerError aNoHoist aShort aLack aNoCut aNoWord aNoHalyard aNoFlag aNoDeed aNoRow) (c_l_mixed:Cal P w K mg base 1 "_law_mixed" ["_law_cell", "_law_k"] sp_l_mixed) (c_l_word:Cal P w K mg base 1 "_law_word" ["_law_cell", "_law_k"] sp_l_word):FnOk P w K mg base CX0 2 f fd ["_law_cells", "_law_terms_here", "_law_cell"] sp_l_book:=by
  refine F.ok sc_l_book (fun vs H Q E h => ?_) (fun cdv A outer s H vs Q E hr h => ?_)
  · obtain ⟨a,b,ms,ts,c,rfl,_⟩:=h; rfl
  obtain ⟨a,b,ms,ts,c,rfl,ha,hml,hb,htl,hts,h0,q⟩:=h
  refine ⟨_,(@pss_cons _ _ _ _ _ (@ps_set _ _ 3 _ _ _ _ sc_l_book.nd (by rfl) (by exact (Or.inl rfl)) (pe_lst pa_nil) (by rfl) (by first | exact Or.inl rfl | exact Or.inr rfl)) (@pss_cons _ _ _ _ _ (@ps_set _ _ 4 _ _ _ _ sc_l_book.nd (by rfl) (by exact (Or.inl rfl)) (pe_lst pa_nil) (by rfl) (by first | exact Or.inl rfl | exact Or.inr rfl)) (@pss_cons _ _ _ _ _ (pj_for PassesOwn.never rfl (pj_range1 rfl G.b_range (pa_cons (pe_callB m_len rfl G.b_len bt_len (pa_cons (mv 0) pa_nil)) pa_nil)) (pg_name (i:=5) sc_l_book.nd rfl (Or.inl rfl)) (@pss_cons _ _ _ _ _ (@ps_set _ _ 6 _ _ _ _ sc_l_book.nd (by rfl) (by exact (Or.inl rfl)) (pe_cal c_l_mixed hr (by decide) rfl (pa_cons (pe_ix m_ix (mv 0) (mv 5) (fun _ _ => rfl)) (pa_cons (pe_op m_add (mv 5) pe_int) pa_nil))) (by rfl) (by first | exact Or.inl rfl | exact Or.inr rfl)) (@pss_cons _ _ _ _ _ (@ps_set _ _ 7 _ _ _ _ sc_l_book.nd (by rfl) (by exact (Or.inl rfl)) (pe_op m_fdiv (mv 6) pe_int) (by rfl) (by first | exact Or.inl rfl | exact Or.inr rfl)) (@pss_cons _ _ _ _ _ (@ps_set _ _ 8 _ _ _ _ sc_l_book.nd (by rfl) (by exact (Or.inl rfl)) (pe_lst pa_nil) (by rfl) (by first | exact Or.inl rfl | exact Or.inr rfl)) (@pss_cons _ _ _ _ _ (pj_for PassesOwn.never rfl (pj_range1 rfl G.b_range (pa_cons (@pe_ix _ _ _ _ _ _ _ m_ix (@pe_lst _ _ _ _ (pa_cons pe_int (pa_cons pe_int (pa_cons pe_int (pa_cons pe_int (pa_cons pe_int (pa_cons pe_int (pa_cons pe_int (pa_cons pe_int pa_nil))))))))) (pe_op m_mod (mv 6) pe_int) (fun _ _ => rfl)) pa_nil)) (pg_name (i:=9) sc_l_book.nd rfl (Or.inl rfl)) (@pss_cons _ _ _ _ _ (ps_expr (me_meth PySem.F.plainAttrs_list PySem.F.slot_list_append PySem.F.type_list_append m_app (mv 8) (pa_cons (pe_ix m_ix (mv 1) (pe_op m_mod (mv 7) pe_int) (fun _ _ => rfl)) pa_nil))) (@pss_one _ _ _ (@ps_set _ _ 7 _ _ _ _ sc_l_book.nd (by rfl) (by exact (Or.inl rfl)) (pe_op m_fdiv (mv 7) pe_int) (by rfl) (by first | exact Or.inl rfl | exact Or.inr rfl))))) (@pss_cons _ _ _ _ _ (@ps_set _ _ 10 _ _ _ _ sc_l_book.nd (by rfl) (by exact (Or.inl rfl)) (me_meth PySem.F.plainAttrs_str PySem.F.slot_str_join PySem.F.type_str_join m_join pe_str (pa_cons (mv 8) pa_nil)) (by rfl) (by first | exact Or.inl rfl | exact Or.inr rfl)) (@pss_one _ _ _ (ps_if (mt_cmp m_notInL (mv 10) (mv 4) (by rfl)) (@pss_cons _ _ _ _ _ (ps_expr (me_meth PySem.F.plainAttrs_list PySem.F.slot_list_append PySem.F.type_list_append m_app (mv 4) (pa_cons (mv 10) pa_nil))) (@pss_one _ _ _ (ps_expr (me_meth PySem.F.plainAttrs_list PySem.F.slot_list_append PySem.F.type_list_append m_app (mv 3) (pa_cons (pe_tup (pa_cons (pe_cal c_l_word hr (by decide) rfl (pa_cons (mv 2) (pa_cons (pe_callB m_len rfl G.b_len bt_len (pa_cons (mv 3) pa_nil)) pa_nil))) (pa_cons (mv 10) pa_nil))) pa_nil))))) pss_nil)))))))) (@pss_one _ _ _ (ps_ret (mv 3)))))),?_⟩
  walk_at "go"
  refine ⟨by decide,fun pb hpb => ?_⟩
  walk_at "go"
  refine ⟨by decide,fun pk hpk => ?_⟩
  have npk:pb ≠ pk:=fun z => by rw [← z,upd_same] at hpk; cases hpk
  have hpkH:H pk = none:=by rw [upd_ne npk.symm] at hpk; exact hpk
  have s0:=(same_upd hpb (.lst [])).trans (same_upd hpk (.lst []))
  have e0:(upd (upd H pb (.lst [])) pk (.lst [])) pb = some (.lst []):=by rw [upd_ne npk,upd_same]
  have k0:(upd (upd H pb (.lst [])) pk (.lst [])) pk = some (.lst []):=upd_same
  generalize upd (upd H pb (.lst [])) pk (.lst []) = H0 at s0 e0 k0 ⊢
  have ha0:=rdL_keep s0 ha
  have hmm:(ms.map V.int).length = ms.length:=List.length_map ..
  walk_at "go"
  rw [hmm]
  refine ⟨⟨by omega,by omega⟩,?_⟩
  refine fj_range (fun i σ H' => ∃ (bk:List (Str × Str)) (v5 v6 v7 v8 v9 v10:Option V),σ = [some (.ref a),some (.ref b),some (.int c),some (.ref pb),some (.ref pk),v5,v6,v7,v8,v9,v10] ∧ Same H H' ∧ BkAt H' pb bk ∧ H' pk = some (.lst ((bk.map (·.2)).map V.str)) ∧ bk.length ≤ i ∧
      (∀ j b,bk[j]? = some b → b.1 = strC (wordC (bsC c) (mC c) j)) ∧ (bk.map (·.2)).Nodup ∧ ∀ b ∈ bk,∃ ts:List (List Nat),b.2 = meanC ts ∧ 1 ≤ ts.length ∧ ts.length ≤ 5 ∧ ∀ t ∈ ts,TermC t)
    ⟨[],_,_,_,_,_,_,rfl,s0,⟨[],e0,rfl,(fun j p b hp => by cases hp)⟩,k0,Nat.zero_le _,(fun j b hb => by cases hb),List.nodup_nil,(fun b hb => by cases hb)⟩ ?_ ?_
  · rintro i σ H2 hi ⟨bk,v5,v6,v7,v8,v9,v10,rfl,s2,hbk,hk2,hbl,hw,hnd,hmn⟩
    have hi':i < ms.length:=by omega
    obtain ⟨n,_,an⟩:=get_int (ns:=ms) (i:=0 + (i:Int)) (by omega) (by omega)
    walk_at "go"
    refine s_ixL (rdL_keep s2 ha) an ?_
    walk_at "go"
    refine ⟨n,_,rfl,by omega,by omega,fun N hN => ?_⟩
    walk_at "go"
    refine ⟨by decide,fun ps hps => ?_⟩
    have s3:=s2.trans (same_upd hps (.lst []))
    have bk3:=hbk.keep (same_upd hps (.lst []))
    have k3:=same_upd hps (.lst []) _ _ hk2
    have e3:(upd H2 ps (.lst [])) ps = some (.lst []):=upd_same
    have hpsH:H ps = none:=none_of s2 hps
    generalize upd H2 ps (.lst []) = H3 at s3 bk3 k3 e3 ⊢
    walk_at "go"
    refine ⟨by decide,fun pn hpn => ?_⟩
    have s4:=same_upd hpn (.lst [V.int 1,V.int 1,V.int 2,V.int 2,V.int 2,V.int 3,V.int 4,V.int 5])
    have r4:rdL (upd H3 pn (.lst [V.int 1,V.int 1,V.int 2,V.int 2,V.int 2,V.int 3,V.int 4,V.int 5])) pn = some (([1,1,2,2,2,3,4,5]:List Int).map V.int):=rdL_same
    generalize upd H3 pn (.lst [V.int 1,V.int 1,V.int 2,V.int 2,V.int 2,V.int 3,V.int 4,V.int 5]) = H4 at s4 r4 ⊢
    have bk4:=bk3.keep s4
    have k4:=s4 _ _ k3
    have e4:=s4 _ _ e3
    have s04:=s3.trans s4
    obtain ⟨kn,hkn,akn⟩:=get_int (ns:=[1,1,2,2,2,3,4,5]) (i:=N % 8) (by omega) (by show N % 8 < 8; omega)
    have hkn1:1 ≤ kn ∧ kn ≤ 5:=(by decide:∀ x ∈ ([1,1,2,2,2,3,4,5]:List Int),1 ≤ x ∧ x ≤ 5) kn hkn
    walk_at "go"
    refine s_ixL r4 akn ?_
    walk_at "go"
    refine ⟨⟨by omega,by omega⟩,?_⟩
    have nsb:ps ≠ pb:=fun z => by obtain ⟨_,h1,_⟩:=hbk; rw [z,h1] at hps; cases hps
    have nsk:ps ≠ pk:=fun z => by rw [z,hk2] at hps; cases hps
    refine fj_range (fun j σ H' => ∃ (x:Int) (us:List (List Nat)) (v9:Option V),σ = [some (.ref a),some (.ref b),some (.int c),some (.ref pb),some (.ref pk),some (.int (0 + (i:Int))),some (.int N),some (.int x),some (.ref ps),v9,v10] ∧ 0 ≤ x ∧ Same H H' ∧ BkAt H' pb bk ∧ H' pk = some (.lst ((bk.map (·.2)).map V.str)) ∧ H' ps = some (.lst ((us.map strC).map V.str)) ∧ us.length = j ∧ ∀ t ∈ us,TermC t)
      ⟨N / 8,[],_,rfl,by omega,s04,bk4,k4,e4,rfl,(fun t ht => by cases ht)⟩ ?_ ?_
    · rintro j σ H5 hj ⟨x,us,v9,rfl,hx0,s5,bk5,k5,e5,hul,hut⟩
      have hm5:=mutL_of e5
      have hj5:j < 5:=by omega
      have hlen:((us.map strC).map V.str).length < sizeLine:=by rw [List.length_map,List.length_map]; exact lt_line (by omega)
      obtain ⟨t,ht,at'⟩:=get_term (ts:=ts) (i:=x % 4) (by omega) (by omega)
      walk_at "go"
      refine s_ixL (rdL_keep s5 hb) at' ?_
      walk_at "go"
      refine ⟨x / 4,us ++ [t],_,rfl,by omega,same_put hpsH s5,bk5.put e5 nsb,by rw [upd_ne (Ne.symm nsk)]; exact k5,?_,by rw [List.length_append,hul]; rfl,fun u hu => ?_⟩
      · rw [upd_same,List.map_append,List.map_append]
        rfl
      · rcases List.mem_append.mp hu with z | z
        · exact hut u z
        · rw [List.mem_singleton.mp z]; exact hts t ht
    · rintro σ H5 ⟨x,us,v9,rfl,hx0,s5,bk5,k5,e5,hul,hut⟩
      have hu1:1 ≤ us.length ∧ us.length ≤ 5:=by omega
      have hsum:=sum_terms us hut
      walk_at "go"
      refine s_join (ss:=us.map strC) (rdL_of e5) (by rw [List.length_map,show (Str.ofString " ").length = 1 from rfl]; omega) ?_
      rw [show Txt.join (Str.ofString " ") (us.map strC) = meanC us from rfl]
      walk_at "go"
      refine s_inL (neg:=true) (rdL_of k5) rfl (allFlat_str _) ?_
      rw [if_pos rfl,inV_strs]
      walk_at "go"
      by_cases hin:meanC us ∈ bk.map (·.2)
      · rw [decide_eq_true hin]
        walk_at "go"
        exact ⟨bk,_,_,_,_,_,_,rfl,s5,bk5,k5,by omega,hw,hnd,hmn⟩
      · rw [decide_eq_false hin]
        have hm5:=mutL_of k5
        have hlen:((bk.map (·.2)).map V.str).length < sizeLine:=by rw [List.length_map,List.length_map]; exact lt_line (by omega)
        have nbk:pk ≠ pb:=Ne.symm npk
        walk_at "go"
        have s6:Same H (upd H5 pk (.lst ((bk.map (·.2)).map V.str ++ [V.str (meanC us)]))):=same_put hpkH s5
        have bk6:=bk5.put (ys:=(bk.map (·.2)).map V.str ++ [V.str (meanC us)]) k5 nbk
        have k6:(upd H5 pk (.lst ((bk.map (·.2)).map V.str ++ [V.str (meanC us)]))) pk = _:=upd_same
        generalize upd H5 pk (.lst ((bk.map (·.2)).map V.str ++ [V.str (meanC us)])) = H6 at s6 bk6 k6 ⊢
        obtain ⟨qs,b1,b2,b3⟩:=bk6
        have r6:=rdL_of b1
        have hql:(qs.map V.ref).length = bk.length:=by rw [List.length_map,b2]
        walk_at "go"
        rw [hql]
        refine ⟨c,bk.length,rfl,h0,by omega,fun H7 s7 => ?_⟩
        have c1:=s7 _ _ b1
        have k7:=s7 _ _ k6
        walk_at "go"
        refine ⟨by show 2 ≤ sizeLine; decide,fun pt hpt => ?_⟩
        have s8:=s6.trans (s7.trans (same_upd hpt (.tup [V.str (strC (wordC (bsC c) (mC c) bk.length)),V.str (meanC us)])))
        have c8:=same_upd hpt (.tup [V.str (strC (wordC (bsC c) (mC c) bk.length)),V.str (meanC us)]) _ _ c1
        have k8:=same_upd hpt (.tup [V.str (strC (wordC (bsC c) (mC c) bk.length)),V.str (meanC us)]) _ _ k7
        have t8:(upd H7 pt (.tup [V.str (strC (wordC (bsC c) (mC c) bk.length)),V.str (meanC us)])) pt = _:=upd_same
        have b8:∀ (j:Nat) p b,qs[j]? = some p → bk[j]? = some b → (upd H7 pt (.tup [V.str (strC (wordC (bsC c) (mC c) bk.length)),V.str (meanC us)])) p = some (.tup [.str b.1,.str b.2]):=fun j p b hp hb => same_upd hpt _ _ _ (s7 _ _ (b3 j p b hp hb))
        generalize upd H7 pt (.tup [V.str (strC (wordC (bsC c) (mC c) bk.length)),V.str (meanC us)]) = H8 at s8 c8 k8 t8 b8 ⊢
        have hm8:=mutL_of c8
        have hlq:(qs.map V.ref).length < sizeLine:=by rw [hql]; exact lt_line (by omega)
        walk_at "go"
        have net:∀ p u,H8 p = some (.tup u) → p ≠ pb:=fun p u e z => by rw [z,c8] at e; cases e
        refine ⟨bk ++ [(strC (wordC (bsC c) (mC c) bk.length),meanC us)],_,_,_,_,_,_,rfl,same_put hpb s8,⟨qs ++ [pt],by rw [upd_same,List.map_append]; rfl,by rw [List.length_append,List.length_append,b2]; rfl,fun j p b hp hb => ?_⟩,?_,by rw [List.length_append]; show _ + 1 ≤ _; omega,fun j b hb => ?_,?_,fun b hb => ?_⟩
        · by_cases hj:j < bk.length
          · rw [List.getElem?_append_left (by omega)] at hp
            rw [List.getElem?_append_left hj] at hb
            have:=b8 j p b hp hb
            rw [upd_ne (net p _ this)]
            exact this
          · have ej:j = bk.length:=by
              have:=(List.getElem?_eq_some_iff.mp hb).1
              rw [List.length_append] at this
              have:j < bk.length + 1:=this
              omega
            subst ej
            rw [List.getElem?_append_right (Nat.le_refl _),Nat.sub_self] at hb
            rw [List.getElem?_append_right (by omega),b2,Nat.sub_self] at hp
            cases hb
            cases hp
            rw [upd_ne (net _ _ t8)]
            exact t8
        · rw [upd_ne (fun z => nbk z),k8,List.map_append,List.map_append]
          rfl
        · by_cases hj:j < bk.length
          · rw [List.getElem?_append_left hj] at hb
            exact hw j b hb
          · have ej:j = bk.length:=by
              have:=(List.getElem?_eq_some_iff.mp hb).1
              rw [List.length_append] at this
              have:j < bk.length + 1:=this
              omega
            subst ej
            rw [List.getElem?_append_right (Nat.le_refl _),Nat.sub_self] at hb
            cases hb
            rfl
        · rw [List.map_append,List.nodup_append]
          refine ⟨hnd,(by rw [List.map_cons,List.map_nil]; exact List.nodup_cons.mpr ⟨(fun m => by cases m),List.nodup_nil⟩),fun x hx y hy e => ?_⟩
          have ey:y = meanC us:=List.mem_singleton.mp hy
          rw [e,ey] at hx
          exact hin hx
        · rcases List.mem_append.mp hb with z | z
          · exact hmn b z
          · rw [List.mem_singleton.mp z]
            exact ⟨us,rfl,hu1.1,hu1.2,hut⟩
  · rintro σ H2 ⟨bk,v5,v6,v7,v8,v9,v10,rfl,s2,hbk,hk2,hbl,hw,hnd,hmn⟩
    walk_at "go"
    refine q pb bk H2 hpb s2 hbk ⟨by omega,?_,hnd,fun b hb => ?_,hmn⟩
    · refine nodup_ix fun i j x hi hj => ?_
      rw [List.getElem?_map] at hi hj
      cases ei:bk[i]? with
      | none => rw [ei] at hi; cases hi
      | some u =>
        cases ej:bk[j]? with
        | none => rw [ej] at hj; cases hj
        | some v =>
          rw [ei] at hi
          rw [ej] at hj
          cases hi
          have h1:=hw i u ei
          have h2:=hw j v ej
          injection hj with hj
          replace hj:v.1 = u.1:=hj
          rw [h1,h2] at hj
          exact (word_inj (mC_le c) (strC_inj hj)).symm
    · obtain ⟨j,hj,rfl⟩:=List.mem_iff_getElem.mp hb
      have e:=hw j _ (List.getElem?_eq_getElem hj)
      have ok:=word_ok (mC_le c) (by rw [bsC_len]; omega) (bsC_let c) (k:=j) (by omega)
      exact ⟨_,e,ok⟩
def sp_l_good_book (K:PySem.W.Frag):Sp:=fun vs H Q _ => ∃ (a:Addr) (ns:List Int),vs = [.ref a] ∧ SqL K H a (ns.map V.int) ∧ ns.length ≤ 63 ∧ ∀ (r:Addr) (bk:List (Str × Str)) (H':Hp),H r = none → Same H H' → BkAt H' r bk → GoodBk bk → 1 ≤ bk.length → Q (.ref r) H'
theorem sc_l_good_book:FnScope ["_law_script", "_law_first", "_law_terms_here", "_law_book_here"] ["_law_script"] (defScope s_l_good_book):=⟨rfl,rfl,rfl,by decide +kernel,rfl,by decide +kernel,by decide +kernel⟩
theorem ok_l_good_book {aNoBook aNoText aTowerError aNoHoist aShort aLack aNoCut aNoWord aNoHalyard aNoFlag aNoDeed aNoRow:Addr} {f:Addr} {fd:FuncData} (F:Fun K "_law_good_book" "_law_good_book" s_l_good_book f fd) (G:Gs K mg aNoBook aNoText aTowerError aNoHoist aShort aLack aNoCut aNoWord aNoHalyard aNoFlag aNoDeed aNoRow) (c_l_mixed:Cal P w K mg base 1 "_law_mixed" ["_law_cell", "_law_k"] sp_l_mixed) (c_l_terms:Cal P w K mg base 1 "_law_terms" ["_law_cell"] sp_l_terms) (c_l_book:Cal P w K mg base 2 "_law_book" ["_law_cells", "_law_terms_here", "_law_cell"] sp_l_book) (c_l_cell_at:Cal P w K mg base 1 "_law_cell_at" ["_law_script", "_law_k"] (sp_l_cell_at K)):FnOk P w K mg base CX0 3 f fd ["_law_script"] (sp_l_good_book K):=by
  refine F.ok sc_l_good_book (fun vs H Q E h => ?_) (fun cdv A outer s H vs Q E hr h => ?_)
  · obtain ⟨a,ns,rfl,_⟩:=h; rfl
  obtain ⟨a,ns,rfl,hS,h63,q⟩:=h
  refine ⟨_,(@pss_cons _ _ _ _ _ (@ps_set _ _ 1 _ _ _ _ sc_l_good_book.nd (by rfl) (by exact (Or.inl rfl)) (pe_cal c_l_mixed hr (by decide) rfl (pa_cons (pe_cal c_l_cell_at hr (by decide) rfl (pa_cons (mv 0) (pa_cons pe_int pa_nil))) (pa_cons pe_int pa_nil))) (by rfl) (by first | exact Or.inl rfl | exact Or.inr rfl)) (@pss_cons _ _ _ _ _ (@ps_set _ _ 2 _ _ _ _ sc_l_good_book.nd (by rfl) (by exact (Or.inl rfl)) (pe_cal c_l_terms hr (by decide) rfl (pa_cons (mv 1) pa_nil)) (by rfl) (by first | exact Or.inl rfl | exact Or.inr rfl)) (@pss_cons _ _ _ _ _ (@ps_set _ _ 3 _ _ _ _ sc_l_good_book.nd (by rfl) (by exact (Or.inl rfl)) (pe_cal c_l_book hr (by decide) rfl (pa_cons (pe_slice sl_list (mv 0) (mo_some pe_int) (mo_some pe_int)) (pa_cons (mv 2) (pa_cons (pe_cal c_l_mixed hr (by decide) rfl (pa_cons (pe_cal c_l_cell_at hr (by decide) rfl (pa_cons (mv 0) (pa_cons pe_int pa_nil))) (pa_cons pe_int pa_nil))) pa_nil)))) (by rfl) (by first | exact Or.inl rfl | exact Or.inr rfl)) (@pss_cons _ _ _ _ _ (ps_if (mt_cmp (m_eqE hr.units0) (mv 3) (pe_lst pa_nil) (nomark _)) (@pss_one _ _ _ (@ps_set _ _ 3 _ _ _ _ sc_l_good_book.nd (by rfl) (by exact (Or.inl rfl)) (pe_lst (pa_cons (pe_tup (@pa_str _ _ _ _ _ _ (pa_cons (pe_ix m_ix (mv 2) pe_int (fun _ _ => rfl)) pa_nil))) pa_nil)) (by rfl) (by first | exact Or.inl rfl | exact Or.inr rfl))) pss_nil) (@pss_one _ _ _ (ps_ret (mv 3))))))),?_⟩
  walk_at "go"
  refine ⟨a,ns,0,rfl,hS,by omega,fun n0 => ?_⟩
  walk_at "go"
  refine ⟨n0,0,rfl,by omega,by omega,fun N0 hN0 => ?_⟩
  walk_at "go"
  refine ⟨N0,rfl,hN0,fun rt ts H1 hrt s1 e1 htl hts => ?_⟩
  walk_at "go"
  refine s_slK (s1.seq hS) fun rc hrc => ?_
  have hc60:(cutV (ns.map V.int) (some 2) (some 62)).length ≤ 60:=by
    show (((ns.map V.int).drop (if (2:Int) < 0 then ((2:Int) + ((ns.map V.int).length:Int)).toNat else min (2:Int).toNat (ns.map V.int).length)).take ((if (62:Int) < 0 then ((62:Int) + ((ns.map V.int).length:Int)).toNat else min (62:Int).toNat (ns.map V.int).length) - (if (2:Int) < 0 then ((2:Int) + ((ns.map V.int).length:Int)).toNat else min (2:Int).toNat (ns.map V.int).length))).length ≤ 60
    rw [List.length_take,List.length_drop,List.length_map,if_neg (by decide),if_neg (by decide),show (2:Int).toNat = 2 from rfl,show (62:Int).toNat = 62 from rfl]
    omega
  obtain ⟨ms,em,hm,hml⟩:=cut_ints ns (some 2) (some 62)
  rw [em,List.length_map] at hc60
  rw [em]
  have s2:=s1.trans (same_upd hrc (.lst (ms.map V.int)))
  have e2:=same_upd hrc (.lst (ms.map V.int)) _ _ e1
  have r2:rdL (upd H1 rc (.lst (ms.map V.int))) rc = some (ms.map V.int):=rdL_same
  generalize upd H1 rc (.lst (ms.map V.int)) = H2 at s2 e2 r2 ⊢
  walk_at "go"
  refine ⟨a,ns,1,rfl,s2.seq hS,by omega,fun n1 => ?_⟩
  walk_at "go"
  refine ⟨n1,1,rfl,by omega,by omega,fun N1 hN1 => ?_⟩
  walk_at "go"
  refine ⟨rc,rt,ms,ts,N1,rfl,r2,hc60,rdL_of e2,htl,hts,hN1,fun rb bk H3 hrb s3 hbk hgood => ?_⟩
  have e3:=s3 _ _ e2
  refine s_gname ?_
  refine s_seqJ (fun σ' H' => ∃ (r:Addr) (bk:List (Str × Str)),σ' = [some (.ref a),some (.int N0),some (.ref rt),some (.ref r)] ∧ H r = none ∧ Same H H' ∧ BkAt H' r bk ∧ GoodBk bk ∧ 1 ≤ bk.length) ?_ ?_
  · rintro σ' H4 ⟨r,bk,rfl,hr,s4,hbk,hg,h1⟩
    walk_at "go"
    exact q r bk H4 hr s4 hbk hg h1
  · intro N hN
    obtain ⟨qs,b1,b2,b3⟩:=id hbk
    walk_at "go"
    refine ⟨by decide,fun pe hpe => ?_⟩
    have b4:=rdL_keep (same_upd hpe (.lst [])) (rdL_of b1)
    refine s_eqE b4 rdL_same ?_
    have s4:=s2.trans (s3.trans (same_upd hpe (.lst [])))
    have e4:=same_upd hpe (.lst []) _ _ e3
    have bk4:=hbk.keep (same_upd hpe (.lst []))
    generalize upd H3 pe (.lst []) = H4 at s4 e4 bk4 ⊢
    walk_at "go"
    cases qs with
    | nil =>
      rw [show (List.map V.ref ([]:List Addr)).isEmpty = true from rfl]
      obtain ⟨t,ht,at'⟩:=get_term (ts:=ts) (i:=0) (by omega) (by omega)
      walk_at "go"
      refine s_ixL (rdL_of e4) at' ?_
      walk_at "go"
      refine ⟨by show 2 ≤ sizeLine; decide,fun pt hpt => ?_⟩
      walk_at "go"
      refine ⟨by show 1 ≤ sizeLine; decide,fun pl hpl => ?_⟩
      walk_at "go"
      have ntl:pt ≠ pl:=fun z => by rw [← z,upd_same] at hpl; cases hpl
      have hplH:H pl = none:=none_of (s4.trans (same_upd hpt _)) hpl
      refine hN _ _ ⟨pl,[(Str.ofString "w",strC t)],rfl,hplH,s4.trans ((same_upd hpt _).trans (same_upd hpl _)),⟨[pt],upd_same,rfl,fun j p b hp hb => ?_⟩,⟨by show 1 ≤ 60; decide,?_,?_,fun b hb => ?_,fun b hb => ?_⟩,Nat.le_refl _⟩
      · cases j with
        | zero =>
          cases hp
          cases hb
          rw [upd_ne ntl,upd_same]
        | succ j => cases hp
      · exact List.nodup_cons.mpr ⟨(fun m => by cases m),List.nodup_nil⟩
      · exact List.nodup_cons.mpr ⟨(fun m => by cases m),List.nodup_nil⟩
      · rw [List.mem_singleton.mp hb]
        exact ⟨[119],rfl,by decide,by decide,by decide⟩
      · rw [List.mem_singleton.mp hb]
        refine ⟨[t],?_,Nat.le_refl _,by show 1 ≤ 5; decide,fun u hu => by rw [List.mem_singleton.mp hu]; exact hts t ht⟩
        show strC t = Txt.join " " [strC t]
        rfl
    | cons q0 qr =>
      rw [show (List.map V.ref (q0 :: qr)).isEmpty = false from rfl]
      walk_at "go"
      refine hN _ _ ⟨rb,bk,rfl,none_of s2 hrb,s4,bk4,hgood,?_⟩
      rw [← b2,List.length_cons]
      omega
def sp_NoBook_init (aC:Addr):Sp:=fun vs H Q _ => ∃ ea v,vs = [.ref ea,v] ∧ H ea = some (excN ea aC none) ∧ ∀ dx,H dx = none → Q .non (upd (upd H ea (excN ea aC (some dx))) dx (xdO dx [("at",v)]))
theorem sc_NoBook_init:FnScope ["self", "at"] ["self", "at"] (defScope s_NoBook_init):=⟨rfl,rfl,rfl,by decide +kernel,rfl,by decide +kernel,by decide +kernel⟩
theorem ok_NoBook_init {aNoBook aNoText aTowerError aNoHoist aShort aLack aNoCut aNoWord aNoHalyard aNoFlag aNoDeed aNoRow:Addr} {f:Addr} {fd:FuncData} (F:Fun K "__init__" "NoBook.__init__" s_NoBook_init f fd) (G:Gs K mg aNoBook aNoText aTowerError aNoHoist aShort aLack aNoCut aNoWord aNoHalyard aNoFlag aNoDeed aNoRow)  : FnOk P w K mg base CX0 1 f fd ["self", "at"] (sp_NoBook_init aNoBook):=by
  refine F.ok sc_NoBook_init (fun vs H Q E h => ?_) (fun cdv A outer s H vs Q E hr h => ?_)
  · obtain ⟨ea,v,rfl,_⟩:=h; rfl
  obtain ⟨ea,v,rfl,he,q⟩:=h
  refine ⟨_,(@pss_cons _ _ _ _ _ (ps_expr (pe_xinit rfl G.c_TowerError G.t1_TowerError G.t2_TowerError G.t3_TowerError (pa_cons (mv 0) (pa_cons (mv 1) pa_nil)))) (@pss_one _ _ _ (ps_xfld (mv 0) (mv 1) rfl))),?_⟩
  walk_at "go"
  refine ⟨ea,[v],aNoBook,aTowerError,none,rfl,by show 1 ≤ sizeLine; decide,he,(fun _ z => nomatch z),G.xc_NoBook,?_⟩
  walk_at "go"
  exact ⟨ea,aNoBook,aTowerError,rfl,G.xc_NoBook,G.xn_NoBook_at,.inl ⟨he,q⟩⟩
theorem same_exc {H H1:Hp} {ea dx:Addr} {o o' o'':HO} (s:Same H H1) (h1:H1 ea = none) (h2:upd H1 ea o dx = none):Same H (del (upd (upd (upd H1 ea o) ea o') dx o'') ea):=fun b u e => by
  have e1:=s b u e
  have n1:b ≠ ea:=ne_of_none e1 h1
  have n3:dx ≠ ea:=fun z => by rw [z,upd_same] at h2; cases h2
  have n2:b ≠ dx:=fun z => by rw [← z,upd_ne n1,e1] at h2; cases h2
  rw [del_ne n1,upd_ne n2,upd_ne n1,upd_ne n1]
  exact e1
theorem exc_dx {H1:Hp} {ea dx:Addr} {o o' o'':HO} (h2:upd H1 ea o dx = none):upd (upd (upd H1 ea o) ea o') dx o'' ea = some o' ∧ del (upd (upd (upd H1 ea o) ea o') dx o'') ea dx = some o'':=by
  have n3:dx ≠ ea:=fun z => by rw [z,upd_same] at h2; cases h2
  exact ⟨by rw [upd_ne n3.symm,upd_same],by rw [del_ne n3,upd_same]⟩
def sp_is_word:Sp:=fun vs H Q _ => ∃ z,vs = [.str z] ∧ z.length ≤ 20000 ∧ ∀ H',Same H H' → Q (.bl (isWord z)) H'
theorem sc_is_word:FnScope ["text"] ["text"] (defScope s_is_word):=⟨rfl,rfl,rfl,by decide +kernel,rfl,by decide +kernel,by decide +kernel⟩
theorem ok_is_word {aNoBook aNoText aTowerError aNoHoist aShort aLack aNoCut aNoWord aNoHalyard aNoFlag aNoDeed aNoRow:Addr} {f:Addr} {fd:FuncData} (F:Fun K "is_word" "is_word" s_is_word f fd) (G:Gs K mg aNoBook aNoText aTowerError aNoHoist aShort aLack aNoCut aNoWord aNoHalyard aNoFlag aNoDeed aNoRow)  : FnOk P w K mg base CX0 1 f fd ["text"] sp_is_word:=by
  refine F.ok sc_is_word (fun vs H Q E h => ?_) (fun cdv A outer s H vs Q E hr h => ?_)
  · obtain ⟨z,rfl,_⟩:=h; rfl
  obtain ⟨z,rfl,hl,q⟩:=h
  refine ⟨_,(@pss_cons _ _ _ _ _ (ps_if (PW.pt (pw_or (mt_cmp m_lt (pe_callB m_len rfl G.b_len bt_len (pa_cons (mv 0) pa_nil)) pe_int (nomark _)) (pw_or1 (mt_cmp m_gt (pe_callB m_len rfl G.b_len bt_len (pa_cons (mv 0) pa_nil)) (pe_gint rfl G.s_MOST_PLACES) (nomark _))))) (@pss_one _ _ _ (ps_ret pe_bl)) pss_nil) (@pss_one _ _ _ (ps_ret (pe_callB (m_all rfl) rfl G.b_all bt_all (pa_cons (pe_comp rfl (pj_str (mv 0)) (clOk0 (N:=["sign"]) (by decide +kernel) (by decide +kernel)) (by decide +kernel) rfl (by decide +kernel) (fun C s₀ H₀ ex => (pg_name (i:=0) (show List.Nodup (["sign"]:List Str) by decide +kernel) rfl (Or.inl rfl))) (fun C s₀ H₀ ex => pf_nil) (fun C s₀ H₀ ex => (pe_cmpR m_inS (mv 0) (pe_gstr rfl G.s_LETTERS) (by rfl)))) pa_nil))))),?_⟩
  walk_at "go"
  refine ite2 (fun hc => ?_) (fun hc => ?_)
  · walk_at "go"
    have e:isWord z = false:=if_pos (.inl (by have:=of_decide_eq_true hc; omega))
    have r:=q H (Same.refl H)
    rw [e] at r
    exact r
  · have hc':=of_decide_eq_false (Bool.eq_false_iff.mpr hc)
    walk_at "go"
    refine ite2 (fun hd => ?_) (fun hd => ?_)
    · walk_at "go"
      have e:isWord z = false:=if_pos (.inr (by have:=of_decide_eq_true hd; omega))
      have r:=q H (Same.refl H)
      rw [e] at r
      exact r
    · have hd':=of_decide_eq_false (Bool.eq_false_iff.mpr hd)
      walk_at "go"
      refine cw_str (fun c => some (.bl (decide (c ∈ lettersT.cps.toList)))) (lt_line (by omega)) (fun i c Hc A B hc' hA => ?_) (fun D hD => ?_)
      · walk_at "go"
        refine ⟨Wk.set rfl (Wk.refl _),?_⟩
        walk_at "go"
        have e:subIn ⟨#[c]⟩ lettersT = decide (c ∈ lettersT.cps.toList):=subIn_one _ _
        show A (.bl (subIn ⟨#[c]⟩ lettersT)) Hc
        rw [e]
        exact hA
      · walk_at "go"
        have e:z.cps.toList.filterMap (fun c => some (V.bl (decide (c ∈ lettersT.cps.toList)))) = (z.cps.toList.map fun c => decide (c ∈ lettersT.cps.toList)).map V.bl:=by
          rw [List.map_map]
          exact fm_some _ _
        rw [e]
        have sm:Same H (upd H D (.lst ((z.cps.toList.map fun c => decide (c ∈ lettersT.cps.toList)).map V.bl))):=same_upd hD _
        refine s_all (bs:=z.cps.toList.map fun c => decide (c ∈ lettersT.cps.toList)) rdL_same ?_
        have e2:isWord z = (z.cps.toList.map fun c => decide (c ∈ lettersT.cps.toList)).all id:=by
          unfold isWord allL
          rw [if_neg (by omega),List.all_map]
          rfl
        have r:=q _ sm
        rw [e2] at r
        exact r
def termB (z:Str):Bool:=if z.length < 1 ∨ 10 < z.length then false else z.cps.toList.all fun c => decide (c ∈ tmsT.cps.toList)
abbrev parts (z:Str):List Str:=Txt.split z (Str.ofString " ")
def rowB (z:Str) (n:Int):Bool:=decide (((parts z).length:Int) ≤ n) && (parts z).all termB
theorem parts_len {z y:Str} (h:y ∈ parts z):y.length ≤ z.length:=by
  have:=PySem.join_mem_le (Str.ofString " ") (parts z) y h
  rw [StrLaws.join_split] at this
  exact this
theorem parts_many (z:Str):(parts z).length ≤ z.length + 2:=by
  unfold parts Txt.split
  split
  · show 1 ≤ _; omega
  · split
    · show 1 ≤ _; omega
    · rw [PySem.length_partsBetween]
      have e1:=StrLaws.occ_length_le z (Str.ofString " ") 0 z.length (z.length + 1)
      omega
def sp_is_term:Sp:=fun vs H Q _ => ∃ z,vs = [.str z] ∧ z.length ≤ 20000 ∧ ∀ H',Same H H' → Q (.bl (termB z)) H'
def sp_is_row_of_terms:Sp:=fun vs H Q _ => ∃ z n,vs = [.str z,.int n] ∧ z.length ≤ 20000 ∧ ∀ H',Same H H' → Q (.bl (rowB z n)) H'
theorem sc_is_term:FnScope ["text"] ["text"] (defScope s_is_term):=⟨rfl,rfl,rfl,by decide +kernel,rfl,by decide +kernel,by decide +kernel⟩
theorem ok_is_term {aNoBook aNoText aTowerError aNoHoist aShort aLack aNoCut aNoWord aNoHalyard aNoFlag aNoDeed aNoRow:Addr} {f:Addr} {fd:FuncData} (F:Fun K "is_term" "is_term" s_is_term f fd) (G:Gs K mg aNoBook aNoText aTowerError aNoHoist aShort aLack aNoCut aNoWord aNoHalyard aNoFlag aNoDeed aNoRow)  : FnOk P w K mg base CX0 1 f fd ["text"] sp_is_term:=by
  refine F.ok sc_is_term (fun vs H Q E h => ?_) (fun cdv A outer s H vs Q E hr h => ?_)
  · obtain ⟨z,rfl,_⟩:=h; rfl
  obtain ⟨z,rfl,hl,q⟩:=h
  refine ⟨_,(@pss_cons _ _ _ _ _ (ps_if (PW.pt (pw_or (mt_cmp m_lt (pe_callB m_len rfl G.b_len bt_len (pa_cons (mv 0) pa_nil)) pe_int (nomark _)) (pw_or1 (mt_cmp m_gt (pe_callB m_len rfl G.b_len bt_len (pa_cons (mv 0) pa_nil)) (pe_gint rfl G.s_LONGEST_TERM) (nomark _))))) (@pss_one _ _ _ (ps_ret pe_bl)) pss_nil) (@pss_one _ _ _ (ps_ret (pe_callB (m_all rfl) rfl G.b_all bt_all (pa_cons (pe_comp rfl (pj_str (mv 0)) (clOk0 (N:=["sign"]) (by decide +kernel) (by decide +kernel)) (by decide +kernel) rfl (by decide +kernel) (fun C s₀ H₀ ex => (pg_name (i:=0) (show List.Nodup (["sign"]:List Str) by decide +kernel) rfl (Or.inl rfl))) (fun C s₀ H₀ ex => pf_nil) (fun C s₀ H₀ ex => (pe_cmpR m_inS (mv 0) (pe_gstr rfl G.s_TERM_LETTERS) (by rfl)))) pa_nil))))),?_⟩
  walk_at "go"
  refine ite2 (fun hc => ?_) (fun hc => ?_)
  · walk_at "go"
    have e:termB z = false:=if_pos (.inl (by have:=of_decide_eq_true hc; omega))
    have r:=q H (Same.refl H)
    rw [e] at r
    exact r
  · have hc':=of_decide_eq_false (Bool.eq_false_iff.mpr hc)
    walk_at "go"
    refine ite2 (fun hd => ?_) (fun hd => ?_)
    · walk_at "go"
      have e:termB z = false:=if_pos (.inr (by have:=of_decide_eq_true hd; omega))
      have r:=q H (Same.refl H)
      rw [e] at r
      exact r
    · have hd':=of_decide_eq_false (Bool.eq_false_iff.mpr hd)
      walk_at "go"
      refine cw_str (fun c => some (.bl (decide (c ∈ tmsT.cps.toList)))) (lt_line (by omega)) (fun i c Hc A B hc' hA => ?_) (fun D hD => ?_)
      · walk_at "go"
        refine ⟨Wk.set rfl (Wk.refl _),?_⟩
        walk_at "go"
        have e:subIn ⟨#[c]⟩ tmsT = decide (c ∈ tmsT.cps.toList):=subIn_one _ _
        show A (.bl (subIn ⟨#[c]⟩ tmsT)) Hc
        rw [e]
        exact hA
      · walk_at "go"
        have e:z.cps.toList.filterMap (fun c => some (V.bl (decide (c ∈ tmsT.cps.toList)))) = (z.cps.toList.map fun c => decide (c ∈ tmsT.cps.toList)).map V.bl:=by
          rw [List.map_map]
          exact fm_some _ _
        rw [e]
        have sm:Same H (upd H D (.lst ((z.cps.toList.map fun c => decide (c ∈ tmsT.cps.toList)).map V.bl))):=same_upd hD _
        refine s_all (bs:=z.cps.toList.map fun c => decide (c ∈ tmsT.cps.toList)) rdL_same ?_
        have e2:termB z = (z.cps.toList.map fun c => decide (c ∈ tmsT.cps.toList)).all id:=by
          unfold termB
          rw [if_neg (by omega),List.all_map]
          rfl
        have r:=q _ sm
        rw [e2] at r
        exact r
theorem sc_is_row_of_terms:FnScope ["text", "most", "terms"] ["text", "most"] (defScope s_is_row_of_terms):=⟨rfl,rfl,rfl,by decide +kernel,rfl,by decide +kernel,by decide +kernel⟩
theorem ok_is_row_of_terms {aNoBook aNoText aTowerError aNoHoist aShort aLack aNoCut aNoWord aNoHalyard aNoFlag aNoDeed aNoRow:Addr} {f:Addr} {fd:FuncData} (F:Fun K "is_row_of_terms" "is_row_of_terms" s_is_row_of_terms f fd) (G:Gs K mg aNoBook aNoText aTowerError aNoHoist aShort aLack aNoCut aNoWord aNoHalyard aNoFlag aNoDeed aNoRow) (c_is_term:Cal P w K mg base 1 "is_term" ["text"] sp_is_term):FnOk P w K mg base CX0 2 f fd ["text", "most"] sp_is_row_of_terms:=by
  refine F.ok sc_is_row_of_terms (fun vs H Q E h => ?_) (fun cdv A outer s H vs Q E hr h => ?_)
  · obtain ⟨z,n,rfl,_⟩:=h; rfl
  obtain ⟨z,n,rfl,hl,q⟩:=h
  refine ⟨_,(@pss_cons _ _ _ _ _ (@ps_set _ _ 2 _ _ _ _ sc_is_row_of_terms.nd (by rfl) (by exact (Or.inl rfl)) (me_meth PySem.F.plainAttrs_str PySem.F.slot_str_split PySem.F.type_str_split m_split (mv 0) (@pa_str _ _ _ _ _ _ pa_nil)) (by rfl) (by first | exact Or.inl rfl | exact Or.inr rfl)) (@pss_one _ _ _ (ps_ret (me_and (pe_cmpR m_le (pe_callB m_len rfl G.b_len bt_len (pa_cons (mv 2) pa_nil)) (mv 1) (nomark _)) (pe_one (pe_callB (m_all rfl) rfl G.b_all bt_all (pa_cons (pe_comp rfl (pj_list (mv 2)) (clOk0 (N:=["term"]) (by decide +kernel) (by decide +kernel)) (by decide +kernel) rfl (by decide +kernel) (fun C s₀ H₀ ex => (pg_name (i:=0) (show List.Nodup (["term"]:List Str) by decide +kernel) rfl (Or.inl rfl))) (fun C s₀ H₀ ex => pf_nil) (fun C s₀ H₀ ex => (pe_cal c_is_term hr (by decide) rfl (pa_cons (mv 0) pa_nil)))) pa_nil))))))),?_⟩
  walk_at "go"
  refine s_splitB rfl (by omega) fun r hr => ?_
  have s1:=same_upd hr (.lst ((parts z).map V.str))
  have r1:rdL (upd H r (.lst ((parts z).map V.str))) r = some ((parts z).map V.str):=rdL_same
  show gName _ _ _ (upd H r (.lst ((parts z).map V.str))) _
  generalize upd H r (.lst ((parts z).map V.str)) = H1 at s1 r1 ⊢
  have hpl:((parts z).map V.str).length = (parts z).length:=List.length_map ..
  have hpm:=parts_many z
  walk_at "go"
  rw [hpl]
  unfold rowB at q
  refine ite2 (fun hc => ?_) (fun hc => ?_)
  · rw [show decide (((parts z).length:Int) ≤ n) = true from hc,Bool.true_and] at q
    walk_at "go"
    refine cw_listS (xs:=(parts z).map V.str) (fun x => match x with | .str y => some (.bl (termB y)) | _ => none) r1 (by rw [hpl]; exact lt_line (by omega)) (fun i x Hc A B hx sm hA => ?_) (fun D Hd hD sD hd => ?_)
    · obtain ⟨y,hy,rfl⟩:=of_map_str hx
      walk_at "go"
      refine ⟨Wk.set rfl (Wk.refl _),?_⟩
      walk_at "go"
      refine ⟨y,rfl,by have:=parts_len (List.mem_of_getElem? hy); omega,fun H2 s2 => ?_⟩
      exact hA _ s2
    · have e:((parts z).map V.str).filterMap (fun x => match x with | .str y => some (V.bl (termB y)) | _ => none) = ((parts z).map termB).map V.bl:=by
        rw [List.filterMap_map,List.map_map]
        exact fm_some (fun y => V.bl (termB y)) _
      rw [e] at hd
      walk_at "go"
      refine s_all (bs:=(parts z).map termB) (rdL_of hd) ?_
      have r:=q Hd (s1.trans sD)
      rw [show ((parts z).map termB).all id = (parts z).all termB by rw [List.all_map]; rfl]
      exact r
  · have hc':decide (((parts z).length:Int) ≤ n) = false:=Bool.eq_false_iff.mpr hc
    rw [hc',Bool.false_and] at q
    exact q _ s1
structure Small (bk:List (Str × Str)) (n:Nat):Prop where
  len:bk.length ≤ n
  str:∀ b ∈ bk,b.1.length ≤ n ∧ b.2.length ≤ n
def neB (w m:Str) (b:Str × Str):Bool:=(!decide (b.1 = w)) && (!decide (b.2 = m))
def followB (bk:List (Str × Str)) (i:Nat):Bool:=match bk[i]? with
  | some b => decide (i < 60) && (isWord b.1 && (decide (b.1.length ≤ 6) && (rowB b.2 5 && (bk.take i).all (neB b.1 b.2))))
  | none => false
theorem follow_eq {bk:List (Str × Str)} {i:Nat} {b:Str × Str} (h:bk[i]? = some b):followB bk i = (decide (i < 60) && (isWord b.1 && (decide (b.1.length ≤ 6) && (rowB b.2 5 && (bk.take i).all (neB b.1 b.2))))):=by
  unfold followB
  rw [h]
def BadAt (bk:List (Str × Str)) (i:Nat):Prop:=i < bk.length ∧ followB bk i = false ∧ ∀ j,j < i → followB bk j = true
def AllOk (bk:List (Str × Str)):Prop:=∀ j,j < bk.length → followB bk j = true
def Out (bk:List (Str × Str)) (v:V):Prop:=(bk = [] ∧ v = .int 0) ∨ (∃ i:Nat,BadAt bk i ∧ v = .int (i:Int)) ∨ (bk ≠ [] ∧ AllOk bk ∧ v = .non)
theorem Out.just {bk:List (Str × Str)} {v u:V} (h:Out bk v) (g:Out bk u):v = u:=by
  rcases h with ⟨e,rfl⟩ | ⟨i,⟨h1,h2,h3⟩,rfl⟩ | ⟨n,ok,rfl⟩ <;> rcases g with ⟨e',rfl⟩ | ⟨j,⟨g1,g2,g3⟩,rfl⟩ | ⟨n',ok',rfl⟩
  · rfl
  · rw [e] at g1; exact absurd g1 (Nat.not_lt_zero _)
  · exact absurd e n'
  · rw [e'] at h1; exact absurd h1 (Nat.not_lt_zero _)
  · rcases Nat.lt_trichotomy i j with z | z | z
    · rw [g3 i z] at h2; cases h2
    · rw [z]
    · rw [h3 j z] at g2; cases g2
  · rw [ok' i h1] at h2; cases h2
  · exact absurd e' n
  · rw [ok j g1] at g2; cases g2
  · rfl
def neAt (H:Hp) (w m:Str):V → Option V
  | .ref p => (match H p with | some (.tup [.str u,.str v]) => some (.bl (neB w m (u,v))) | _ => none)
  | _ => none
theorem ne_fm {H:Hp} {w m:Str}:∀ {ps:List Addr} {bk:List (Str × Str)},ps.length = bk.length → (∀ (j:Nat) p b,ps[j]? = some p → bk[j]? = some b → H p = some (.tup [.str b.1,.str b.2])) → (ps.map V.ref).filterMap (neAt H w m) = (bk.map (neB w m)).map V.bl
  | [],[],_,_ => rfl
  | p :: ps,b :: bk,hl,h => by
    rw [List.map_cons,List.filterMap_cons_some (b:=V.bl (neB w m b)) (by show (match H p with | some (.tup [.str u,.str v]) => some (V.bl (neB w m (u,v))) | _ => none) = _; rw [h 0 p b rfl rfl]),List.map_cons,List.map_cons,ne_fm (by simpa using hl) fun j q c hq hc => h (j + 1) q c (by simpa using hq) (by simpa using hc)]
  | [],_ :: _,hl,_ => by cases hl
  | _ :: _,[],hl,_ => by cases hl
theorem s_ixT {H:Hp} {Q:VK} {p:Addr} {xs:List V} {i:Int} {v:V} (e:H p = some (.tup xs)) (e':atI xs i = some v) (h:Q v H):mIx (.ref p) (.int i) H Q:=by
  have e1:rdL H p = none:=by unfold rdL; rw [e]; rfl
  have e2:=tupL_of e
  unfold mIx
  simp only [e1,e2,e']
  exact h
def sp_may_follow:Sp:=fun vs H Q _ => ∃ (a:Addr) (bk:List (Str × Str)) (i:Nat),vs = [.ref a,.int (i:Int)] ∧ BkAt H a bk ∧ Small bk 20000 ∧ i < bk.length ∧ ∀ H',Same H H' → Q (.bl (followB bk i)) H'
theorem sc_may_follow:FnScope ["book", "at", "word", "meaning"] ["book", "at"] (defScope s_may_follow):=⟨rfl,rfl,rfl,by decide +kernel,rfl,by decide +kernel,by decide +kernel⟩
theorem ok_may_follow {aNoBook aNoText aTowerError aNoHoist aShort aLack aNoCut aNoWord aNoHalyard aNoFlag aNoDeed aNoRow:Addr} {f:Addr} {fd:FuncData} (F:Fun K "may_follow" "may_follow" s_may_follow f fd) (G:Gs K mg aNoBook aNoText aTowerError aNoHoist aShort aLack aNoCut aNoWord aNoHalyard aNoFlag aNoDeed aNoRow) (c_is_row_of_terms:Cal P w K mg base 2 "is_row_of_terms" ["text", "most"] sp_is_row_of_terms) (c_is_word:Cal P w K mg base 1 "is_word" ["text"] sp_is_word):FnOk P w K mg base CX0 3 f fd ["book", "at"] sp_may_follow:=by
  refine F.ok sc_may_follow (fun vs H Q E h => ?_) (fun cdv A outer s H vs Q E hr h => ?_)
  · obtain ⟨a,bk,i,rfl,_⟩:=h; rfl
  obtain ⟨a,bk,i,rfl,hbk,hsm,hi,q⟩:=h
  refine ⟨_,(@pss_cons _ _ _ _ _ (@ps_set _ _ 2 _ _ _ _ sc_may_follow.nd (by rfl) (by exact (Or.inr rfl)) (pe_ix m_ix (pe_ix m_ix (mv 0) (mv 1) (fun _ _ => rfl)) pe_int (fun _ _ => rfl)) (by rfl) (by first | exact Or.inl rfl | exact Or.inr rfl)) (@pss_cons _ _ _ _ _ (@ps_set _ _ 3 _ _ _ _ sc_may_follow.nd (by rfl) (by exact (Or.inr rfl)) (pe_ix m_ix (pe_ix m_ix (mv 0) (mv 1) (fun _ _ => rfl)) pe_int (fun _ _ => rfl)) (by rfl) (by first | exact Or.inl rfl | exact Or.inr rfl)) (@pss_cons _ _ _ _ _ (ps_if (PW.pt (pw_or (mt_cmp m_ge (mv 1) (pe_gint rfl G.s_MOST_TUPLES) (nomark _)) (pw_or (pt_not (mt_truth (pe_cal c_is_word hr (by decide) rfl (pa_cons (mv 2) pa_nil)))) (pw_or1 (mt_cmp m_gt (pe_callB m_len rfl G.b_len bt_len (pa_cons (mv 2) pa_nil)) (pe_gint rfl G.s_LONGEST_WORD) (nomark _)))))) (@pss_one _ _ _ (ps_ret pe_bl)) pss_nil) (@pss_cons _ _ _ _ _ (ps_if (pt_not (mt_truth (pe_cal c_is_row_of_terms hr (by decide) rfl (pa_cons (mv 3) (pa_cons (pe_gint rfl G.s_MOST_TERMS_MEANT) pa_nil))))) (@pss_one _ _ _ (ps_ret pe_bl)) pss_nil) (@pss_one _ _ _ (ps_ret (pe_callB (m_all rfl) rfl G.b_all bt_all (pa_cons (pe_comp rfl (pj_list (pe_slice m_sl (mv 0) po_none (mo_some (mv 1)))) (clOkF (N:=["ahead", "word", "meaning"]) ["book", "at", "word", "meaning"] (defScope s_may_follow) [none,some 2,some 3] rfl rfl rfl (fun x h => cell_has h) (by decide +kernel)) (by decide +kernel) rfl (by decide +kernel) (fun C s₀ H₀ ex => (pg_name (i:=0) (show List.Nodup (["ahead", "word", "meaning"]:List Str) by decide +kernel) rfl (Or.inl rfl))) (fun C s₀ H₀ ex => pf_nil) (fun C s₀ H₀ ex => (me_and (pe_cmpR m_ne (pe_ix m_ix (mv 0) pe_int (fun _ _ => rfl)) (mv 1) (nomark _)) (pe_one (pe_cmpR m_ne (pe_ix m_ix (mv 0) pe_int (fun _ _ => rfl)) (mv 2) (nomark _)))))) pa_nil)))))))),?_⟩
  obtain ⟨qs,b1,b2,b3⟩:=id hbk
  have rq:=rdL_of b1
  have hq:qs[i]? = some qs[i]:=List.getElem?_eq_getElem (by omega)
  have hbi:bk[i]? = some bk[i]:=List.getElem?_eq_getElem hi
  have tp:=b3 i _ _ hq hbi
  rw [follow_eq hbi] at q
  have hst:=hsm.str _ (List.mem_of_getElem? hbi)
  have hlen:=hsm.len
  generalize bk[i] = b at hbi tp q hst
  generalize qs[i] = pt at hq tp
  have aq:atI (qs.map V.ref) (i:Int) = some (.ref pt):=atI_nat (by rw [List.getElem?_map,hq]; rfl)
  walk_at "go"
  refine s_ixL rq aq ?_
  walk_at "go"
  refine s_ixT tp (v:=.str b.1) rfl ?_
  walk_at "go"
  refine s_ixL rq aq ?_
  walk_at "go"
  refine s_ixT tp (v:=.str b.2) rfl ?_
  walk_at "go"
  refine ite2 (fun hc => ?_) (fun hc => ?_)
  · have hc':=of_decide_eq_true hc
    rw [decide_eq_false (show ¬ i < 60 by omega),Bool.false_and] at q
    walk_at "go"
    exact q _ (Same.refl _)
  · have hc':=of_decide_eq_false (Bool.eq_false_iff.mpr hc)
    rw [decide_eq_true (show i < 60 by omega),Bool.true_and] at q
    walk_at "go"
    refine ⟨b.1,rfl,hst.1,fun H1 s1 => ?_⟩
    walk_at "go"
    cases hw:isWord b.1 with
    | false =>
      rw [hw,Bool.false_and] at q
      walk_at "go"
      exact q _ s1
    | true =>
      rw [hw,Bool.true_and] at q
      have hl1:b.1.length ≤ 20000:=hst.1
      walk_at "go"
      refine ite2 (fun hd => ?_) (fun hd => ?_)
      · have hd':=of_decide_eq_true hd
        rw [decide_eq_false (show ¬ b.1.length ≤ 6 by omega),Bool.false_and] at q
        walk_at "go"
        exact q _ s1
      · have hd':=of_decide_eq_false (Bool.eq_false_iff.mpr hd)
        rw [decide_eq_true (show b.1.length ≤ 6 by omega),Bool.true_and] at q
        walk_at "go"
        refine ⟨b.2,5,rfl,hst.2,fun H2 s2 => ?_⟩
        walk_at "go"
        cases hr:rowB b.2 5 with
        | false =>
          rw [hr,Bool.false_and] at q
          walk_at "go"
          exact q _ (s1.trans s2)
        | true =>
          rw [hr,Bool.true_and] at q
          have rq2:=rdL_keep (s1.trans s2) rq
          walk_at "go"
          intro r hr2
          rw [cut_take (by omega),show ((i:Nat):Int).toNat = i from rfl,← List.map_take]
          have s3:=(s1.trans s2).trans (same_upd hr2 (.lst ((qs.take i).map V.ref)))
          have r3:rdL (upd H2 r (.lst ((qs.take i).map V.ref))) r = some ((qs.take i).map V.ref):=rdL_same
          generalize upd H2 r (.lst ((qs.take i).map V.ref)) = H3 at s3 r3 ⊢
          have tl:(qs.take i).length = (bk.take i).length:=by rw [List.length_take,List.length_take,b2]
          have tt:∀ (j:Nat) p c,(qs.take i)[j]? = some p → (bk.take i)[j]? = some c → H3 p = some (.tup [.str c.1,.str c.2]):=fun j p c hp hc => by
            have hj:j < i:=by
              have:=(List.getElem?_eq_some_iff.mp hp).1
              rw [List.length_take] at this
              omega
            rw [List.getElem?_take_of_lt hj] at hp hc
            exact s3 _ _ (b3 j p c hp hc)
          walk_at "go"
          refine cw_listS (xs:=(qs.take i).map V.ref) (neAt H3 b.1 b.2) r3 (by rw [List.length_map,List.length_take]; exact lt_line (by omega)) (fun j x Hc A B hx sm hA => ?_) (fun D Hd hD sD hd => ?_)
          · rw [List.getElem?_map] at hx
            cases e:(qs.take i)[j]? with
            | none => rw [e] at hx; cases hx
            | some p4 =>
              rw [e] at hx
              cases hx
              have hj:j < (bk.take i).length:=by rw [← tl]; exact (List.getElem?_eq_some_iff.mp e).1
              have t4:=tt j p4 _ e (List.getElem?_eq_getElem hj)
              generalize (bk.take i)[j] = c4 at t4
              have tc:=sm _ _ t4
              have r:=hA _ (Same.refl _)
              simp only [neAt,t4,neB] at r
              walk_at "go"
              refine ⟨Wk.set rfl (Wk.refl _),?_⟩
              walk_at "go"
              refine s_ixT tc (v:=.str c4.1) rfl ?_
              walk_at "go"
              by_cases z:c4.1 = b.1
              · rw [decide_eq_true z] at r ⊢
                exact r
              · rw [decide_eq_false z] at r ⊢
                walk_at "go"
                refine s_ixT tc (v:=.str c4.2) rfl ?_
                walk_at "go"
                exact r
          · rw [ne_fm tl tt] at hd
            walk_at "go"
            refine s_all (bs:=(bk.take i).map (neB b.1 b.2)) (rdL_of hd) ?_
            have r:=q Hd (s3.trans sD)
            rw [show ((bk.take i).map (neB b.1 b.2)).all id = (bk.take i).all (neB b.1 b.2) by rw [List.all_map]; rfl]
            exact r
def sp_look_at (aC:Addr):Sp:=fun vs H Q E => ∃ (a:Addr) (bk:List (Str × Str)),vs = [.ref a] ∧ BkAt H a bk ∧ Small bk 20000 ∧
  (bk ≠ [] → AllOk bk → ∀ H',Same H H' → Q .non H') ∧
  (∀ i:Nat,BadAt bk i → ∀ (dx:Addr) (H':Hp),Same H H' → H' dx = some (xdO dx [("at",.int (i:Int))]) → E (.ref aC) (some dx) H') ∧
  (bk = [] → ∀ (dx:Addr) (H':Hp),Same H H' → H' dx = some (xdO dx [("at",.int 0)]) → E (.ref aC) (some dx) H')
theorem sc_look_at:FnScope ["book", "at"] ["book"] (defScope s_look_at):=⟨rfl,rfl,rfl,by decide +kernel,rfl,by decide +kernel,by decide +kernel⟩
theorem ok_look_at {aNoBook aNoText aTowerError aNoHoist aShort aLack aNoCut aNoWord aNoHalyard aNoFlag aNoDeed aNoRow:Addr} {f:Addr} {fd:FuncData} (F:Fun K "look_at" "look_at" s_look_at f fd) (G:Gs K mg aNoBook aNoText aTowerError aNoHoist aShort aLack aNoCut aNoWord aNoHalyard aNoFlag aNoDeed aNoRow) (c_NoBook_init:CalI P w K mg base 1 aNoBook ["self", "at"] (sp_NoBook_init aNoBook)) (c_may_follow:Cal P w K mg base 3 "may_follow" ["book", "at"] sp_may_follow):FnOk P w K mg base (CXr P w) 4 f fd ["book"] (sp_look_at aNoBook):=by
  refine F.okX sc_look_at (fun vs H Q E h => ?_) (fun cdv A outer s H vs Q E hr h => ?_)
  · obtain ⟨a,bk,rfl,_⟩:=h; rfl
  obtain ⟨a,bk,rfl,hbk,hsm,q,qe,q0⟩:=h
  refine ⟨_,(@pss_cons _ _ _ _ _ (ps_if (mt_cmp (m_eqE hr.units0) (mv 0) (pe_lst pa_nil) (nomark _)) (@pss_one _ _ _ (ps_raiseI rais_of rfl rfl rfl G.c_NoBook G.xm_NoBook c_NoBook_init hr (by decide) (pa_cons pe_int pa_nil))) pss_nil) (@pss_one _ _ _ (pj_for PassesOwn.leaving rfl (pj_range1 rfl G.b_range (pa_cons (pe_callB m_len rfl G.b_len bt_len (pa_cons (mv 0) pa_nil)) pa_nil)) (pg_name (i:=1) sc_look_at.nd rfl (Or.inl rfl)) (@pss_one _ _ _ (ps_if (pt_not (mt_truth (pe_cal c_may_follow hr (by decide) rfl (pa_cons (mv 0) (pa_cons (mv 1) pa_nil))))) (@pss_one _ _ _ (ps_raiseI rais_of rfl rfl rfl G.c_NoBook G.xm_NoBook c_NoBook_init hr (by decide) (pa_cons (mv 1) pa_nil))) pss_nil))))),?_⟩
  obtain ⟨qs,b1,b2,b3⟩:=id hbk
  have hlen:=hsm.len
  walk_at "go"
  refine ⟨by decide,fun pe hpe => ?_⟩
  have s1:=same_upd hpe (.lst [])
  have r1:rdL (upd H pe (.lst [])) pe = some []:=rdL_same
  generalize upd H pe (.lst []) = H1 at s1 r1 ⊢
  have rq:=rdL_keep s1 (rdL_of b1)
  refine s_eqE rq r1 ?_
  walk_at "go"
  cases bk with
  | nil =>
    obtain rfl:qs = []:=List.eq_nil_of_length_eq_zero b2
    rw [show (List.map V.ref ([]:List Addr)).isEmpty = true from rfl]
    walk_at "go"
    refine ⟨by show 1 ≤ sizeLine; decide,fun ea hea => ⟨ea,_,rfl,upd_same,fun dx hdx => ⟨rfl,some dx,(exc_dx hdx).1,?_⟩⟩⟩
    exact q0 rfl dx _ (same_exc s1 hea hdx) (exc_dx hdx).2
  | cons c0 cr =>
    have he:(qs.map V.ref).isEmpty = false:=by
      cases qs with
      | nil => cases b2
      | cons _ _ => rfl
    rw [he]
    generalize hb:c0 :: cr = bk at hbk hsm q qe q0 b2 b3 hlen
    have hne:bk ≠ []:=by rw [← hb]; exact fun z => nomatch z
    clear hb
    have hql:(qs.map V.ref).length = bk.length:=by rw [List.length_map,b2]
    walk_at "go"
    rw [hql]
    refine ⟨⟨by omega,by omega⟩,?_⟩
    refine fj_range (fun i σ H' => ∃ v1:Option V,σ = [some (.ref a),v1] ∧ Same H H' ∧ ∀ j,j < i → followB bk j = true) ⟨_,rfl,s1,fun j hj => absurd hj (Nat.not_lt_zero _)⟩ ?_ ?_
    · rintro i σ H2 hi ⟨v1,rfl,s2,hok⟩
      have hi':i < bk.length:=by omega
      walk_at "go"
      rw [Int.zero_add]
      refine ⟨a,bk,i,rfl,hbk.keep s2,hsm,hi',fun H3 s3 => ?_⟩
      walk_at "go"
      cases e:followB bk i with
      | false =>
        walk_at "go"
        refine ⟨by show 1 ≤ sizeLine; decide,fun ea hea => ⟨ea,_,rfl,upd_same,fun dx hdx => ⟨rfl,some dx,(exc_dx hdx).1,?_⟩⟩⟩
        exact qe i ⟨hi',e,hok⟩ dx _ (same_exc (s2.trans s3) hea hdx) (exc_dx hdx).2
      | true =>
        walk_at "go"
        refine ⟨_,rfl,s2.trans s3,fun j hj => ?_⟩
        by_cases z:j = i
        · rw [z]; exact e
        · exact hok j (by omega)
    · rintro σ H2 ⟨v1,rfl,s2,hok⟩
      walk_at "go"
      exact q hne (fun j hj => hok j (by omega)) _ s2
def rowT (b:Str × Str):Str:=b.1 ++ Str.ofString " " ++ b.2
theorem mem_join {sep:Str} {c:Nat}:∀ {L:List Str},c ∈ (Txt.join sep L).cps.toList → c ∈ sep.cps.toList ∨ ∃ z ∈ L,c ∈ z.cps.toList
  | [],h => nomatch h
  | y :: r,h => by
    rw [join_sep] at h
    rcases List.mem_append.mp h with h | h
    · exact .inr ⟨y,List.mem_cons_self,h⟩
    · obtain ⟨l,hl,hc⟩:=List.mem_flatten.mp h
      obtain ⟨z,hz,rfl⟩:=List.mem_map.mp hl
      rcases List.mem_append.mp hc with hc | hc
      · exact .inl hc
      · exact .inr ⟨z,List.mem_cons_of_mem _ hz,hc⟩
structure RowsOk (bk:List (Str × Str)):Prop where
  le:bk.length ≤ 60
  len:∀ b ∈ bk,b.1.length ≤ 6 ∧ b.2.length ≤ 60
  free:∀ b ∈ bk,32 ∉ b.1.cps.toList ∧ 10 ∉ (rowT b).cps.toList
theorem rows_ok {bk:List (Str × Str)} (h:GoodBk bk):RowsOk bk:=by
  refine ⟨h.le,fun b hb => ?_,fun b hb => ?_⟩
  · obtain ⟨cw,e1,w1,w6,wL⟩:=h.word b hb
    obtain ⟨ts,e2,t1,t5,tT⟩:=h.mean b hb
    rw [e1,e2]
    exact ⟨by rw [strC_len]; exact w6,mean_len t5 tT⟩
  · obtain ⟨cw,e1,w1,w6,wL⟩:=h.word b hb
    obtain ⟨ts,e2,t1,t5,tT⟩:=h.mean b hb
    have hw:∀ c ∈ b.1.cps.toList,isLet c:=fun c hc => by rw [e1,strC_list] at hc; exact wL c hc
    refine ⟨fun z => by have:=hw 32 z; unfold isLet at this; omega,fun z => ?_⟩
    unfold rowT at z
    rw [FlT.app_cps,FlT.app_cps] at z
    rcases List.mem_append.mp z with z | z
    · rcases List.mem_append.mp z with z | z
      · have:=hw 10 z; unfold isLet at this; omega
      · exact absurd z (by decide)
    · rw [e2] at z
      rcases mem_join z with z | ⟨y,hy,z⟩
      · exact absurd z (by decide)
      · obtain ⟨t,ht,rfl⟩:=List.mem_map.mp hy
        rw [strC_list] at z
        have:=(tT t ht).2.2 10 z
        unfold isTm at this
        omega
theorem row_len {bk:List (Str × Str)} (h:RowsOk bk):∀ z ∈ bk.map rowT,z.length ≤ 67:=fun z hz => by
  obtain ⟨b,hb,rfl⟩:=List.mem_map.mp hz
  have:=h.len b hb
  unfold rowT
  rw [Str.length_append,Str.length_append,show (Str.ofString " ").length = 1 from rfl]
  omega
theorem range_getB {α:Type} (F:α → V):∀ xs:List α,(List.range xs.length).filterMap (fun j => (xs[j]?).map F) = xs.map F:=fun xs => by
  have h:∀ n,n ≤ xs.length → (List.range n).filterMap (fun j => (xs[j]?).map F) = (xs.take n).map F:=fun n => by
    induction n with
    | zero => intro _; rfl
    | succ n ih =>
      intro hn
      have e:xs[n]? = some xs[n]:=List.getElem?_eq_getElem (by omega)
      rw [range_fm_some (y:=F xs[n]) (by rw [e]; rfl),ih (by omega),List.take_add_one,e,List.map_append]
      rfl
  have r:=h xs.length (Nat.le_refl _)
  rw [List.take_length] at r
  exact r
theorem sum_le {n:Nat}:∀ {L:List Nat},(∀ x ∈ L,x ≤ n) → L.sum ≤ n * L.length
  | [],_ => Nat.le_refl _
  | x :: r,h => by
    rw [List.sum_cons,List.length_cons,Nat.mul_succ]
    have h1:=h x List.mem_cons_self
    have h2:=sum_le fun y hy => h y (List.mem_cons_of_mem _ hy)
    omega
abbrev rowsZ (z:Str):List Str:=Txt.split z (Str.ofString "\n")
theorem jeq (s:Str) (L:List Str):Txt.join s L = Str.join s L:=StrLaws.glued_eq_join _ _
theorem join2 (c:Nat) (p q:Str) (r:List Str):Txt.join ⟨#[c]⟩ (p :: q :: r) = p ++ ⟨#[c]⟩ ++ Txt.join ⟨#[c]⟩ (q :: r):=by
  rw [jeq,jeq]
  rfl
theorem join1 (c:Nat) (p:Str):Txt.join ⟨#[c]⟩ [p] = p:=by
  rw [jeq]
  rfl
theorem part_no {z:Str} {c:Nat} (h:c ∉ z.cps.toList):Txt.partition z ⟨#[c]⟩ = (z,Str.empty,Str.empty):=by
  have at1:∀ i,StrLaws.At z ⟨#[c]⟩ z.length i ↔ z.cps.toList[i]? = some c:=fun i => StrLaws.subAt_one _ c i
  unfold Txt.partition
  rcases StrLaws.occ_head z ⟨#[c]⟩ 1 (Nat.le_refl 1) with ⟨h0,hn⟩ | ⟨i,r,h0,hi,hn⟩
  · rw [h0]
  · exact absurd (List.mem_of_getElem? ((at1 i).mp hi)) h
theorem row_of (r:Str):(∃ p,parts r = [p] ∧ Txt.partition r (Str.ofString " ") = (p,Str.empty,Str.empty)) ∨
    (∃ p q t,parts r = p :: q :: t ∧ Txt.partition r (Str.ofString " ") = (p,Str.ofString " ",Txt.join (Str.ofString " ") (q :: t)) ∧ parts (Txt.join (Str.ofString " ") (q :: t)) = q :: t):=by
  have e1:Txt.join ⟨#[32]⟩ (parts r) = r:=by rw [jeq]; exact StrLaws.join_split r ⟨#[32]⟩
  have f1:∀ p ∈ parts r,32 ∉ p.cps.toList:=StrLaws.split_free r 32
  have n1:parts r ≠ []:=split_ne r ⟨#[32]⟩
  generalize parts r = L at e1 f1 n1
  match L,n1 with
  | [p],_ =>
    rw [join1] at e1
    subst e1
    exact .inl ⟨p,rfl,part_no (c:=32) (f1 p List.mem_cons_self)⟩
  | p :: q :: t,_ =>
    rw [join2] at e1
    subst e1
    exact .inr ⟨p,q,t,rfl,part_at (c:=32) (f1 p List.mem_cons_self),split_join (fun z => nomatch z) fun y hy => f1 y (List.mem_cons_of_mem _ hy)⟩
def pairZ (r:Str):Str × Str:=((Txt.partition r (Str.ofString " ")).1,(Txt.partition r (Str.ofString " ")).2.2)
def bkZ (z:Str):List (Str × Str):=(rowsZ z).map pairZ
def twoB (r:Str):Bool:=decide ((Txt.partition r (Str.ofString " ")).2.1 = Str.ofString " ")
def allTwo (z:Str):Bool:=(rowsZ z).all twoB
theorem two_iff (r:Str):twoB r = !decide ((parts r).length < 2):=by
  unfold twoB
  rcases row_of r with ⟨p,h1,h2⟩ | ⟨p,q,t,h1,h2,_⟩
  · rw [h1,h2]
    exact decide_eq_false (fun z => absurd (show Str.empty = Str.ofString " " from z) (by decide))
  · rw [h1,h2,decide_eq_true rfl,decide_eq_false (by simp)]; rfl
theorem two_of {r:Str} (h:twoB r = true):∃ p q t,parts r = p :: q :: t ∧ pairZ r = (p,Txt.join (Str.ofString " ") (q :: t)) ∧ parts (pairZ r).2 = q :: t:=by
  rw [two_iff] at h
  unfold pairZ
  rcases row_of r with ⟨p,h1,h2⟩ | ⟨p,q,t,h1,h2,h3⟩
  · rw [h1] at h; exact absurd h Bool.false_ne_true
  · exact ⟨p,q,t,h1,by rw [h2],by rw [h2]; exact h3⟩
theorem rows_ne (z:Str):rowsZ z ≠ []:=split_ne z ⟨#[10]⟩
theorem rows_len {z y:Str} (h:y ∈ rowsZ z):y.length ≤ z.length:=by
  have:=PySem.join_mem_le (Str.ofString "\n") (rowsZ z) y h
  rw [StrLaws.join_split] at this
  exact this
theorem rows_sum (c:Nat):∀ L:List Str,L ≠ [] → (Txt.join ⟨#[c]⟩ L).length + 1 = (L.map (·.length)).sum + L.length
  | [],h => absurd rfl h
  | [p],_ => by rw [join1]; simp
  | p :: q :: t,_ => by
    have ih:=rows_sum c (q :: t) (fun z => nomatch z)
    rw [join2,Str.length_append,Str.length_append,show (⟨#[c]⟩:Str).length = 1 from rfl]
    rw [List.map_cons,List.sum_cons,List.length_cons]
    omega
theorem split_sum (z:Str):((rowsZ z).map (·.length)).sum + (rowsZ z).length = z.length + 1:=by
  rw [← rows_sum 10 _ (rows_ne z)]
  rw [show Txt.join ⟨#[10]⟩ (rowsZ z) = z by rw [jeq]; exact StrLaws.join_split z ⟨#[10]⟩]
theorem pair_len (r:Str):(pairZ r).1.length ≤ r.length ∧ (pairZ r).2.length ≤ r.length:=by
  have e:=PySem.StrLaws.partition_sum r (Str.ofString " ")
  have e2:=congrArg Str.length e
  rw [Str.length_append,Str.length_append] at e2
  unfold pairZ
  constructor <;> dsimp only <;> omega
theorem split_end (z y:Str) (h:10 ∉ y.cps.toList):rowsZ (z ++ (Str.ofString "\n" ++ y)) = rowsZ z ++ [y]:=by
  have e0:Txt.join ⟨#[10]⟩ (rowsZ z ++ [y]) = z ++ (Str.ofString "\n" ++ y):=by
    have hj:∀ L:List Str,L ≠ [] → Txt.join ⟨#[10]⟩ (L ++ [y]) = Txt.join ⟨#[10]⟩ L ++ (⟨#[10]⟩ ++ y):=by
      intro L
      induction L with
      | nil => intro h; exact absurd rfl h
      | cons p r ih =>
        intro _
        cases r with
        | nil => rw [List.cons_append,List.nil_append,join2,join1,join1]; exact FlT.str_ext (by simp only [FlT.app_cps,List.append_assoc])
        | cons q t => rw [List.cons_append,List.cons_append,join2,← List.cons_append,ih (fun z => nomatch z),join2]; exact FlT.str_ext (by simp only [FlT.app_cps,List.append_assoc])
    rw [hj _ (rows_ne z),show Txt.join ⟨#[10]⟩ (rowsZ z) = z by rw [jeq]; exact StrLaws.join_split z ⟨#[10]⟩]
    rfl
  rw [← e0]
  refine split_joinC (c:=10) (by simp) fun u hu => ?_
  rcases List.mem_append.mp hu with q | q
  · exact StrLaws.split_free z 10 u q
  · rw [List.mem_singleton.mp q]; exact h
theorem range_mapD {α β:Type} (g:α → β) (d:α) (L:List α):(List.range L.length).map (fun j => g (L.getD j d)) = L.map g:=by
  refine List.ext_getElem? fun j => ?_
  rw [List.getElem?_map,List.getElem?_map]
  by_cases h:j < L.length
  · rw [List.getElem?_range h,List.getElem?_eq_getElem h,Option.map_some,Option.map_some,List.getD_eq_getElem?_getD,List.getElem?_eq_getElem h]
    rfl
  · rw [List.getElem?_eq_none (by rw [List.length_range]; omega),List.getElem?_eq_none (by omega)]
    rfl
theorem rows_cnt (z:Str):(rowsZ z).length ≤ z.length + 1:=by
  have:=split_sum z
  omega
theorem bk_small {z:Str} (h:z.length ≤ 19000):Small (bkZ z) 20000:=by
  refine ⟨by unfold bkZ; rw [List.length_map]; have:=rows_cnt z; omega,fun b hb => ?_⟩
  obtain ⟨r,hr,rfl⟩:=List.mem_map.mp hb
  have h1:=rows_len hr
  have h2:=pair_len r
  omega
theorem bk_ne (z:Str):bkZ z ≠ []:=fun e => rows_ne z (List.map_eq_nil_iff.mp e)
def Tells (H:Hp) (r:Addr) (z:Str):Prop:=(allTwo z = false ∧ H r = some (.lst [.str (Str.ofString "text")])) ∨
  (allTwo z = true ∧ ∃ i:Nat,BadAt (bkZ z) i ∧ H r = some (.lst [.str (Str.ofString "book"),.int (i:Int)])) ∨
  (allTwo z = true ∧ AllOk (bkZ z) ∧ ∃ ps:List Addr,H r = some (.lst (.str (Str.ofString "good") :: ps.map V.ref)) ∧ ps.length = (bkZ z).length ∧ ∀ (j:Nat) p b,ps[j]? = some p → (bkZ z)[j]? = some b → H p = some (.tup [.str b.1,.str b.2]))
theorem Tells.keep {H H':Hp} {r:Addr} {z:Str} (h:Tells H r z) (s:Same H H'):Tells H' r z:=by
  rcases h with ⟨a,b⟩ | ⟨a,i,b,c⟩ | ⟨a,b,ps,c,d,e⟩
  · exact .inl ⟨a,s _ _ b⟩
  · exact .inr (.inl ⟨a,i,b,s _ _ c⟩)
  · exact .inr (.inr ⟨a,b,ps,s _ _ c,d,fun j p q hp hq => s _ _ (e j p q hp hq)⟩)
theorem bad_one {bk:List (Str × Str)} {i j:Nat} (h:BadAt bk i) (g:BadAt bk j):i = j:=by
  rcases Nat.lt_trichotomy i j with z | z | z
  · have:=g.2.2 i z; rw [h.2.1] at this; cases this
  · exact z
  · have:=h.2.2 j z; rw [g.2.1] at this; cases this
theorem Tells.alk {H:Hp} {a b:Addr} {z:Str} (h:Tells H a z) (g:Tells H b z):Alk H 2 (.ref a) (.ref b):=by
  rcases h with ⟨h1,h2⟩ | ⟨h1,i,h2,h3⟩ | ⟨h1,h2,ps,h3,h4,h5⟩ <;> rcases g with ⟨g1,g2⟩ | ⟨g1,j,g2,g3⟩ | ⟨g1,g2,qs,g3,g4,g5⟩
  · exact .lst (rdL_of h2) (rdL_of g2) rfl (Alk.flats rfl)
  · rw [h1] at g1; cases g1
  · rw [h1] at g1; cases g1
  · rw [h1] at g1; cases g1
  · obtain rfl:=bad_one h2 g2
    exact .lst (rdL_of h3) (rdL_of g3) rfl (Alk.flats rfl)
  · exact absurd (g2 i h2.1) (by rw [h2.2.1]; exact Bool.false_ne_true)
  · rw [h1] at g1; cases g1
  · exact absurd (h2 j g2.1) (by rw [g2.2.1]; exact Bool.false_ne_true)
  · refine .lst (rdL_of h3) (rdL_of g3) (by rw [List.length_cons,List.length_cons,List.length_map,List.length_map,h4,g4]) fun j x y hx hy => ?_
    cases j with
    | zero =>
      rw [List.getElem?_cons_zero] at hx hy
      cases hx
      cases hy
      exact .flat rfl
    | succ j =>
      rw [List.getElem?_cons_succ,List.getElem?_map] at hx hy
      cases e:ps[j]? with
      | none => rw [e] at hx; cases hx
      | some p =>
        cases e':qs[j]? with
        | none => rw [e'] at hy; cases hy
        | some r =>
          rw [e] at hx
          rw [e'] at hy
          cases hx
          cases hy
          have hj:j < (bkZ z).length:=by rw [← h4]; exact (List.getElem?_eq_some_iff.mp e).1
          exact .tup (tupL_of (h5 j p _ e (List.getElem?_eq_getElem hj))) (tupL_of (g5 j r _ e' (List.getElem?_eq_getElem hj))) rfl (Alk.flats rfl)
def sp_read_book (aT aB:Addr):Sp:=fun vs H Q E => ∃ z:Str,vs = [.str z] ∧ z.length ≤ 19000 ∧
  (allTwo z = true → AllOk (bkZ z) → ∀ (r:Addr) (H':Hp),H r = none → Same H H' → BkAt H' r (bkZ z) → Q (.ref r) H') ∧
  (allTwo z = false → ∀ H',Same H H' → E (.ref aT) none H') ∧
  (allTwo z = true → ∀ i:Nat,BadAt (bkZ z) i → ∀ (dx:Addr) (H':Hp),Same H H' → H' dx = some (xdO dx [("at",.int (i:Int))]) → E (.ref aB) (some dx) H')
theorem sc_read_book:FnScope ["text", "rows", "book"] ["text"] (defScope s_read_book):=⟨rfl,rfl,rfl,by decide +kernel,rfl,by decide +kernel,by decide +kernel⟩
theorem ok_read_book {aNoBook aNoText aTowerError aNoHoist aShort aLack aNoCut aNoWord aNoHalyard aNoFlag aNoDeed aNoRow:Addr} {f:Addr} {fd:FuncData} (F:Fun K "read_book" "read_book" s_read_book f fd) (G:Gs K mg aNoBook aNoText aTowerError aNoHoist aShort aLack aNoCut aNoWord aNoHalyard aNoFlag aNoDeed aNoRow) (c_look_at:CalX P w K mg base 4 "look_at" ["book"] (sp_look_at aNoBook)):FnOk P w K mg base (CXr P w) 5 f fd ["text"] (sp_read_book aNoText aNoBook):=by
  refine F.okX sc_read_book (fun vs H Q E h => ?_) (fun cdv A outer s H vs Q E hr h => ?_)
  · obtain ⟨z,rfl,_⟩:=h; rfl
  obtain ⟨z,rfl,hz,q,qt,qb⟩:=h
  refine ⟨_,(@pss_cons _ _ _ _ _ (ps_setC (i:=1) sc_read_book.nd rfl (Or.inl rfl) rfl (pj_list (me_meth PySem.F.plainAttrs_str PySem.F.slot_str_split PySem.F.type_str_split m_split (mv 0) (@pa_str _ _ _ _ _ _ pa_nil))) (clOk0 (N:=["row"]) (by decide +kernel) (by decide +kernel)) (by decide +kernel) rfl (by decide +kernel) (fun C s₀ H₀ ex => (pg_name (i:=0) (show List.Nodup (["row"]:List Str) by decide +kernel) rfl (Or.inl rfl))) (fun C s₀ H₀ ex => pf_nil) (fun C s₀ H₀ ex => (me_meth PySem.F.plainAttrs_str PySem.F.slot_str_partition PySem.F.type_str_partition m_partition (mv 0) (@pa_str _ _ _ _ _ _ pa_nil)))) (@pss_cons _ _ _ _ _ (ps_if (pt_not (mt_truth (pe_callB (m_all rfl) rfl G.b_all bt_all (pa_cons (pe_comp rfl (pj_list (mv 1)) (clOk0 (N:=["row"]) (by decide +kernel) (by decide +kernel)) (by decide +kernel) rfl (by decide +kernel) (fun C s₀ H₀ ex => (pg_name (i:=0) (show List.Nodup (["row"]:List Str) by decide +kernel) rfl (Or.inl rfl))) (fun C s₀ H₀ ex => pf_nil) (fun C s₀ H₀ ex => (pe_cmpR m_eq (pe_ix m_ix (mv 0) pe_int (fun _ _ => rfl)) pe_str (nomark _)))) pa_nil)))) (@pss_one _ _ _ (ps_raise rais_of rfl rfl rfl G.c_NoText G.x_NoText PySem.F.excBase_ValueError (@pa_str _ _ _ _ _ _ pa_nil))) pss_nil) (@pss_cons _ _ _ _ _ (ps_setC (i:=2) sc_read_book.nd rfl (Or.inl rfl) rfl (pj_list (mv 1)) (clOk0 (N:=["row"]) (by decide +kernel) (by decide +kernel)) (by decide +kernel) rfl (by decide +kernel) (fun C s₀ H₀ ex => (pg_name (i:=0) (show List.Nodup (["row"]:List Str) by decide +kernel) rfl (Or.inl rfl))) (fun C s₀ H₀ ex => pf_nil) (fun C s₀ H₀ ex => (pe_tup (pa_cons (pe_ix m_ix (mv 0) pe_int (fun _ _ => rfl)) (pa_cons (pe_ix m_ix (mv 0) pe_int (fun _ _ => rfl)) pa_nil))))) (@pss_cons _ _ _ _ _ (ps_expr (pe_calX c_look_at passes_on hr (by decide) rfl (pa_cons (mv 2) pa_nil))) (@pss_one _ _ _ (ps_ret (mv 2))))))),?_⟩
  have hcn:=rows_cnt z
  walk_at "go"
  refine s_splitB (by decide) (by omega) fun l hl => ?_
  have s1:=same_upd hl (.lst ((rowsZ z).map V.str))
  have e1:rdL (upd H l (.lst ((rowsZ z).map V.str))) l = some ((rowsZ z).map V.str):=rdL_same
  generalize upd H l (.lst ((rowsZ z).map V.str)) = H1 at s1 e1 ⊢
  have hrl:((rowsZ z).map V.str).length = (rowsZ z).length:=List.length_map ..
  walk_at "go"
  refine cw_listT (fun j => partL ((rowsZ z).getD j Str.empty) (Str.ofString " ")) e1 (by rw [hrl]; exact lt_line (by omega)) (fun i x Hc A B hx sm hA => ?_) (fun D Hd ps hD sD hd hpl tp => ?_)
  · obtain ⟨y,hy,rfl⟩:=of_map_str hx
    have hyl:=rows_len (List.mem_of_getElem? hy)
    walk_at "go"
    refine ⟨Wk.set rfl (Wk.refl _),?_⟩
    walk_at "go"
    refine s_partB (by decide) (by omega) fun p hp => ?_
    refine hA p _ hp (same_upd hp _) ?_
    rw [upd_same,List.getD_eq_getElem?_getD,hy]
    rfl
  · rw [hrl] at hpl tp
    rw [range_mapD (fun r => partL r (Str.ofString " ")) Str.empty (rowsZ z)] at tp
    have tat:∀ (j:Nat) p r,ps[j]? = some p → (rowsZ z)[j]? = some r → Hd p = some (.tup [.str (Txt.partition r (Str.ofString " ")).1,.str (Txt.partition r (Str.ofString " ")).2.1,.str (Txt.partition r (Str.ofString " ")).2.2]):=fun j p r hp hr => (tp.2 j p _ hp (by rw [List.getElem?_map,hr]; rfl)).2
    have hpm:(ps.map V.ref).length = (rowsZ z).length:=by rw [List.length_map,hpl]
    have rD:=rdL_of hd
    walk_at "go"
    refine cw_listX (xs:=ps.map V.ref) (fun j => ((rowsZ z)[j]?).map fun r => V.bl (twoB r)) rD (by rw [hpm]; exact lt_line (by omega)) (fun j x Hc A B hx sc hA hB => ?_) (fun D2 Hd2 hD2 sD2 hd2 => ?_)
    · rw [List.getElem?_map] at hx
      cases e:ps[j]? with
      | none => rw [e] at hx; cases hx
      | some p =>
        rw [e] at hx
        cases hx
        have hj:j < (rowsZ z).length:=by rw [← hpl]; exact (List.getElem?_eq_some_iff.mp e).1
        have er:(rowsZ z)[j]? = some (rowsZ z)[j]:=List.getElem?_eq_getElem hj
        have ht:=sc _ _ (tat j p _ e er)
        have hA2:=hA (.bl (twoB (rowsZ z)[j])) (by rw [er]; rfl)
        walk_at "go"
        refine ⟨Wk.set rfl (Wk.refl _),?_⟩
        walk_at "go"
        refine s_ixT ht (v:=.str (Txt.partition (rowsZ z)[j] (Str.ofString " ")).2.1) rfl ?_
        walk_at "go"
        exact hA2 _ (Same.refl _)
    · rw [hpm,range_getB,show (rowsZ z).map (fun r => V.bl (twoB r)) = ((rowsZ z).map twoB).map V.bl by rw [List.map_map]; rfl] at hd2
      have sm2:=sD.trans sD2
      have rD2:=rdL_keep sD2 rD
      walk_at "go"
      refine s_all (rdL_of hd2) ?_
      rw [show (((rowsZ z).map twoB).all id) = allTwo z by rw [List.all_map]; rfl]
      walk_at "go"
      cases ha:allTwo z with
      | false =>
        walk_at "go"
        exact ⟨by decide,qt ha _ (s1.trans sm2)⟩
      | true =>
        walk_at "go"
        refine cw_listT (fun j => [.str (pairZ ((rowsZ z).getD j Str.empty)).1,.str (pairZ ((rowsZ z).getD j Str.empty)).2]) rD2 (by rw [hpm]; exact lt_line (by omega)) (fun j x Hc A B hx sc hA => ?_) (fun D3 Hd3 qs hD3 sD3 hd3 hql tq => ?_)
        · rw [List.getElem?_map] at hx
          cases e:ps[j]? with
          | none => rw [e] at hx; cases hx
          | some p =>
            rw [e] at hx
            cases hx
            have hj:j < (rowsZ z).length:=by rw [← hpl]; exact (List.getElem?_eq_some_iff.mp e).1
            have er:(rowsZ z)[j]? = some (rowsZ z)[j]:=List.getElem?_eq_getElem hj
            have ht:=(sD2.trans sc) _ _ (tat j p _ e er)
            walk_at "go"
            refine ⟨Wk.set rfl (Wk.refl _),?_⟩
            walk_at "go"
            refine s_ixT ht (v:=.str (pairZ (rowsZ z)[j]).1) rfl ?_
            walk_at "go"
            refine s_ixT ht (v:=.str (pairZ (rowsZ z)[j]).2) rfl ?_
            walk_at "go"
            refine ⟨by show 2 ≤ sizeLine; decide,fun pp hpp => ?_⟩
            refine hA pp _ hpp (same_upd hpp _) ?_
            rw [upd_same,List.getD_eq_getElem?_getD,er]
            rfl
        · rw [hpm] at hql tq
          rw [range_mapD (fun r => [V.str (pairZ r).1,V.str (pairZ r).2]) Str.empty (rowsZ z)] at tq
          have hbk:BkAt Hd3 D3 (bkZ z):=⟨qs,hd3,by unfold bkZ; rw [hql,List.length_map],fun j p b hp hb => by
            unfold bkZ at hb
            rw [List.getElem?_map] at hb
            cases e:(rowsZ z)[j]? with
            | none => rw [e] at hb; cases hb
            | some r =>
              rw [e] at hb
              cases hb
              exact (tq.2 j p _ hp (by rw [List.getElem?_map,e]; rfl)).2⟩
          have s3:=s1.trans (sm2.trans sD3)
          walk_at "go"
          refine ⟨D3,bkZ z,rfl,hbk,bk_small hz,fun _ hok H4 s4 => ?_,fun i hb dx H' s' hx => ?_,fun e => absurd e (bk_ne z)⟩
          · walk_at "go"
            exact q ha hok D3 H4 (none_of (s1.trans sm2) hD3) (s3.trans s4) (hbk.keep s4)
          · exact qb ha i hb dx H' (s3.trans s') hx
theorem eqVs_nil (xs:List V):eqVs xs [] = xs.isEmpty:=by
  cases xs with
  | nil => rfl
  | cons x r => rfl
def oddF (T:Str) (c:Nat):Option V:=if c ∈ T.cps.toList then none else some (.str ⟨#[c]⟩)
theorem odd_none (T:Str) (l:List Nat):(l.filterMap (oddF T)).isEmpty = l.all fun c => decide (c ∈ T.cps.toList):=by
  induction l with
  | nil => rfl
  | cons c r ih =>
    by_cases h:c ∈ T.cps.toList
    · rw [List.filterMap_cons_none (by unfold oddF; rw [if_pos h]),ih,List.all_cons,decide_eq_true h,Bool.true_and]
    · rw [List.filterMap_cons_some (b:=.str ⟨#[c]⟩) (by unfold oddF; rw [if_neg h]),List.all_cons,decide_eq_false h,Bool.false_and]
      rfl
theorem odd_flat (T:Str) (l:List Nat):(l.filterMap (oddF T)).all flatV = true:=by
  rw [List.all_eq_true]
  intro x hx
  obtain ⟨c,_,e⟩:=List.mem_filterMap.mp hx
  unfold oddF at e
  split at e
  · cases e
  · cases e; rfl
def madeB (z T:Str) (n:Int):Bool:=decide (1 ≤ z.length) && (decide ((z.length:Int) ≤ n) && z.cps.toList.all fun c => decide (c ∈ T.cps.toList))
def sp_l_made_of:Sp:=fun vs H Q _ => ∃ (z T:Str) (n:Int),vs = [.str z,.str T,.int n] ∧ z.length ≤ 20000 ∧ ∀ H',Same H H' → Q (.bl (madeB z T n)) H'
theorem sc_l_made_of:FnScope ["_law_text", "_law_signs", "_law_most"] ["_law_text", "_law_signs", "_law_most"] (defScope s_l_made_of):=⟨rfl,rfl,rfl,by decide +kernel,rfl,by decide +kernel,by decide +kernel⟩
theorem ok_l_made_of {aNoBook aNoText aTowerError aNoHoist aShort aLack aNoCut aNoWord aNoHalyard aNoFlag aNoDeed aNoRow:Addr} {f:Addr} {fd:FuncData} (F:Fun K "_law_made_of" "_law_made_of" s_l_made_of f fd) (G:Gs K mg aNoBook aNoText aTowerError aNoHoist aShort aLack aNoCut aNoWord aNoHalyard aNoFlag aNoDeed aNoRow)  : FnOk P w K mg base CX0 1 f fd ["_law_text", "_law_signs", "_law_most"] sp_l_made_of:=by
  refine F.ok sc_l_made_of (fun vs H Q E h => ?_) (fun cdv A outer s H vs Q E hr h => ?_)
  · obtain ⟨z,T,n,rfl,_⟩:=h; rfl
  obtain ⟨z,T,n,rfl,hz,q⟩:=h
  refine ⟨_,(@pss_one _ _ _ (ps_ret (me_and (me_chain m_le m_le pe_int (pe_callB m_len rfl G.b_len bt_len (pa_cons (mv 0) pa_nil)) (mv 2)) (pe_one (pe_cmpR (m_eqL hr.units0) (pe_comp rfl (pj_str (mv 0)) (clOkF (N:=["_law_sign_here", "_law_signs"]) ["_law_text", "_law_signs", "_law_most"] (defScope s_l_made_of) [none,some 1] rfl rfl rfl (fun x h => cell_has h) (by decide +kernel)) (by decide +kernel) rfl (by decide +kernel) (fun C s₀ H₀ ex => (pg_name (i:=0) (show List.Nodup (["_law_sign_here", "_law_signs"]:List Str) by decide +kernel) rfl (Or.inl rfl))) (fun C s₀ H₀ ex => (pf_one (mt_cmp m_notInS (mv 0) (mv 1) (by rfl)))) (fun C s₀ H₀ ex => (mv 0))) (pe_lst pa_nil) (nomark _)))))),?_⟩
  walk_at "go"
  unfold madeB at q
  refine ite2 (fun hc => ?_) (fun hc => ?_)
  · have hc':=of_decide_eq_true hc
    rw [decide_eq_true (show 1 ≤ z.length by omega),Bool.true_and] at q
    walk_at "go"
    refine ite2 (fun hd => ?_) (fun hd => ?_)
    · have hd':=of_decide_eq_true hd
      rw [decide_eq_true hd',Bool.true_and] at q
      walk_at "go"
      refine cw_str (oddF T) (lt_line (by omega)) (fun i c Hc A B hc' hA => ?_) (fun D hD => ?_)
      · walk_at "go"
        refine ⟨Wk.set rfl (Wk.refl _),?_⟩
        walk_at "go"
        have e:subIn ⟨#[c]⟩ T = decide (c ∈ T.cps.toList):=subIn_one _ _
        rw [if_pos rfl,e]
        unfold oddF at hA
        by_cases hm:c ∈ T.cps.toList
        · rw [if_pos hm] at hA
          rw [decide_eq_true hm]
          exact hA
        · rw [if_neg hm] at hA
          rw [decide_eq_false hm]
          exact hA
      · have s1:=same_upd hD (.lst (z.cps.toList.filterMap (oddF T)))
        have r1:rdL (upd H D (.lst (z.cps.toList.filterMap (oddF T)))) D = some (z.cps.toList.filterMap (oddF T)):=rdL_same
        generalize upd H D (.lst (z.cps.toList.filterMap (oddF T))) = H1 at s1 r1 ⊢
        walk_at "go"
        refine ⟨by decide,fun pe hpe => ?_⟩
        refine s_eqL (rdL_keep (same_upd hpe _) r1) rdL_same (odd_flat _ _) rfl ?_
        rw [if_neg Bool.false_ne_true,eqVs_nil,odd_none]
        exact q _ (s1.trans (same_upd hpe _))
    · have hd':=of_decide_eq_false (Bool.eq_false_iff.mpr hd)
      rw [decide_eq_false hd',Bool.false_and] at q
      walk_at "go"
      exact q _ (Same.refl _)
  · have hc':=of_decide_eq_false (Bool.eq_false_iff.mpr hc)
    rw [decide_eq_false (show ¬ 1 ≤ z.length by omega),Bool.false_and] at q
    walk_at "go"
    exact q _ (Same.refl _)
theorem eqVs_self:∀ xs:List V,xs.all flatV = true → eqVs xs xs = true:=fun xs h => by
  rw [eqVs_same rfl,List.all_eq_true]
  intro i hi
  have f:=flat_getD h i
  generalize xs.getD i .non = x at f ⊢
  cases x with
  | non => rfl
  | bl b => show (b == b) = true; simp
  | int i => show (i == i) = true; simp
  | str z => show (z == z) = true; simp
  | _ => cases f
theorem eqVs_strs (xs ys:List Str):eqVs (xs.map V.str) (ys.map V.str) = decide (xs = ys):=by
  by_cases e:xs = ys
  · subst e
    rw [eqVs_self _ (allFlat_str _),decide_eq_true rfl]
  · rw [decide_eq_false e]
    by_cases hl:xs.length = ys.length
    · cases h:eqVs (xs.map V.str) (ys.map V.str) with
      | false => rfl
      | true =>
        rw [eqVs_same (by rw [List.length_map,List.length_map,hl]),List.all_eq_true,List.length_map] at h
        refine absurd (List.ext_getElem hl fun j h1 h2 => ?_) e
        have q:=h j (List.mem_range.mpr h1)
        rw [List.getD_eq_getElem?_getD,List.getD_eq_getElem?_getD,List.getElem?_map,List.getElem?_map,List.getElem?_eq_getElem h1,List.getElem?_eq_getElem h2] at q
        have q2:(xs[j] == ys[j]) = true:=q
        exact eq_of_beq q2
    · exact eqVs_len (by rw [List.length_map,List.length_map]; exact hl)
def hdZ (r:Str):Str:=(parts r).headD Str.empty
def tlZ (r:Str):List Str:=(parts r).drop 1
def sameB (r r':Str):Bool:=decide (hdZ r' = hdZ r) || decide (tlZ r' = tlZ r)
def bad0 (i:Nat) (r:Str):Bool:=decide (59 < i) || (decide (5 < (tlZ r).length) || !madeB (hdZ r) lettersT 6)
def bad1 (i:Nat) (r:Str) (n:Nat):Bool:=bad0 i r || ((tlZ r).take n).any fun t => !madeB t tmsT 10
def bad2 (i:Nat) (r:Str) (L:List Str):Bool:=bad1 i r (tlZ r).length || L.any fun r' => sameB r r'
theorem made_word (p:Str):madeB p lettersT 6 = (isWord p && decide (p.length ≤ 6)):=by
  unfold madeB isWord allL
  by_cases h1:1 ≤ p.length
  · by_cases h6:p.length ≤ 6
    · rw [if_neg (by omega),decide_eq_true h1,decide_eq_true h6,decide_eq_true (show (p.length:Int) ≤ 6 by omega),Bool.true_and,Bool.true_and,Bool.and_true]
    · rw [decide_eq_false h6,decide_eq_false (show ¬ (p.length:Int) ≤ 6 by omega),Bool.false_and,Bool.and_false,Bool.and_false]
  · rw [if_pos (by omega),decide_eq_false h1,Bool.false_and,Bool.false_and]
theorem made_term (p:Str):madeB p tmsT 10 = termB p:=by
  unfold madeB termB
  by_cases h1:1 ≤ p.length
  · by_cases h6:p.length ≤ 10
    · rw [if_neg (by omega),decide_eq_true h1,decide_eq_true (show (p.length:Int) ≤ 10 by omega),Bool.true_and,Bool.true_and]
    · rw [if_pos (by omega),decide_eq_false (show ¬ (p.length:Int) ≤ 10 by omega),Bool.false_and,Bool.and_false]
  · rw [if_pos (by omega),decide_eq_false h1,Bool.false_and]
theorem ne_same {r r':Str} (h:twoB r = true) (h':twoB r' = true):neB (pairZ r).1 (pairZ r).2 (pairZ r') = !sameB r r':=by
  obtain ⟨p,q,t,e1,e2,e3⟩:=two_of h
  obtain ⟨p',q',t',f1,f2,f3⟩:=two_of h'
  unfold neB sameB hdZ tlZ
  rw [e1,f1]
  have a1:(pairZ r).1 = p:=by rw [e2]
  have a2:(pairZ r').1 = p':=by rw [f2]
  have a3:decide ((pairZ r').2 = (pairZ r).2) = decide (q' :: t' = q :: t):=by
    refine decide_eq_decide.mpr ⟨fun z => ?_,fun z => ?_⟩
    · rw [← f3,← e3,z]
    · rw [e2,f2,z]
  rw [a1,a2,a3]
  show (!decide (p' = p) && !decide (q' :: t' = q :: t)) = !(decide (p' = p) || decide (q' :: t' = q :: t))
  rw [Bool.not_or]
theorem follow_bad {z:Str} {i:Nat} {r:Str} (ha:allTwo z = true) (hr:(rowsZ z)[i]? = some r):followB (bkZ z) i = !bad2 i r ((rowsZ z).take i):=by
  have h2:∀ x ∈ rowsZ z,twoB x = true:=fun x hx => List.all_eq_true.mp ha x hx
  have hb:(bkZ z)[i]? = some (pairZ r):=by unfold bkZ; rw [List.getElem?_map,hr]; rfl
  have hrt:=h2 r (List.mem_of_getElem? hr)
  have hall:((bkZ z).take i).all (neB (pairZ r).1 (pairZ r).2) = ((rowsZ z).take i).all fun r' => !sameB r r':=by
    unfold bkZ
    rw [← List.map_take,List.all_map]
    refine Bool.eq_iff_iff.mpr ?_
    rw [List.all_eq_true,List.all_eq_true]
    refine forall_congr' fun x => imp_congr_right fun hx => ?_
    show neB _ _ (pairZ x) = true ↔ _
    rw [ne_same hrt (h2 x (List.mem_of_mem_take hx))]
  rw [follow_eq hb,hall]
  obtain ⟨p,q,t,e1,e2,e3⟩:=two_of hrt
  have eh:hdZ r = p:=by unfold hdZ; rw [e1]; rfl
  have et:tlZ r = q :: t:=by unfold tlZ; rw [e1]; rfl
  have a1:(pairZ r).1 = p:=by rw [e2]
  unfold bad2 bad1 bad0 rowB
  rw [e3,List.take_length,eh,et,a1,made_word]
  have h3:((q :: t).any fun t => !madeB t tmsT 10) = !(q :: t).all termB:=by
    rw [List.any_eq_not_all_not]
    refine congrArg _ (congrArg (fun f => (q :: t).all f) (funext fun x => ?_))
    rw [Bool.not_not,made_term]
  have h4:(((rowsZ z).take i).any fun r' => sameB r r') = !((rowsZ z).take i).all fun r' => !sameB r r':=List.any_eq_not_all_not ..
  rw [h3,h4]
  have h5:decide (59 < i) = !decide (i < 60):=by
    by_cases h:i < 60
    · rw [decide_eq_true h,decide_eq_false (by omega)]; rfl
    · rw [decide_eq_false h,decide_eq_true (by omega)]; rfl
  have h6:decide (5 < (q :: t).length) = !decide (((q :: t).length:Int) ≤ 5):=by
    by_cases h:((q :: t).length:Int) ≤ 5
    · rw [decide_eq_true h,decide_eq_false (by omega)]; rfl
    · rw [decide_eq_false h,decide_eq_true (by omega)]; rfl
  rw [h5,h6]
  generalize decide (i < 60) = b1
  generalize isWord p = b2
  generalize decide (p.length ≤ 6) = b3
  generalize decide (((q :: t).length:Int) ≤ 5) = b4
  generalize (q :: t).all termB = b5
  generalize (((rowsZ z).take i).all fun r' => !sameB r r') = b6
  revert b1 b2 b3 b4 b5 b6
  decide
theorem bad1_zero (i:Nat) (r:Str):bad1 i r 0 = bad0 i r:=by unfold bad1; rw [List.take_zero]; exact Bool.or_false _
theorem bad1_succ {i j:Nat} {r t:Str} (h:(tlZ r)[j]? = some t):bad1 i r (j + 1) = (bad1 i r j || !madeB t tmsT 10):=by
  unfold bad1
  rw [List.take_add_one,h,List.any_append,Bool.or_assoc]
  show _ = (_ || (_ || _))
  rw [show ((some t:Option Str).toList.any fun t => !madeB t tmsT 10) = !madeB t tmsT 10 from Bool.or_false _]
def bad3 (i:Nat) (r:Str) (L:List Str) (j:Nat):Bool:=bad2 i r (L.take j)
theorem bad3_zero (i:Nat) (r:Str) (L:List Str):bad3 i r L 0 = bad1 i r (tlZ r).length:=by unfold bad3 bad2; rw [List.take_zero]; exact Bool.or_false _
theorem bad3_succ {i j:Nat} {r t:Str} {L:List Str} (h:L[j]? = some t):bad3 i r L (j + 1) = (bad3 i r L j || sameB r t):=by
  unfold bad3 bad2
  rw [List.take_add_one,h,List.any_append,Bool.or_assoc]
  show _ = (_ || (_ || _))
  rw [show ((some t:Option Str).toList.any fun r' => sameB r r') = sameB r t from Bool.or_false _]
theorem tl_sum {r:Str}:((tlZ r).map (·.length)).sum + (tlZ r).length ≤ r.length + 1:=by
  have h:=rows_sum 32 (parts r) (split_ne r ⟨#[32]⟩)
  rw [show Txt.join ⟨#[32]⟩ (parts r) = r by rw [jeq]; exact StrLaws.join_split r ⟨#[32]⟩] at h
  unfold tlZ
  cases e:parts r with
  | nil => simp
  | cons a b => rw [e,List.map_cons,List.sum_cons,List.length_cons] at h; rw [List.drop_succ_cons,List.drop_zero]; omega
theorem hd_at {r:Str} (h:twoB r = true):atI ((parts r).map V.str) 0 = some (.str (hdZ r)):=by
  obtain ⟨p0,q0,t0,e1,_⟩:=two_of h
  unfold hdZ
  rw [e1]
  exact atI_nat (j:=0) (xs:=(p0 :: q0 :: t0).map V.str) rfl
theorem pair_hd {r:Str} (h:twoB r = true):(pairZ r).1 = hdZ r ∧ (pairZ r).2 = Txt.join (Str.ofString " ") (tlZ r):=by
  obtain ⟨p0,q0,t0,e1,e2,_⟩:=two_of h
  unfold hdZ tlZ
  rw [e1,e2]
  exact ⟨rfl,rfl⟩
def sp_l_due:Sp:=fun vs H Q _ => ∃ z:Str,vs = [.str z] ∧ z.length ≤ 19000 ∧ ∀ (r:Addr) (H':Hp),H r = none → Same H H' → Tells H' r z → Q (.ref r) H'
def shortF (ps:List Addr) (L:List Str) (j:Nat):Option V:=match L[j]? with
  | some r => if (parts r).length < 2 then (ps.map V.ref)[j]? else none
  | none => none
theorem short_none {ps:List Addr} {z:Str} (hl:ps.length = (rowsZ z).length):((List.range (rowsZ z).length).filterMap (shortF ps (rowsZ z))).isEmpty = allTwo z:=by
  cases h:allTwo z with
  | true =>
    rw [List.isEmpty_iff,List.filterMap_eq_nil_iff]
    intro j hj
    have hj':=List.mem_range.mp hj
    have h1:=List.all_eq_true.mp h _ (List.getElem_mem hj')
    rw [two_iff] at h1
    unfold shortF
    rw [List.getElem?_eq_getElem hj']
    show (if (parts (rowsZ z)[j]).length < 2 then _ else _) = none
    rw [if_neg (fun e => by rw [decide_eq_true e] at h1; exact Bool.false_ne_true h1)]
  | false =>
    obtain ⟨r,hr,e⟩:=List.all_eq_false.mp h
    rw [two_iff] at e
    obtain ⟨j,hj,ej⟩:=List.mem_iff_getElem.mp hr
    have h2:(parts r).length < 2:=Decidable.of_not_not fun n => e (by rw [decide_eq_false n]; rfl)
    have hs:shortF ps (rowsZ z) j = some (.ref (ps[j]'(by omega))):=by
      unfold shortF
      rw [List.getElem?_eq_getElem hj,ej]
      show (if (parts r).length < 2 then _ else _) = _
      rw [if_pos h2,List.getElem?_map,List.getElem?_eq_getElem (by omega)]
      rfl
    cases e2:(List.range (rowsZ z).length).filterMap (shortF ps (rowsZ z)) with
    | nil =>
      have:=List.filterMap_eq_nil_iff.mp e2 j (List.mem_range.mpr hj)
      rw [hs] at this
      cases this
    | cons _ _ => rfl
theorem sc_l_due:FnScope ["_law_text", "_law_rows", "_law_at", "_law_terms_here", "_law_bad", "_law_term", "_law_row"] ["_law_text"] (defScope s_l_due):=⟨rfl,rfl,rfl,by decide +kernel,rfl,by decide +kernel,by decide +kernel⟩
theorem ok_l_due {aNoBook aNoText aTowerError aNoHoist aShort aLack aNoCut aNoWord aNoHalyard aNoFlag aNoDeed aNoRow:Addr} {f:Addr} {fd:FuncData} (F:Fun K "_law_due" "_law_due" s_l_due f fd) (G:Gs K mg aNoBook aNoText aTowerError aNoHoist aShort aLack aNoCut aNoWord aNoHalyard aNoFlag aNoDeed aNoRow) (c_l_made_of:Cal P w K mg base 1 "_law_made_of" ["_law_text", "_law_signs", "_law_most"] sp_l_made_of):FnOk P w K mg base CX0 2 f fd ["_law_text"] sp_l_due:=by
  refine F.ok sc_l_due (fun vs H Q E h => ?_) (fun cdv A outer s H vs Q E hr h => ?_)
  · obtain ⟨z,rfl,_⟩:=h; rfl
  obtain ⟨z,rfl,hz,q⟩:=h
  refine ⟨_,(@pss_cons _ _ _ _ _ (ps_setC (i:=1) sc_l_due.nd rfl (Or.inl rfl) rfl (pj_list (me_meth PySem.F.plainAttrs_str PySem.F.slot_str_split PySem.F.type_str_split m_split (mv 0) (@pa_str _ _ _ _ _ _ pa_nil))) (clOk0 (N:=["_law_row"]) (by decide +kernel) (by decide +kernel)) (by decide +kernel) rfl (by decide +kernel) (fun C s₀ H₀ ex => (pg_name (i:=0) (show List.Nodup (["_law_row"]:List Str) by decide +kernel) rfl (Or.inl rfl))) (fun C s₀ H₀ ex => pf_nil) (fun C s₀ H₀ ex => (me_meth PySem.F.plainAttrs_str PySem.F.slot_str_split PySem.F.type_str_split m_split (mv 0) (@pa_str _ _ _ _ _ _ pa_nil)))) (@pss_cons _ _ _ _ _ (ps_if (mt_cmp (m_neE hr.units0) (pe_comp rfl (pj_list (mv 1)) (clOk0 (N:=["_law_row"]) (by decide +kernel) (by decide +kernel)) (by decide +kernel) rfl (by decide +kernel) (fun C s₀ H₀ ex => (pg_name (i:=0) (show List.Nodup (["_law_row"]:List Str) by decide +kernel) rfl (Or.inl rfl))) (fun C s₀ H₀ ex => (pf_one (mt_cmp m_lt (pe_callB m_len rfl G.b_len bt_len (pa_cons (mv 0) pa_nil)) pe_int (nomark _)))) (fun C s₀ H₀ ex => (mv 0))) (pe_lst pa_nil) (nomark _)) (@pss_one _ _ _ (ps_ret (pe_lst (@pa_str _ _ _ _ _ _ pa_nil)))) pss_nil) (@pss_cons _ _ _ _ _ (pj_for PassesOwn.never rfl (pj_range1 rfl G.b_range (pa_cons (pe_callB m_len rfl G.b_len bt_len (pa_cons (mv 1) pa_nil)) pa_nil)) (pg_name (i:=2) sc_l_due.nd rfl (Or.inl rfl)) (@pss_cons _ _ _ _ _ (@ps_set _ _ 3 _ _ _ _ sc_l_due.nd (by rfl) (by exact (Or.inl rfl)) (pe_slice m_sl (pe_ix m_ix (mv 1) (mv 2) (fun _ _ => rfl)) (mo_some pe_int) po_none) (by rfl) (by first | exact Or.inl rfl | exact Or.inr rfl)) (@pss_cons _ _ _ _ _ (@ps_set _ _ 4 _ _ _ _ sc_l_due.nd (by rfl) (by exact (Or.inl rfl)) (me_or (pe_cmpR m_gt (mv 2) pe_int (nomark _)) (me_or (pe_cmpR m_gt (pe_callB m_len rfl G.b_len bt_len (pa_cons (mv 3) pa_nil)) pe_int (nomark _)) (pe_one (me_not (pe_cal c_l_made_of hr (by decide) rfl (pa_cons (pe_ix m_ix (pe_ix m_ix (mv 1) (mv 2) (fun _ _ => rfl)) pe_int (fun _ _ => rfl)) (@pa_str _ _ _ _ _ _ (pa_cons pe_int pa_nil)))))))) (by rfl) (by first | exact Or.inl rfl | exact Or.inr rfl)) (@pss_cons _ _ _ _ _ (pj_for PassesOwn.never rfl (pj_list (mv 3)) (pg_name (i:=5) sc_l_due.nd rfl (Or.inl rfl)) (@pss_one _ _ _ (@ps_set _ _ 4 _ _ _ _ sc_l_due.nd (by rfl) (by exact (Or.inl rfl)) (me_or (mv 4) (pe_one (me_not (pe_cal c_l_made_of hr (by decide) rfl (pa_cons (mv 5) (@pa_str _ _ _ _ _ _ (pa_cons pe_int pa_nil))))))) (by rfl) (by first | exact Or.inl rfl | exact Or.inr rfl)))) (@pss_cons _ _ _ _ _ (pj_for PassesOwn.never rfl (pj_list (pe_slice m_sl (mv 1) po_none (mo_some (mv 2)))) (pg_name (i:=6) sc_l_due.nd rfl (Or.inl rfl)) (@pss_one _ _ _ (@ps_set _ _ 4 _ _ _ _ sc_l_due.nd (by rfl) (by exact (Or.inl rfl)) (me_or (mv 4) (me_or (pe_cmpR m_eq (pe_ix m_ix (mv 6) pe_int (fun _ _ => rfl)) (pe_ix m_ix (pe_ix m_ix (mv 1) (mv 2) (fun _ _ => rfl)) pe_int (fun _ _ => rfl)) (nomark _)) (pe_one (pe_cmpR (m_eqL hr.units0) (pe_slice m_sl (mv 6) (mo_some pe_int) po_none) (mv 3) (nomark _))))) (by rfl) (by first | exact Or.inl rfl | exact Or.inr rfl)))) (@pss_one _ _ _ (ps_if (mt_truth (mv 4)) (@pss_one _ _ _ (ps_ret (pe_lst (@pa_str _ _ _ _ _ _ (pa_cons (mv 2) pa_nil))))) pss_nil))))))) (@pss_one _ _ _ (ps_ret (pe_op m_add (pe_lst (@pa_str _ _ _ _ _ _ pa_nil)) (pe_comp rfl (pj_list (mv 1)) (clOk0 (N:=["_law_row"]) (by decide +kernel) (by decide +kernel)) (by decide +kernel) rfl (by decide +kernel) (fun C s₀ H₀ ex => (pg_name (i:=0) (show List.Nodup (["_law_row"]:List Str) by decide +kernel) rfl (Or.inl rfl))) (fun C s₀ H₀ ex => pf_nil) (fun C s₀ H₀ ex => (pe_tup (pa_cons (pe_ix m_ix (mv 0) pe_int (fun _ _ => rfl)) (pa_cons (me_meth PySem.F.plainAttrs_str PySem.F.slot_str_join PySem.F.type_str_join m_join pe_str (pa_cons (pe_slice m_sl (mv 0) (mo_some pe_int) po_none) pa_nil)) pa_nil))))))))))),?_⟩
  have hcn:=rows_cnt z
  walk_at "go"
  refine s_splitB (by decide) (by omega) fun l hl => ?_
  have s1:=same_upd hl (.lst ((rowsZ z).map V.str))
  have e1:rdL (upd H l (.lst ((rowsZ z).map V.str))) l = some ((rowsZ z).map V.str):=rdL_same
  generalize upd H l (.lst ((rowsZ z).map V.str)) = H1 at s1 e1 ⊢
  have hrl:((rowsZ z).map V.str).length = (rowsZ z).length:=List.length_map ..
  walk_at "go"
  refine cw_lsts (fun j => (parts ((rowsZ z).getD j Str.empty)).map V.str) e1 (by rw [hrl]; exact lt_line (by omega)) (fun i x Hc A B hx sm hA => ?_) (fun D Hd ps hD sD hd hpl ls nd => ?_)
  · obtain ⟨y,hy,rfl⟩:=of_map_str hx
    have hyl:=rows_len (List.mem_of_getElem? hy)
    walk_at "go"
    refine ⟨Wk.set rfl (Wk.refl _),?_⟩
    walk_at "go"
    refine s_splitB (by decide) (by omega) fun p hp => ?_
    refine hA p _ hp (same_upd hp _) ?_
    rw [upd_same,List.getD_eq_getElem?_getD,hy]
    rfl
  · rw [hrl] at hpl ls
    rw [range_mapD (fun r => (parts r).map V.str) Str.empty (rowsZ z)] at ls
    have lat:∀ (j:Nat) p r,ps[j]? = some p → (rowsZ z)[j]? = some r → Hd p = some (.lst ((parts r).map V.str)):=fun j p r hp hr => (ls.2 j p _ hp (by rw [List.getElem?_map,hr]; rfl)).2
    have hpm:(ps.map V.ref).length = (rowsZ z).length:=by rw [List.length_map,hpl]
    have rD:=rdL_of hd
    walk_at "go"
    refine cw_listX (xs:=ps.map V.ref) (shortF ps (rowsZ z)) rD (by rw [hpm]; exact lt_line (by omega)) (fun j x Hc A B hx sc hA hB => ?_) (fun D2 Hd2 hD2 sD2 hd2 => ?_)
    · have hx0:=hx
      rw [List.getElem?_map] at hx
      cases e:ps[j]? with
      | none => rw [e] at hx; cases hx
      | some p =>
        rw [e] at hx
        cases hx
        have hj:j < (rowsZ z).length:=by rw [← hpl]; exact (List.getElem?_eq_some_iff.mp e).1
        have er:(rowsZ z)[j]? = some (rowsZ z)[j]:=List.getElem?_eq_getElem hj
        have ht:=rdL_of (sc _ _ (lat j p _ e er))
        have hpl2:=parts_many (rowsZ z)[j]
        have hyl:=rows_len (List.getElem_mem hj)
        unfold shortF at hA hB
        rw [er] at hA hB
        dsimp only at hA hB
        rw [hx0] at hA
        walk_at "go"
        refine ⟨Wk.set rfl (Wk.refl _),?_⟩
        walk_at "go"
        rw [List.length_map]
        by_cases hc:(parts (rowsZ z)[j]).length < 2
        · rw [if_pos hc] at hA
          rw [decide_eq_true (show (((parts (rowsZ z)[j]).length:Nat):Int) < 2 by omega)]
          exact hA _ rfl _ (Same.refl _)
        · rw [if_neg hc] at hB
          rw [decide_eq_false (show ¬ (((parts (rowsZ z)[j]).length:Nat):Int) < 2 by omega)]
          exact hB rfl _ (Same.refl _)
    · rw [hpm] at hd2
      have s2:=s1.trans (sD.trans sD2)
      have rD2:=rdL_keep sD2 rD
      have lat2:∀ (j:Nat) p r,ps[j]? = some p → (rowsZ z)[j]? = some r → Hd2 p = some (.lst ((parts r).map V.str)):=fun j p r hp hr => sD2 _ _ (lat j p r hp hr)
      have r2:=rdL_of hd2
      walk_at "go"
      refine ⟨by decide,fun pe hpe => ?_⟩
      refine s_neE (rdL_keep (same_upd hpe _) r2) rdL_same ?_
      rw [short_none hpl]
      have s3:=same_upd hpe (.lst [])
      generalize upd Hd2 pe (.lst []) = H3 at s3 ⊢
      have rD3:=rdL_keep s3 rD2
      have lat3:∀ (j:Nat) p r,ps[j]? = some p → (rowsZ z)[j]? = some r → H3 p = some (.lst ((parts r).map V.str)):=fun j p r hp hr => s3 _ _ (lat2 j p r hp hr)
      have s03:=s2.trans s3
      clear lat2 rD2 r2 hd2 s3 hpe lat rD hd
      walk_at "go"
      cases ha:allTwo z with
      | false =>
        walk_at "go"
        refine ⟨by decide,fun r hr => ?_⟩
        exact q r _ (none_of s03 hr) (s03.trans (same_upd hr _)) (.inl ⟨ha,upd_same⟩)
      | true =>
        walk_at "go"
        rw [hpm]
        refine ⟨⟨by omega,by omega⟩,?_⟩
        refine fj_range (fun i σ H' => ∃ v2 v3 v4 v5 v6:Option V,σ = [some (.str z),some (.ref D),v2,v3,v4,v5,v6] ∧ Same H3 H' ∧ ∀ j,j < i → followB (bkZ z) j = true) ⟨_,_,_,_,_,rfl,Same.refl _,fun j hj => absurd hj (Nat.not_lt_zero _)⟩ ?_ ?_
        · rintro i σ H4 hi ⟨v2,v3,v4,v5,v6,rfl,s4,hok⟩
          have hi':i < (rowsZ z).length:=by omega
          have er:(rowsZ z)[i]? = some (rowsZ z)[i]:=List.getElem?_eq_getElem hi'
          have ep:ps[i]? = some (ps[i]'(by omega)):=List.getElem?_eq_getElem (by omega)
          have fb:=follow_bad ha er
          have hrt:=List.all_eq_true.mp ha _ (List.getElem_mem hi')
          have hrl2:=rows_len (List.getElem_mem hi')
          generalize (rowsZ z)[i] = r at er fb hrt hrl2
          have lp:=s4 _ _ (lat3 i _ r ep er)
          generalize ps[i]'(by omega) = p at ep lp
          obtain ⟨p0,q0,t0,e1,e2,e3⟩:=two_of hrt
          have rp:=rdL_of lp
          have rD4:=rdL_keep s4 rD3
          have aD:atI (ps.map V.ref) (i:Int) = some (.ref p):=atI_nat (by rw [List.getElem?_map,ep]; rfl)
          have hpm2:=parts_many r
          rw [Int.zero_add]
          walk_at "go"
          refine s_ixL rD4 aD ?_
          walk_at "go"
          intro r3 hr3
          rw [cutV_drop (by decide),← List.map_drop]
          change gName _ _ _ (upd H4 r3 (.lst ((tlZ r).map V.str))) _
          have s5:=same_upd hr3 (.lst ((tlZ r).map V.str))
          have e5:rdL (upd H4 r3 (.lst ((tlZ r).map V.str))) r3 = some ((tlZ r).map V.str):=rdL_same
          generalize upd H4 r3 (.lst ((tlZ r).map V.str)) = H5 at s5 e5 ⊢
          have htl:((tlZ r).map V.str).length = (tlZ r).length:=List.length_map ..
          have rp5:=rdL_keep s5 rp
          have rD5:=rdL_keep s5 rD4
          have hh:=hd_at hrt
          walk_at "gs"
          with_reducible refine s_seqJ (fun σ' H' => ∃ w5 w6:Option V,σ' = [some (.str z),some (.ref D),some (.int (i:Int)),some (.ref r3),some (.bl (bad0 i r)),w5,w6] ∧ Same H5 H') ?_ ?_
          · rintro σ6 H6 ⟨w5,w6,rfl,s6⟩
            have e6:=rdL_keep s6 e5
            walk_at "go"
            refine fj_list (xs:=(tlZ r).map V.str) (fun j σ H' => ∃ w5:Option V,σ = [some (.str z),some (.ref D),some (.int (i:Int)),some (.ref r3),some (.bl (bad1 i r j)),w5,w6] ∧ Same H6 H') ⟨_,by rw [bad1_zero],Same.refl _⟩ (fun j σ H' _ ⟨_,_,e⟩ => rdL_keep e e6) ?_ ?_
            · rintro j x σ H7 hx ⟨u5,rfl,s7⟩
              obtain ⟨t,ht,rfl⟩:=of_map_str hx
              have bs:=bad1_succ (i:=i) ht
              have htl2:t.length ≤ r.length:=parts_len (List.mem_of_mem_drop (List.mem_of_getElem? ht))
              walk_at "go"
              cases hb:bad1 i r j with
              | true =>
                rw [hb,Bool.true_or] at bs
                walk_at "go"
                exact ⟨_,by rw [bs]; rfl,s7⟩
              | false =>
                rw [hb,Bool.false_or] at bs
                walk_at "go"
                refine ⟨t,_,10,rfl,by omega,fun H8 s8 => ?_⟩
                walk_at "go"
                exact ⟨_,by rw [bs]; rfl,s7.trans s8⟩
            · rintro σ H7 ⟨u5,rfl,s7⟩
              rw [htl]
              have rD7:=rdL_keep (s6.trans s7) rD5
              have rp7:=rdL_keep (s6.trans s7) rp5
              have e7:=rdL_keep s7 e6
              walk_at "go"
              intro r8 hr8
              rw [cut_take (by omega),show ((i:Nat):Int).toNat = i from rfl,← List.map_take]
              have s8:=same_upd hr8 (.lst ((ps.take i).map V.ref))
              have r88:rdL (upd H7 r8 (.lst ((ps.take i).map V.ref))) r8 = some ((ps.take i).map V.ref):=rdL_same
              generalize upd H7 r8 (.lst ((ps.take i).map V.ref)) = H8 at s8 r88 ⊢
              have rD8:=rdL_keep s8 rD7
              have rp8:=rdL_keep s8 rp7
              have e8:=rdL_keep s8 e7
              have hpi:((ps.take i).map V.ref).length = i:=by rw [List.length_map,List.length_take]; omega
              have s38:=s4.trans (s5.trans (s6.trans (s7.trans s8)))
              clear s6 s7 s8 e7 rp7 rD7 e6
              walk_at "go"
              refine fj_list (xs:=(ps.take i).map V.ref) (fun j σ H' => ∃ w6:Option V,σ = [some (.str z),some (.ref D),some (.int (i:Int)),some (.ref r3),some (.bl (bad3 i r (rowsZ z) j)),u5,w6] ∧ Same H8 H') ⟨_,by rw [bad3_zero],Same.refl _⟩ (fun j σ H' _ ⟨_,_,e⟩ => rdL_keep e r88) ?_ ?_
              · rintro j x σ H9 hx ⟨u6,rfl,s9⟩
                rw [List.getElem?_map] at hx
                cases e:(ps.take i)[j]? with
                | none => rw [e] at hx; cases hx
                | some p9 =>
                  rw [e] at hx
                  cases hx
                  have hji:j < i:=by
                    have:=(List.getElem?_eq_some_iff.mp e).1
                    rw [List.length_take] at this
                    omega
                  rw [List.getElem?_take_of_lt hji] at e
                  have ej:(rowsZ z)[j]? = some (rowsZ z)[j]:=List.getElem?_eq_getElem (by omega)
                  have bs:=bad3_succ (i:=i) (r:=r) ej
                  have l9:=rdL_of (s9 _ _ (s38 _ _ (lat3 j p9 _ e ej)))
                  have h9:=hd_at (List.all_eq_true.mp ha _ (List.mem_of_getElem? ej))
                  generalize (rowsZ z)[j] = r' at ej bs l9 h9
                  have rD9:=rdL_keep s9 rD8
                  have rp9:=rdL_keep s9 rp8
                  have e9:=rdL_keep s9 e8
                  walk_at "go"
                  cases hb:bad3 i r (rowsZ z) j with
                  | true =>
                    rw [hb,Bool.true_or] at bs
                    walk_at "go"
                    exact ⟨_,by rw [bs]; rfl,s9⟩
                  | false =>
                    rw [hb,Bool.false_or] at bs
                    unfold sameB at bs
                    walk_at "go"
                    refine s_ixL l9 h9 ?_
                    walk_at "go"
                    refine s_ixL rD9 aD ?_
                    walk_at "go"
                    refine s_ixL rp9 hh ?_
                    walk_at "go"
                    by_cases hc:hdZ r' = hdZ r
                    · rw [decide_eq_true hc,Bool.true_or] at bs
                      rw [decide_eq_true hc]
                      walk_at "go"
                      exact ⟨_,by rw [bs]; rfl,s9⟩
                    · rw [decide_eq_false hc,Bool.false_or] at bs
                      rw [decide_eq_false hc]
                      walk_at "go"
                      intro r10 hr10
                      rw [cutV_drop (by decide),← List.map_drop]
                      walk_at "go"
                      refine s_eqL rdL_same (rdL_keep (same_upd hr10 _) e9) (allFlat_str _) (allFlat_str _) ?_
                      rw [if_neg Bool.false_ne_true,eqVs_strs]
                      walk_at "go"
                      exact ⟨_,by rw [bs]; rfl,s9.trans (same_upd hr10 _)⟩
              · rintro σ H9 ⟨u6,rfl,s9⟩
                rw [hpi]
                walk_at "go"
                have fb2:followB (bkZ z) i = !bad3 i r (rowsZ z) i:=fb
                cases hb:bad3 i r (rowsZ z) i with
                | true =>
                  rw [hb] at fb2
                  walk_at "go"
                  refine ⟨by show 2 ≤ sizeLine; decide,fun rr hrr => ?_⟩
                  have s0:=s03.trans (s38.trans s9)
                  exact q rr _ (none_of s0 hrr) (s0.trans (same_upd hrr _)) (.inr (.inl ⟨ha,i,⟨by unfold bkZ; rw [List.length_map]; exact hi',fb2,hok⟩,upd_same⟩))
                | false =>
                  rw [hb] at fb2
                  walk_at "go"
                  refine ⟨_,_,_,_,_,rfl,s38.trans s9,fun j hj => ?_⟩
                  by_cases ej:j = i
                  · rw [ej]; exact fb2
                  · exact hok j (by omega)
          · intro N hN
            walk_at "go"
            refine ite2 (fun hc => ?_) (fun hc => ?_)
            · have hc':=of_decide_eq_true hc
              have eb:bad0 i r = true:=by unfold bad0; rw [decide_eq_true (show 59 < i by omega),Bool.true_or]
              walk_at "go"
              exact hN _ _ ⟨_,_,by rw [eb]; rfl,Same.refl _⟩
            · have hc':=of_decide_eq_false (Bool.eq_false_iff.mpr hc)
              have eb:bad0 i r = (decide (5 < (tlZ r).length) || !madeB (hdZ r) lettersT 6):=by unfold bad0; rw [decide_eq_false (show ¬ 59 < i by omega),Bool.false_or]
              walk_at "go"
              rw [htl]
              refine ite2 (fun hd => ?_) (fun hd => ?_)
              · have hd':=of_decide_eq_true hd
                rw [decide_eq_true (show 5 < (tlZ r).length by omega),Bool.true_or] at eb
                walk_at "go"
                exact hN _ _ ⟨_,_,by rw [eb]; rfl,Same.refl _⟩
              · have hd':=of_decide_eq_false (Bool.eq_false_iff.mpr hd)
                rw [decide_eq_false (show ¬ 5 < (tlZ r).length by omega),Bool.false_or] at eb
                walk_at "go"
                refine s_ixL rD5 aD ?_
                walk_at "go"
                refine s_ixL rp5 hh ?_
                walk_at "go"
                refine ⟨hdZ r,_,6,rfl,by rw [← (pair_hd hrt).1]; have:=(pair_len r).1; omega,fun H8 s8 => ?_⟩
                walk_at "go"
                exact hN _ _ ⟨_,_,by rw [eb]; rfl,s8⟩
        · rintro σ H4 ⟨v2,v3,v4,v5,v6,rfl,s4,hok⟩
          walk_at "go"
          refine ⟨by decide,fun pg hpg => ?_⟩
          have s5:=same_upd hpg (.lst [V.str (Str.ofString "good")])
          have e5:mutL (upd H4 pg (.lst [V.str (Str.ofString "good")])) pg = some [V.str (Str.ofString "good")]:=mutL_same
          have e5':(upd H4 pg (.lst [V.str (Str.ofString "good")])) pg = some (.lst [V.str (Str.ofString "good")]):=upd_same
          generalize upd H4 pg (.lst [V.str (Str.ofString "good")]) = H5 at s5 e5 e5' ⊢
          have rD5:=rdL_keep (s4.trans s5) rD3
          walk_at "go"
          refine cw_listT (fun j => [.str (pairZ ((rowsZ z).getD j Str.empty)).1,.str (pairZ ((rowsZ z).getD j Str.empty)).2]) rD5 (by rw [hpm]; exact lt_line (by omega)) (fun j x Hc A B hx sc hA => ?_) (fun D6 H6 qs hD6 s6 hd6 hql tq => ?_)
          · rw [List.getElem?_map] at hx
            cases e:ps[j]? with
            | none => rw [e] at hx; cases hx
            | some p =>
              rw [e] at hx
              cases hx
              have hj:j < (rowsZ z).length:=by rw [← hpl]; exact (List.getElem?_eq_some_iff.mp e).1
              have er:(rowsZ z)[j]? = some (rowsZ z)[j]:=List.getElem?_eq_getElem hj
              have lr:=rdL_of (sc _ _ ((s4.trans s5) _ _ (lat3 j p _ e er)))
              have hrt:=List.all_eq_true.mp ha _ (List.getElem_mem hj)
              have hh:=hd_at hrt
              have hrl2:=rows_len (List.getElem_mem hj)
              have ts:=tl_sum (r:=(rowsZ z)[j])
              walk_at "go"
              refine ⟨Wk.set rfl (Wk.refl _),?_⟩
              walk_at "go"
              refine s_ixL lr hh ?_
              walk_at "go"
              intro r7 hr7
              rw [cutV_drop (by decide),← List.map_drop]
              walk_at "go"
              refine s_join (ss:=tlZ (rowsZ z)[j]) rdL_same (by rw [show (Str.ofString " ").length = 1 from rfl]; omega) ?_
              have s7:=same_upd hr7 (.lst (((parts (rowsZ z)[j]).drop (1:Int).toNat).map V.str))
              generalize upd Hc r7 (.lst (((parts (rowsZ z)[j]).drop (1:Int).toNat).map V.str)) = H7 at s7 ⊢
              walk_at "go"
              refine ⟨by show 2 ≤ sizeLine; decide,fun pp hpp => ?_⟩
              refine hA pp _ (none_of s7 hpp) (s7.trans (same_upd hpp _)) ?_
              rw [upd_same,List.getD_eq_getElem?_getD,er]
              show some (HO.tup [V.str (hdZ (rowsZ z)[j]),V.str (Txt.join (Str.ofString " ") (tlZ (rowsZ z)[j]))]) = some (HO.tup [V.str (pairZ (rowsZ z)[j]).1,V.str (pairZ (rowsZ z)[j]).2])
              rw [(pair_hd hrt).1,(pair_hd hrt).2]
          · rw [hpm] at hql tq
            rw [range_mapD (fun r => [V.str (pairZ r).1,V.str (pairZ r).2]) Str.empty (rowsZ z)] at tq
            refine s_addL (mutL_of (s6 _ _ e5')) (mutL_of hd6) (len_line (by rw [List.length_map,hql]; show 1 + _ ≤ _; omega)) fun r7 hr7 => ?_
            have s0:=s03.trans (s4.trans (s5.trans s6))
            have k7:=same_upd hr7 (.lst ([V.str (Str.ofString "good")] ++ qs.map V.ref))
            refine q r7 _ (none_of s0 hr7) (s0.trans k7) (.inr (.inr ⟨ha,fun j hj => hok j (by unfold bkZ at hj; rw [List.length_map] at hj; omega),qs,upd_same,by unfold bkZ; rw [hql,List.length_map],fun j p b hp hb => k7 _ _ ?_⟩))
            unfold bkZ at hb
            rw [List.getElem?_map] at hb
            cases e:(rowsZ z)[j]? with
            | none => rw [e] at hb; cases hb
            | some r =>
              rw [e] at hb
              cases hb
              exact (tq.2 j p _ hp (by rw [List.getElem?_map,e]; rfl)).2
theorem at_any {z:Str} {i:Int} (h0:0 ≤ i) (h:i < z.length):∃ c,atI z.cps.toList i = some c:=by
  have hl:i.toNat < z.cps.toList.length:=by rw [len_toList]; omega
  refine ⟨z.cps.toList[i.toNat],?_⟩
  have e:=atI_nat (xs:=z.cps.toList) (j:=i.toNat) (List.getElem?_eq_getElem hl)
  rwa [show ((i.toNat:Nat):Int) = i by omega] at e
def sp_l_sign:Sp:=fun vs H Q _ => ∃ (c:Int) (m:Str),vs = [.int c,.str m] ∧ 0 ≤ c ∧ 1 ≤ m.length ∧ m.length ≤ 100 ∧ ∀ d:Nat,Q (.str (one d)) H
theorem sc_l_sign:FnScope ["_law_cell", "_law_menu", "_law_some"] ["_law_cell", "_law_menu"] (defScope s_l_sign):=⟨rfl,rfl,rfl,by decide +kernel,rfl,by decide +kernel,by decide +kernel⟩
theorem ok_l_sign {aNoBook aNoText aTowerError aNoHoist aShort aLack aNoCut aNoWord aNoHalyard aNoFlag aNoDeed aNoRow:Addr} {f:Addr} {fd:FuncData} (F:Fun K "_law_sign" "_law_sign" s_l_sign f fd) (G:Gs K mg aNoBook aNoText aTowerError aNoHoist aShort aLack aNoCut aNoWord aNoHalyard aNoFlag aNoDeed aNoRow)  : FnOk P w K mg base CX0 1 f fd ["_law_cell", "_law_menu"] sp_l_sign:=by
  refine F.ok sc_l_sign (fun vs H Q E h => ?_) (fun cdv A outer s H vs Q E hr h => ?_)
  · obtain ⟨c,m,rfl,_⟩:=h; rfl
  obtain ⟨c,m,rfl,h0,hm1,hm2,q⟩:=h
  refine ⟨_,(@pss_cons _ _ _ _ _ (@ps_set _ _ 2 _ _ _ _ sc_l_sign.nd (by rfl) (by exact (Or.inl rfl)) pe_str (by rfl) (by first | exact Or.inl rfl | exact Or.inr rfl)) (@pss_cons _ _ _ _ _ (@ps_set _ _ 2 _ _ _ _ sc_l_sign.nd (by rfl) (by exact (Or.inl rfl)) (pe_op m_add (mv 2) pe_str) (by rfl) (by first | exact Or.inl rfl | exact Or.inr rfl)) (@pss_cons _ _ _ _ _ (ps_if (mt_cmp m_eq (pe_op m_mod (mv 0) pe_int) pe_int (nomark _)) (@pss_one _ _ _ (ps_ret (pe_ix m_ix (mv 1) (pe_op m_mod (pe_op m_fdiv (mv 0) pe_int) (pe_callB m_len rfl G.b_len bt_len (pa_cons (mv 1) pa_nil))) (fun _ _ => rfl)))) pss_nil) (@pss_one _ _ _ (ps_ret (pe_ix m_ix (mv 2) (pe_op m_mod (pe_op m_fdiv (mv 0) pe_int) pe_int) (fun _ _ => rfl))))))),?_⟩
  have hd:=Int.ediv_nonneg h0 (show (0:Int) ≤ 2 by decide)
  walk_at "go"
  refine ite2 (fun hc => ?_) (fun hc => ?_)
  · walk_at "go"
    have y0:=Int.emod_nonneg (c / 2) (show ((m.length:Nat):Int) ≠ 0 by omega)
    have y1:=Int.emod_lt_of_pos (c / 2) (show (0:Int) < ((m.length:Nat):Int) by omega)
    obtain ⟨d,ed⟩:=at_any (z:=m) y0 y1
    refine s_ixS (len_line (by omega)) ed ?_
    walk_at "go"
    exact q d
  · walk_at "go"
    have y0:=Int.emod_nonneg (c / 2) (show (96:Int) ≠ 0 by decide)
    have y1:=Int.emod_lt_of_pos (c / 2) (show (0:Int) < 96 by decide)
    have hl:96 ≤ (Str.ofString " !\"#$&'()*+,-./0123456789:;<=>?@ABCDEFGHIJKLMNOPQRSTUVWXYZ[\\]^_`" ++ Str.ofString "abcdefghijklmnopqrstuvwxyz{|}~\n\t").length ∧ (Str.ofString " !\"#$&'()*+,-./0123456789:;<=>?@ABCDEFGHIJKLMNOPQRSTUVWXYZ[\\]^_`" ++ Str.ofString "abcdefghijklmnopqrstuvwxyz{|}~\n\t").length ≤ 200:=by decide +kernel
    generalize (Str.ofString " !\"#$&'()*+,-./0123456789:;<=>?@ABCDEFGHIJKLMNOPQRSTUVWXYZ[\\]^_`" ++ Str.ofString "abcdefghijklmnopqrstuvwxyz{|}~\n\t") = zz at hl ⊢
    obtain ⟨d,ed⟩:=at_any (z:=zz) y0 (by omega)
    refine s_ixS (len_line (by omega)) ed ?_
    walk_at "go"
    exact q d
def sp_l_spoiled:Sp:=fun vs H Q _ => ∃ (z y:Str) (n:Int),vs = [.str z,.int n,.str y] ∧ 0 ≤ n ∧ z.length ≤ 4500 ∧ y.length ≤ 1 ∧ ∀ u:Str,u.length ≤ 19000 → Q (.str u) H
theorem sc_l_spoiled:FnScope ["_law_text", "_law_number", "_law_sign_here", "_law_at"] ["_law_text", "_law_number", "_law_sign_here"] (defScope s_l_spoiled):=⟨rfl,rfl,rfl,by decide +kernel,rfl,by decide +kernel,by decide +kernel⟩
theorem ok_l_spoiled {aNoBook aNoText aTowerError aNoHoist aShort aLack aNoCut aNoWord aNoHalyard aNoFlag aNoDeed aNoRow:Addr} {f:Addr} {fd:FuncData} (F:Fun K "_law_spoiled" "_law_spoiled" s_l_spoiled f fd) (G:Gs K mg aNoBook aNoText aTowerError aNoHoist aShort aLack aNoCut aNoWord aNoHalyard aNoFlag aNoDeed aNoRow)  : FnOk P w K mg base CX0 1 f fd ["_law_text", "_law_number", "_law_sign_here"] sp_l_spoiled:=by
  refine F.ok sc_l_spoiled (fun vs H Q E h => ?_) (fun cdv A outer s H vs Q E hr h => ?_)
  · obtain ⟨z,y,n,rfl,_⟩:=h; rfl
  obtain ⟨z,y,n,rfl,h0,hz,hy,q⟩:=h
  refine ⟨_,(@pss_cons _ _ _ _ _ (@ps_set _ _ 3 _ _ _ _ sc_l_spoiled.nd (by rfl) (by exact (Or.inl rfl)) (pe_op m_mod (pe_op m_fdiv (mv 1) pe_int) (pe_op m_add (pe_callB m_len rfl G.b_len bt_len (pa_cons (mv 0) pa_nil)) pe_int)) (by rfl) (by first | exact Or.inl rfl | exact Or.inr rfl)) (@pss_cons _ _ _ _ _ (ps_if (mt_cmp m_eq (pe_op m_mod (mv 1) pe_int) pe_int (nomark _)) (@pss_one _ _ _ (ps_ret (pe_op m_add (pe_op m_add (pe_slice m_sl (mv 0) po_none (mo_some (mv 3))) (mv 2)) (pe_slice m_sl (mv 0) (mo_some (mv 3)) po_none)))) pss_nil) (@pss_cons _ _ _ _ _ (ps_if (mt_cmp m_eq (pe_op m_mod (mv 1) pe_int) pe_int (nomark _)) (@pss_one _ _ _ (ps_ret (pe_op m_add (pe_op m_add (pe_slice m_sl (mv 0) po_none (mo_some (mv 3))) (mv 2)) (pe_slice m_sl (mv 0) (mo_some (pe_op m_add (mv 3) pe_int)) po_none)))) pss_nil) (@pss_one _ _ _ (ps_ret (pe_op m_add (pe_slice m_sl (mv 0) po_none (mo_some (mv 3))) (pe_slice m_sl (mv 0) (mo_some (pe_op m_add (mv 3) pe_int)) po_none))))))),?_⟩
  have hd:=Int.ediv_nonneg h0 (show (0:Int) ≤ 3 by decide)
  have sl:∀ lo hi,(Txt.slice z lo hi).length ≤ z.length:=fun lo hi => Txt.slice_le z lo hi
  walk_at "go"
  generalize n / 3 % ((z.length:Int) + 1) = k
  have s1:=sl none (some k)
  have s2:=sl (some k) none
  have s3:=sl (some (k + 1)) none
  refine ite2 (fun hc => ?_) (fun hc => ?_)
  · walk_at "go"
    exact q _ (by rw [Str.length_append,Str.length_append]; omega)
  · walk_at "go"
    refine ite2 (fun hc => ?_) (fun hc => ?_)
    · walk_at "go"
      exact q _ (by rw [Str.length_append,Str.length_append]; omega)
    · walk_at "go"
      exact q _ (by rw [Str.length_append]; omega)
def ExAt (H:Hp) (ea D:Addr):Prop:=H ea = some (excO ea (.ref D) none) ∨ ∃ dx o,H ea = some (excO ea (.ref D) (some dx)) ∧ H dx = some o
theorem ExAt.keep {H H':Hp} {ea D:Addr} (h:ExAt H ea D) (s:Same H H'):ExAt H' ea D:=by
  rcases h with h | ⟨dx,o,h,g⟩
  · exact .inl (s _ _ h)
  · exact .inr ⟨dx,o,s _ _ h,s _ _ g⟩
theorem s_isz {H:Hp} {Q:VK} {ea D:Addr} {c:V} {cv:Value} {b:Bool} (e:ExAt H ea D) (Z:ExK K D) (h1:clsV c = some cv) (h2:PySem.W.kitOne K (.ref D) cv = some b) (h:Q (.bl b) H):mIsx K [.ref ea,c] H Q:=by
  rcases e with e | ⟨dx,o,e,g⟩
  · exact s_isx1 e Z h1 h2 h
  · exact s_isy1 e g Z h1 h2 h
def sp_l_others (aT aB:Addr):Sp:=fun vs H Q _ => ∃ ea:Addr,vs = [.ref ea] ∧ (ExAt H ea aT ∨ ExAt H ea aB) ∧ ∀ H',Same H H' → Q (.bl true) H'
theorem sc_l_others:FnScope ["_law_e", "_law_some"] ["_law_e"] (defScope s_l_others):=⟨rfl,rfl,rfl,by decide +kernel,rfl,by decide +kernel,by decide +kernel⟩
theorem ok_l_others {aNoBook aNoText aTowerError aNoHoist aShort aLack aNoCut aNoWord aNoHalyard aNoFlag aNoDeed aNoRow:Addr} {f:Addr} {fd:FuncData} (F:Fun K "_law_others" "_law_others" s_l_others f fd) (G:Gs K mg aNoBook aNoText aTowerError aNoHoist aShort aLack aNoCut aNoWord aNoHalyard aNoFlag aNoDeed aNoRow)  : FnOkM P w K mg base 1 f fd ["_law_e"] (sp_l_others aNoText aNoBook):=by
  refine F.okM sc_l_others (fun vs H Q E h => ?_) (fun cdv A ea0 outer s H vs Q hr h => ?_)
  · obtain ⟨ea,rfl,_⟩:=h; rfl
  obtain ⟨ea,rfl,he0,q⟩:=h
  refine ⟨_,(@pss_cons _ _ _ _ _ (@ps_set _ _ 1 _ _ _ _ sc_l_others.nd (by rfl) (by exact (Or.inl rfl)) (@pe_lst _ _ _ _ (pa_cons (pe_callB (m_isxK (K:=K) rfl) rfl G.b_isinstance bt_isinstance (pa_cons (mv 0) (pa_cons (pe_gcls rfl G.c_NoHoist) pa_nil))) (pa_cons (pe_callB (m_isxK (K:=K) rfl) rfl G.b_isinstance bt_isinstance (pa_cons (mv 0) (pa_cons (pe_gcls rfl G.c_Short) pa_nil))) (pa_cons (pe_callB (m_isxK (K:=K) rfl) rfl G.b_isinstance bt_isinstance (pa_cons (mv 0) (pa_cons (pe_gcls rfl G.c_Lack) pa_nil))) (pa_cons (pe_callB (m_isxK (K:=K) rfl) rfl G.b_isinstance bt_isinstance (pa_cons (mv 0) (pa_cons (pe_gcls rfl G.c_NoCut) pa_nil))) pa_nil))))) (by rfl) (by first | exact Or.inl rfl | exact Or.inr rfl)) (@pss_cons _ _ _ _ _ (@ps_set _ _ 1 _ _ _ _ sc_l_others.nd (by rfl) (by exact (Or.inl rfl)) (pe_op m_add (mv 1) (@pe_lst _ _ _ _ (pa_cons (pe_callB (m_isxK (K:=K) rfl) rfl G.b_isinstance bt_isinstance (pa_cons (mv 0) (pa_cons (pe_gcls rfl G.c_NoWord) pa_nil))) (pa_cons (pe_callB (m_isxK (K:=K) rfl) rfl G.b_isinstance bt_isinstance (pa_cons (mv 0) (pa_cons (pe_gcls rfl G.c_NoHalyard) pa_nil))) (pa_cons (pe_callB (m_isxK (K:=K) rfl) rfl G.b_isinstance bt_isinstance (pa_cons (mv 0) (pa_cons (pe_gcls rfl G.c_NoFlag) pa_nil))) (pa_cons (pe_callB (m_isxK (K:=K) rfl) rfl G.b_isinstance bt_isinstance (pa_cons (mv 0) (pa_cons (pe_gcls rfl G.c_NoDeed) pa_nil))) pa_nil)))))) (by rfl) (by first | exact Or.inl rfl | exact Or.inr rfl)) (@pss_one _ _ _ (ps_ret (me_and (pe_callB (m_isxK (K:=K) rfl) rfl G.b_isinstance bt_isinstance (pa_cons (mv 0) (pa_cons (pe_gcls rfl G.c_TowerError) pa_nil))) (me_and (pe_callB (m_isxK (K:=K) rfl) rfl G.b_isinstance bt_isinstance (pa_cons (mv 0) (pa_cons (pe_bty rfl G.b_ValueError bt_ValueError) pa_nil))) (pe_one (pe_cmpR m_notInL pe_bl (pe_op m_add (mv 1) (pe_lst (pa_cons (pe_callB (m_isxK (K:=K) rfl) rfl G.b_isinstance bt_isinstance (pa_cons (mv 0) (pa_cons (pe_gcls rfl G.c_NoRow) pa_nil))) pa_nil))) (by rfl))))))))),?_⟩
  obtain ⟨D,Z,f1,f2,f3,f4,f5,f6,f7,f8,f9,f10,f11,he⟩:∃ D,ExK K D ∧ PySem.W.kitOne K (.ref D) (.ref aNoHoist) = some false ∧ PySem.W.kitOne K (.ref D) (.ref aShort) = some false ∧ PySem.W.kitOne K (.ref D) (.ref aLack) = some false ∧ PySem.W.kitOne K (.ref D) (.ref aNoCut) = some false ∧
      PySem.W.kitOne K (.ref D) (.ref aNoWord) = some false ∧ PySem.W.kitOne K (.ref D) (.ref aNoHalyard) = some false ∧ PySem.W.kitOne K (.ref D) (.ref aNoFlag) = some false ∧ PySem.W.kitOne K (.ref D) (.ref aNoDeed) = some false ∧ PySem.W.kitOne K (.ref D) (.ref aNoRow) = some false ∧
      PySem.W.kitOne K (.ref D) (.ref aTowerError) = some true ∧ PySem.W.kitOne K (.ref D) (.type "ValueError") = some true ∧ ExAt H ea D:=by
    rcases he0 with he | he
    · exact ⟨aNoText,⟨G.e_1,G.e_2,G.e_3,G.e_4,G.e_5,G.e_6,G.e_7,G.e_8⟩,G.t_1,G.t_2,G.t_3,G.t_4,G.t_5,G.t_6,G.t_7,G.t_8,G.t_9,G.t_10,G.t_11,he⟩
    · exact ⟨aNoBook,G.xx_NoBook,G.i_1,G.i_2,G.i_3,G.i_4,G.i_5,G.i_6,G.i_7,G.i_8,G.i_9,G.i_10,G.i_11,he⟩
  walk_at "go"
  refine s_isz he Z rfl f1 ?_
  walk_at "go"
  refine s_isz he Z rfl f2 ?_
  walk_at "go"
  refine s_isz he Z rfl f3 ?_
  walk_at "go"
  refine s_isz he Z rfl f4 ?_
  walk_at "go"
  refine ⟨by show 4 ≤ sizeLine; decide,fun p1 h1 => ?_⟩
  have k1:=same_upd h1 (HO.lst [.bl false,.bl false,.bl false,.bl false])
  have l1:(upd H p1 (HO.lst [.bl false,.bl false,.bl false,.bl false])) p1 = some (HO.lst [.bl false,.bl false,.bl false,.bl false]):=upd_same
  generalize upd H p1 (HO.lst [.bl false,.bl false,.bl false,.bl false]) = H1 at k1 l1 ⊢
  have he1:=he.keep k1
  walk_at "go"
  refine s_isz he1 Z rfl f5 ?_
  walk_at "go"
  refine s_isz he1 Z rfl f6 ?_
  walk_at "go"
  refine s_isz he1 Z rfl f7 ?_
  walk_at "go"
  refine s_isz he1 Z rfl f8 ?_
  walk_at "go"
  refine ⟨by show 4 ≤ sizeLine; decide,fun p2 h2 => ?_⟩
  refine s_addL (mutL_of (same_upd h2 _ _ _ l1)) mutL_same (by show 8 ≤ sizeLine; decide) fun p3 h3 => ?_
  have k3:=(same_upd h2 (HO.lst [V.bl false,V.bl false,V.bl false,V.bl false])).trans (same_upd h3 (HO.lst ([V.bl false,V.bl false,V.bl false,V.bl false] ++ [V.bl false,V.bl false,V.bl false,V.bl false])))
  have l3:(upd (upd H1 p2 (HO.lst [V.bl false,V.bl false,V.bl false,V.bl false])) p3 (HO.lst ([V.bl false,V.bl false,V.bl false,V.bl false] ++ [V.bl false,V.bl false,V.bl false,V.bl false]))) p3 = some (HO.lst ([V.bl false,V.bl false,V.bl false,V.bl false] ++ [V.bl false,V.bl false,V.bl false,V.bl false])):=upd_same
  generalize upd (upd H1 p2 (HO.lst [V.bl false,V.bl false,V.bl false,V.bl false])) p3 (HO.lst ([V.bl false,V.bl false,V.bl false,V.bl false] ++ [V.bl false,V.bl false,V.bl false,V.bl false])) = H3 at k3 l3 ⊢
  have he3:=he1.keep k3
  walk_at "go"
  refine s_isz he3 Z rfl f10 ?_
  walk_at "go"
  refine s_isz he3 Z rfl f11 ?_
  walk_at "go"
  refine s_isz he3 Z rfl f9 ?_
  walk_at "go"
  refine ⟨by show 1 ≤ sizeLine; decide,fun p4 h4 => ?_⟩
  refine s_addL (mutL_of (same_upd h4 _ _ _ l3)) mutL_same (by show 9 ≤ sizeLine; decide) fun p5 h5 => ?_
  have k5:=(same_upd h4 (HO.lst [V.bl false])).trans (same_upd h5 (HO.lst (([V.bl false,V.bl false,V.bl false,V.bl false] ++ [V.bl false,V.bl false,V.bl false,V.bl false]) ++ [V.bl false])))
  refine s_inL rdL_same rfl rfl ?_
  exact q _ (k1.trans (k3.trans k5))
def sp_l_told:Sp:=fun vs H Q _ => ∃ z:Str,vs = [.str z] ∧ z.length ≤ 19000 ∧ ∀ (r:Addr) (H':Hp),H r = none → Same H H' → Tells H' r z → Q (.ref r) H'
theorem sc_l_told:FnScope ["_law_text", "_law_told_here", "_law_e"] ["_law_text"] (defScope s_l_told):=⟨rfl,rfl,rfl,by decide +kernel,rfl,by decide +kernel,by decide +kernel⟩
theorem ok_l_told {aNoBook aNoText aTowerError aNoHoist aShort aLack aNoCut aNoWord aNoHalyard aNoFlag aNoDeed aNoRow:Addr} {f:Addr} {fd:FuncData} (F:Fun K "_law_told" "_law_told" s_l_told f fd) (G:Gs K mg aNoBook aNoText aTowerError aNoHoist aShort aLack aNoCut aNoWord aNoHalyard aNoFlag aNoDeed aNoRow) (c_read_book:CalX P w K mg base 5 "read_book" ["text"] (sp_read_book aNoText aNoBook)) (c_l_others:CalM P w K mg base 1 "_law_others" ["_law_e"] (sp_l_others aNoText aNoBook)):FnOk P w K mg base CX0 6 f fd ["_law_text"] sp_l_told:=by
  refine F.ok sc_l_told (fun vs H Q E h => ?_) (fun cdv A outer s H vs Q E hr h => ?_)
  · obtain ⟨z,rfl,_⟩:=h; rfl
  obtain ⟨z,rfl,hz,q⟩:=h
  refine ⟨_,(@pss_cons _ _ _ _ _ (@ps_set _ _ 1 _ _ _ _ sc_l_told.nd (by rfl) (by exact (Or.inl rfl)) pe_non (by rfl) (by first | exact Or.inl rfl | exact Or.inr rfl)) (@pss_cons _ _ _ _ _ (ps_try2 (i1:=2) (i2:=2) rfl rfl rfl sc_l_told.nd rfl rfl rfl rfl rfl G.c_NoText rfl G.c_NoBook (fun pins R => (@pss_one _ _ _ (@ps_set _ _ 1 _ _ _ _ sc_l_told.nd (by rfl) (by exact (Or.inl rfl)) (pe_op m_add (pe_lst (@pa_str _ _ _ _ _ _ pa_nil)) (pe_calS c_read_book (passes_try rfl) hr (by decide) rfl (pa_cons (mv 0) pa_nil))) (by rfl) (by first | exact Or.inl rfl | exact Or.inr rfl)))) (fun pins ea => (@pss_one _ _ _ (ps_if (PW.pt (pw_and (mt_truth (pe_calM c_l_others hr (by decide) rfl (pa_cons (mv 2) pa_nil))) (pw_and1 (pt_not (mt_truth (pe_callB (m_isxK (K:=K) rfl) rfl G.b_isinstance bt_isinstance (pa_cons (mv 2) (pa_cons (pe_gcls rfl G.c_NoBook) pa_nil)))))))) (@pss_one _ _ _ (@ps_set _ _ 1 _ _ _ _ sc_l_told.nd (by rfl) (by exact (Or.inl rfl)) (pe_lst (@pa_str _ _ _ _ _ _ pa_nil)) (by rfl) (by first | exact Or.inl rfl | exact Or.inr rfl))) pss_nil))) (fun pins ea => (@pss_one _ _ _ (ps_if (PW.pt (pw_and (mt_truth (pe_calM c_l_others hr (by decide) rfl (pa_cons (mv 2) pa_nil))) (pw_and (pt_not (mt_truth (pe_callB (m_isxK (K:=K) rfl) rfl G.b_isinstance bt_isinstance (pa_cons (mv 2) (pa_cons (pe_gcls rfl G.c_NoText) pa_nil))))) (pw_and1 (pt_not (mt_truth (pe_callB m_isi rfl G.b_isinstance bt_isinstance (pa_cons (pe_xgetK (K:=K) rfl (mv 2) rfl) (pa_cons (pe_bty rfl G.b_bool bt_bool) pa_nil))))))))) (@pss_one _ _ _ (@ps_set _ _ 1 _ _ _ _ sc_l_told.nd (by rfl) (by exact (Or.inl rfl)) (pe_lst (@pa_str _ _ _ _ _ _ (pa_cons (pe_xgetK (K:=K) rfl (mv 2) rfl) pa_nil))) (by rfl) (by first | exact Or.inl rfl | exact Or.inr rfl))) pss_nil)))) (@pss_one _ _ _ (ps_ret (mv 1))))),?_⟩
  walk_at "go"
  refine ⟨by decide,fun pg hpg => ?_⟩
  have s1:=same_upd hpg (.lst [V.str (Str.ofString "good")])
  have e1:(upd H pg (.lst [V.str (Str.ofString "good")])) pg = some (.lst [V.str (Str.ofString "good")]):=upd_same
  generalize upd H pg (.lst [V.str (Str.ofString "good")]) = H1 at s1 e1 ⊢
  walk_at "go"
  refine ⟨z,rfl,hz,fun ha hok r H2 hr s2 hbk => ?_,fun ha H2 s2 => ?_,fun ha i hb dx H2 s2 hx => ?_⟩
  · obtain ⟨qs,b1,b2,b3⟩:=hbk
    refine s_addL (mutL_of (s2 _ _ e1)) (mutL_of b1) (len_line (by rw [List.length_map,b2]; unfold bkZ; rw [List.length_map]; show 1 + _ ≤ _; have:=rows_cnt z; omega)) fun r3 hr3 => ?_
    walk_at "go"
    exact q r3 _ (none_of (s1.trans s2) hr3) (s1.trans (s2.trans (same_upd hr3 _))) (.inr (.inr ⟨ha,hok,qs,upd_same,b2,fun j p b hp hb => same_upd hr3 _ _ _ (b3 j p b hp hb)⟩))
  · refine .inl ⟨G.m_NoText,fun ea hea => ?_⟩
    have k3:=same_upd hea (excO ea (.ref aNoText) none)
    have h3:(upd H2 ea (excO ea (.ref aNoText) none)) ea = some (excO ea (.ref aNoText) none):=upd_same
    generalize upd H2 ea (excO ea (.ref aNoText) none) = H3 at k3 h3 ⊢
    walk_at "go"
    refine ⟨ea,rfl,.inl (.inl h3),fun H4 s4 => ?_⟩
    walk_at "go"
    refine s_isx1 (s4 _ _ h3) ⟨G.e_1,G.e_2,G.e_3,G.e_4,G.e_5,G.e_6,G.e_7,G.e_8⟩ rfl G.t_12 ?_
    walk_at "go"
    refine ⟨by decide,fun p5 h5 => ?_⟩
    walk_at "go"
    have s04:=s1.trans (s2.trans (k3.trans s4))
    exact q p5 _ (none_of s04 h5) (s04.trans (same_upd h5 _)) (.inl ⟨ha,upd_same⟩)
  · refine .inr ⟨G.m_Other,G.m_NoBook,fun ea hea => ?_⟩
    have k3:=same_upd hea (excO ea (.ref aNoBook) (some dx))
    have h3:(upd H2 ea (excO ea (.ref aNoBook) (some dx))) ea = some (excO ea (.ref aNoBook) (some dx)):=upd_same
    have d3:=k3 _ _ hx
    generalize upd H2 ea (excO ea (.ref aNoBook) (some dx)) = H3 at k3 h3 d3 ⊢
    walk_at "go"
    refine ⟨ea,rfl,.inr (.inr ⟨dx,_,h3,d3⟩),fun H4 s4 => ?_⟩
    walk_at "go"
    refine s_isy1 (s4 _ _ h3) (s4 _ _ d3) G.xx_NoBook rfl G.i_12 ?_
    walk_at "go"
    refine ⟨ea,aNoBook,dx,_,_,rfl,.inl (s4 _ _ h3),s4 _ _ d3,G.xx_NoBook,G.xn_NoBook_at,rfl,?_⟩
    walk_at "go"
    refine ⟨ea,aNoBook,dx,_,_,rfl,.inl (s4 _ _ h3),s4 _ _ d3,G.xx_NoBook,G.xn_NoBook_at,rfl,?_⟩
    walk_at "go"
    refine ⟨by show 2 ≤ sizeLine; decide,fun p5 h5 => ?_⟩
    walk_at "go"
    have s04:=s1.trans (s2.trans (k3.trans s4))
    exact q p5 _ (none_of s04 h5) (s04.trans (same_upd h5 _)) (.inr (.inl ⟨ha,i,hb,upd_same⟩))
def szL (L:List Str):Nat:=(L.map (·.length)).sum + L.length
theorem sz_app (A B:List Str):szL (A ++ B) = szL A + szL B:=by
  unfold szL
  rw [List.map_append,List.sum_append,List.length_append]
  omega
theorem sz_take (L:List Str) (n:Nat):szL (L.take n) ≤ szL L:=by
  have:=sz_app (L.take n) (L.drop n)
  rw [List.take_append_drop] at this
  omega
theorem sz_drop (L:List Str) (n:Nat):szL (L.drop n) ≤ szL L:=by
  have:=sz_app (L.take n) (L.drop n)
  rw [List.take_append_drop] at this
  omega
theorem cut_strs (L:List Str) (lo hi:Option Int):∃ M:List Str,cutV (L.map V.str) lo hi = M.map V.str ∧ szL M ≤ szL L:=by
  unfold cutV
  rw [← List.map_drop,← List.map_take]
  exact ⟨_,rfl,Nat.le_trans (sz_take _ _) (sz_drop _ _)⟩
theorem join_sz (c:Nat) (L:List Str):(Txt.join ⟨#[c]⟩ L).length ≤ szL L:=by
  cases L with
  | nil => exact Nat.zero_le _
  | cons a b =>
    have:=rows_sum c (a :: b) (fun z => nomatch z)
    unfold szL
    omega
theorem rows_sz (z:Str):szL (rowsZ z) = z.length + 1:=split_sum z
theorem sz_len (L:List Str):(L.map V.str).length ≤ szL L:=by
  unfold szL
  rw [List.length_map]
  omega
theorem get_row {z:Str} {k:Int} (h0:0 ≤ k) (h1:k < (((rowsZ z).length:Nat):Int)):∃ y,y ∈ rowsZ z ∧ atI ((rowsZ z).map V.str) k = some (.str y):=by
  have hl:k.toNat < (rowsZ z).length:=by omega
  refine ⟨(rowsZ z)[k.toNat],List.getElem_mem hl,?_⟩
  have e:=atI_nat (xs:=(rowsZ z).map V.str) (j:=k.toNat) (v:=.str (rowsZ z)[k.toNat]) (by rw [List.getElem?_map,List.getElem?_eq_getElem hl]; rfl)
  rwa [show ((k.toNat:Nat):Int) = k by omega] at e
theorem get_word (y:Str):∃ w,w ∈ parts y ∧ atI ((parts y).map V.str) 0 = some (.str w):=by
  cases e:parts y with
  | nil => exact absurd e (split_ne y ⟨#[32]⟩)
  | cons a b => exact ⟨a,List.mem_cons_self,atI_nat (j:=0) (xs:=(a :: b).map V.str) rfl⟩
def oddR:List Str:=[Str.ofString "wvu only here",Str.ofString "A b",Str.ofString "a",Str.ofString " c"]
theorem get_odd {i:Int} (h0:0 ≤ i) (h:i < 4):∃ w:Str,w.length ≤ 13 ∧ atI (oddR.map V.str) i = some (.str w):=by
  have hl:i.toNat < oddR.length:=by show _ < 4; omega
  refine ⟨oddR[i.toNat],?_,?_⟩
  · have q:∀ x ∈ oddR,x.length ≤ 13:=by decide +kernel
    exact q _ (List.getElem_mem hl)
  · have e:=atI_nat (xs:=oddR.map V.str) (j:=i.toNat) (v:=.str oddR[i.toNat]) (by rw [List.getElem?_map,List.getElem?_eq_getElem hl]; rfl)
    rwa [show ((i.toNat:Nat):Int) = i by omega] at e
def sp_l_rows_spoiled:Sp:=fun vs H Q _ => ∃ (z:Str) (n:Int),vs = [.str z,.int n] ∧ 0 ≤ n ∧ z.length ≤ 4500 ∧ ∀ (u:Str) (H':Hp),u.length ≤ 19000 → Same H H' → Q (.str u) H'
theorem sc_l_rows_spoiled:FnScope ["_law_text", "_law_number", "_law_rows", "_law_at", "_law_turned", "_law_word_here", "_law_some"] ["_law_text", "_law_number"] (defScope s_l_rows_spoiled):=⟨rfl,rfl,rfl,by decide +kernel,rfl,by decide +kernel,by decide +kernel⟩
theorem ok_l_rows_spoiled {aNoBook aNoText aTowerError aNoHoist aShort aLack aNoCut aNoWord aNoHalyard aNoFlag aNoDeed aNoRow:Addr} {f:Addr} {fd:FuncData} (F:Fun K "_law_rows_spoiled" "_law_rows_spoiled" s_l_rows_spoiled f fd) (G:Gs K mg aNoBook aNoText aTowerError aNoHoist aShort aLack aNoCut aNoWord aNoHalyard aNoFlag aNoDeed aNoRow)  : FnOk P w K mg base CX0 1 f fd ["_law_text", "_law_number"] sp_l_rows_spoiled:=by
  refine F.ok sc_l_rows_spoiled (fun vs H Q E h => ?_) (fun cdv A outer s H vs Q E hr h => ?_)
  · obtain ⟨z,n,rfl,_⟩:=h; rfl
  obtain ⟨z,n,rfl,h0,hz,q⟩:=h
  refine ⟨_,(@pss_cons _ _ _ _ _ (@ps_set _ _ 2 _ _ _ _ sc_l_rows_spoiled.nd (by rfl) (by exact (Or.inl rfl)) (me_meth PySem.F.plainAttrs_str PySem.F.slot_str_split PySem.F.type_str_split m_split (mv 0) (@pa_str _ _ _ _ _ _ pa_nil)) (by rfl) (by first | exact Or.inl rfl | exact Or.inr rfl)) (@pss_cons _ _ _ _ _ (@ps_set _ _ 3 _ _ _ _ sc_l_rows_spoiled.nd (by rfl) (by exact (Or.inl rfl)) (pe_op m_mod (pe_op m_fdiv (mv 1) pe_int) (pe_callB m_len rfl G.b_len bt_len (pa_cons (mv 2) pa_nil))) (by rfl) (by first | exact Or.inl rfl | exact Or.inr rfl)) (@pss_cons _ _ _ _ _ (ps_if (mt_cmp m_eq (pe_op m_mod (mv 1) pe_int) pe_int (nomark _)) (@pss_one _ _ _ (ps_ret (me_meth PySem.F.plainAttrs_str PySem.F.slot_str_join PySem.F.type_str_join m_join pe_str (pa_cons (pe_op m_add (pe_slice m_sl (mv 2) po_none (mo_some (pe_op m_add (mv 3) pe_int))) (pe_slice m_sl (mv 2) (mo_some (mv 3)) po_none)) pa_nil)))) pss_nil) (@pss_cons _ _ _ _ _ (ps_if (mt_cmp m_eq (pe_op m_mod (mv 1) pe_int) pe_int (nomark _)) (@pss_cons _ _ _ _ _ (@ps_set _ _ 4 _ _ _ _ sc_l_rows_spoiled.nd (by rfl) (by exact (Or.inl rfl)) (pe_op m_add (pe_slice m_sl (mv 2) (mo_some (pe_op m_add (mv 3) pe_int)) (mo_some (pe_op m_add (mv 3) pe_int))) (pe_slice m_sl (mv 2) (mo_some (mv 3)) (mo_some (pe_op m_add (mv 3) pe_int)))) (by rfl) (by first | exact Or.inl rfl | exact Or.inr rfl)) (@pss_one _ _ _ (ps_ret (me_meth PySem.F.plainAttrs_str PySem.F.slot_str_join PySem.F.type_str_join m_join pe_str (pa_cons (pe_op m_add (pe_op m_add (pe_slice m_sl (mv 2) po_none (mo_some (mv 3))) (mv 4)) (pe_slice m_sl (mv 2) (mo_some (pe_op m_add (mv 3) pe_int)) po_none)) pa_nil))))) pss_nil) (@pss_cons _ _ _ _ _ (ps_if (mt_cmp m_eq (pe_op m_mod (mv 1) pe_int) pe_int (nomark _)) (@pss_cons _ _ _ _ _ (@ps_set _ _ 5 _ _ _ _ sc_l_rows_spoiled.nd (by rfl) (by exact (Or.inl rfl)) (pe_ix m_ix (me_meth PySem.F.plainAttrs_str PySem.F.slot_str_split PySem.F.type_str_split m_split (pe_ix m_ix (mv 2) (mv 3) (fun _ _ => rfl)) (@pa_str _ _ _ _ _ _ pa_nil)) pe_int (fun _ _ => rfl)) (by rfl) (by first | exact Or.inl rfl | exact Or.inr rfl)) (@pss_one _ _ _ (ps_ret (me_meth PySem.F.plainAttrs_str PySem.F.slot_str_join PySem.F.type_str_join m_join pe_str (pa_cons (pe_op m_add (pe_op m_add (pe_slice m_sl (mv 2) po_none (mo_some (mv 3))) (pe_lst (pa_cons (mv 5) pa_nil))) (pe_slice m_sl (mv 2) (mo_some (pe_op m_add (mv 3) pe_int)) po_none)) pa_nil))))) pss_nil) (@pss_cons _ _ _ _ _ (@ps_set _ _ 6 _ _ _ _ sc_l_rows_spoiled.nd (by rfl) (by exact (Or.inl rfl)) (@pe_lst _ _ _ _ (@pa_str _ _ _ _ _ _ (@pa_str _ _ _ _ _ _ (@pa_str _ _ _ _ _ _ (@pa_str _ _ _ _ _ _ pa_nil))))) (by rfl) (by first | exact Or.inl rfl | exact Or.inr rfl)) (@pss_one _ _ _ (ps_ret (me_meth PySem.F.plainAttrs_str PySem.F.slot_str_join PySem.F.type_str_join m_join pe_str (pa_cons (pe_op m_add (pe_op m_add (pe_slice m_sl (mv 2) po_none (mo_some (mv 3))) (pe_lst (pa_cons (pe_ix m_ix (mv 6) (pe_op m_mod (pe_op m_fdiv (mv 1) pe_int) pe_int) (fun _ _ => rfl)) pa_nil))) (pe_slice m_sl (mv 2) (mo_some (mv 3)) po_none)) pa_nil)))))))))),?_⟩
  have hcn:=rows_cnt z
  have hsz:=rows_sz z
  have hne:=rows_ne z
  have hln:1 ≤ (rowsZ z).length:=by
    cases e:rowsZ z with
    | nil => exact absurd e hne
    | cons _ _ => exact Nat.le_add_left 1 _
  walk_at "go"
  refine s_splitB (by decide) (by omega) fun l hl => ?_
  have s1:=same_upd hl (.lst ((rowsZ z).map V.str))
  have e1:rdL (upd H l (.lst ((rowsZ z).map V.str))) l = some ((rowsZ z).map V.str):=rdL_same
  generalize upd H l (.lst ((rowsZ z).map V.str)) = H1 at s1 e1 ⊢
  have hrl:((rowsZ z).map V.str).length = (rowsZ z).length:=List.length_map ..
  have hd:=Int.ediv_nonneg h0 (show (0:Int) ≤ 4 by decide)
  walk_at "go"
  rw [hrl]
  have k0:=Int.emod_nonneg (n / 4) (show (((rowsZ z).length:Nat):Int) ≠ 0 by omega)
  have k1:=Int.emod_lt_of_pos (n / 4) (show (0:Int) < (((rowsZ z).length:Nat):Int) by omega)
  generalize n / 4 % (((rowsZ z).length:Nat):Int) = k at k0 k1 ⊢
  refine ite2 (fun hc => ?_) (fun hc => ?_)
  · walk_at "go"
    intro r2 hr2
    obtain ⟨M2,m2,z2⟩:=cut_strs (rowsZ z) none (some (k + 1))
    rw [m2]
    have s2:=same_upd hr2 (.lst (M2.map V.str))
    have e2:(upd H1 r2 (.lst (M2.map V.str))) r2 = some (.lst (M2.map V.str)):=upd_same
    have k2:=sz_len M2
    generalize upd H1 r2 (.lst (M2.map V.str)) = H2 at s2 e2 ⊢
    have f2:=rdL_keep s2 e1
    walk_at "go"
    intro r3 hr3
    obtain ⟨M3,m3,z3⟩:=cut_strs (rowsZ z) (some k) none
    rw [m3]
    have s3:=same_upd hr3 (.lst (M3.map V.str))
    have e3:(upd H2 r3 (.lst (M3.map V.str))) r3 = some (.lst (M3.map V.str)):=upd_same
    have k3:=sz_len M3
    generalize upd H2 r3 (.lst (M3.map V.str)) = H3 at s3 e3 ⊢
    have e23:=s3 _ _ e2
    have za4:=sz_app (M2) (M3)
    refine s_addL (mutL_of e23) (mutL_of e3) (len_line (by have:=sz_len (M2); have:=sz_len (M3); omega)) fun r4 hr4 => ?_
    rw [← List.map_append]
    have s4:=same_upd hr4 (.lst ((M2 ++ M3).map V.str))
    have e4:(upd H3 r4 (.lst ((M2 ++ M3).map V.str))) r4 = some (.lst ((M2 ++ M3).map V.str)):=upd_same
    generalize upd H3 r4 (.lst ((M2 ++ M3).map V.str)) = H4 at s4 e4 ⊢
    walk_at "go"
    have hj:=join_sz 10 (M2 ++ M3)
    rw [sz_app] at hj
    refine s_join (ss:=M2 ++ M3) (rdL_of e4) (by rw [show (Str.ofString "\n").length = 1 from rfl,Nat.mul_one]; have:=sz_app M2 M3; unfold szL at this z2 z3 hsz; omega) ?_
    exact q _ _ (Nat.le_trans hj (by omega)) (s1.trans (s2.trans (s3.trans s4)))
  · walk_at "go"
    refine ite2 (fun hc => ?_) (fun hc => ?_)
    · walk_at "go"
      intro r2 hr2
      obtain ⟨M2,m2,z2⟩:=cut_strs (rowsZ z) (some (k + 1)) (some (k + 2))
      rw [m2]
      have s2:=same_upd hr2 (.lst (M2.map V.str))
      have e2:(upd H1 r2 (.lst (M2.map V.str))) r2 = some (.lst (M2.map V.str)):=upd_same
      have k2:=sz_len M2
      generalize upd H1 r2 (.lst (M2.map V.str)) = H2 at s2 e2 ⊢
      have f2:=rdL_keep s2 e1
      walk_at "go"
      intro r3 hr3
      obtain ⟨M3,m3,z3⟩:=cut_strs (rowsZ z) (some k) (some (k + 1))
      rw [m3]
      have s3:=same_upd hr3 (.lst (M3.map V.str))
      have e3:(upd H2 r3 (.lst (M3.map V.str))) r3 = some (.lst (M3.map V.str)):=upd_same
      have k3:=sz_len M3
      generalize upd H2 r3 (.lst (M3.map V.str)) = H3 at s3 e3 ⊢
      have e23:=s3 _ _ e2
      have za4:=sz_app (M2) (M3)
      refine s_addL (mutL_of e23) (mutL_of e3) (len_line (by have:=sz_len (M2); have:=sz_len (M3); omega)) fun r4 hr4 => ?_
      rw [← List.map_append]
      have s4:=same_upd hr4 (.lst ((M2 ++ M3).map V.str))
      have e4:(upd H3 r4 (.lst ((M2 ++ M3).map V.str))) r4 = some (.lst ((M2 ++ M3).map V.str)):=upd_same
      generalize upd H3 r4 (.lst ((M2 ++ M3).map V.str)) = H4 at s4 e4 ⊢
      have f4:=rdL_keep (s3.trans s4) f2
      walk_at "go"
      intro r5 hr5
      obtain ⟨M5,m5,z5⟩:=cut_strs (rowsZ z) none (some k)
      rw [m5]
      have s5:=same_upd hr5 (.lst (M5.map V.str))
      have e5:(upd H4 r5 (.lst (M5.map V.str))) r5 = some (.lst (M5.map V.str)):=upd_same
      have k5:=sz_len M5
      generalize upd H4 r5 (.lst (M5.map V.str)) = H5 at s5 e5 ⊢
      have e45:=s5 _ _ e4
      have f5:=rdL_keep s5 f4
      walk_at "go"
      have za6:=sz_app (M5) ((M2 ++ M3))
      refine s_addL (mutL_of e5) (mutL_of e45) (len_line (by have:=sz_len (M5); have:=sz_len ((M2 ++ M3)); omega)) fun r6 hr6 => ?_
      rw [← List.map_append]
      have s6:=same_upd hr6 (.lst ((M5 ++ (M2 ++ M3)).map V.str))
      have e6:(upd H5 r6 (.lst ((M5 ++ (M2 ++ M3)).map V.str))) r6 = some (.lst ((M5 ++ (M2 ++ M3)).map V.str)):=upd_same
      generalize upd H5 r6 (.lst ((M5 ++ (M2 ++ M3)).map V.str)) = H6 at s6 e6 ⊢
      have f6:=rdL_keep s6 f5
      walk_at "go"
      intro r7 hr7
      obtain ⟨M7,m7,z7⟩:=cut_strs (rowsZ z) (some (k + 2)) none
      rw [m7]
      have s7:=same_upd hr7 (.lst (M7.map V.str))
      have e7:(upd H6 r7 (.lst (M7.map V.str))) r7 = some (.lst (M7.map V.str)):=upd_same
      have k7:=sz_len M7
      generalize upd H6 r7 (.lst (M7.map V.str)) = H7 at s7 e7 ⊢
      have e67:=s7 _ _ e6
      have za8:=sz_app ((M5 ++ (M2 ++ M3))) (M7)
      refine s_addL (mutL_of e67) (mutL_of e7) (len_line (by have:=sz_len ((M5 ++ (M2 ++ M3))); have:=sz_len (M7); omega)) fun r8 hr8 => ?_
      rw [← List.map_append]
      have s8:=same_upd hr8 (.lst (((M5 ++ (M2 ++ M3)) ++ M7).map V.str))
      have e8:(upd H7 r8 (.lst (((M5 ++ (M2 ++ M3)) ++ M7).map V.str))) r8 = some (.lst (((M5 ++ (M2 ++ M3)) ++ M7).map V.str)):=upd_same
      generalize upd H7 r8 (.lst (((M5 ++ (M2 ++ M3)) ++ M7).map V.str)) = H8 at s8 e8 ⊢
      walk_at "go"
      have hj:=join_sz 10 (M5 ++ (M2 ++ M3) ++ M7)
      have hs:szL (M5 ++ (M2 ++ M3) ++ M7) ≤ 4 * (z.length + 1):=by rw [sz_app,sz_app,sz_app]; omega
      refine s_join (ss:=M5 ++ (M2 ++ M3) ++ M7) (rdL_of e8) (by rw [show (Str.ofString "\n").length = 1 from rfl,Nat.mul_one]; unfold szL at hs; omega) ?_
      exact q _ _ (Nat.le_trans hj (by omega)) (s1.trans (s2.trans (s3.trans (s4.trans (s5.trans (s6.trans (s7.trans s8)))))))
    · walk_at "go"
      refine ite2 (fun hc => ?_) (fun hc => ?_)
      · walk_at "go"
        obtain ⟨y,hy,ay⟩:=get_row (z:=z) k0 k1
        refine s_ixL e1 ay ?_
        have hyl:=rows_len hy
        walk_at "go"
        refine s_splitB (by decide) (by omega) fun l2 hl2 => ?_
        have s9:=same_upd hl2 (.lst ((parts y).map V.str))
        have e9:rdL (upd H1 l2 (.lst ((parts y).map V.str))) l2 = some ((parts y).map V.str):=rdL_same
        generalize upd H1 l2 (.lst ((parts y).map V.str)) = H9 at s9 e9 ⊢
        obtain ⟨wd,hwd,awd⟩:=get_word y
        walk_at "go"
        refine s_ixL e9 awd ?_
        have hwl:wd.length ≤ y.length:=parts_len hwd
        have f9:=rdL_keep s9 e1
        walk_at "go"
        intro r2 hr2
        obtain ⟨M2,m2,z2⟩:=cut_strs (rowsZ z) none (some k)
        rw [m2]
        have s2:=same_upd hr2 (.lst (M2.map V.str))
        have e2:(upd H9 r2 (.lst (M2.map V.str))) r2 = some (.lst (M2.map V.str)):=upd_same
        have k2:=sz_len M2
        generalize upd H9 r2 (.lst (M2.map V.str)) = H2 at s2 e2 ⊢
        walk_at "go"
        refine ⟨by show 1 ≤ sizeLine; decide,fun r3 hr3 => ?_⟩
        have s3:=same_upd hr3 (.lst [V.str wd])
        have e3:(upd H2 r3 (.lst [V.str wd])) r3 = some (.lst (([wd]:List Str).map V.str)):=upd_same
        generalize upd H2 r3 (.lst [V.str wd]) = H3 at s3 e3 ⊢
        have e23:=s3 _ _ e2
        have f3:=rdL_keep (s2.trans s3) f9
        have hw1:szL [wd] ≤ z.length + 1:=by unfold szL; simp only [List.map_cons,List.map_nil,List.sum_cons,List.sum_nil,List.length_cons,List.length_nil]; omega
        have za4:=sz_app (M2) ([wd])
        refine s_addL (mutL_of e23) (mutL_of e3) (len_line (by have:=sz_len (M2); have:=sz_len ([wd]); omega)) fun r4 hr4 => ?_
        rw [← List.map_append]
        have s4:=same_upd hr4 (.lst ((M2 ++ [wd]).map V.str))
        have e4:(upd H3 r4 (.lst ((M2 ++ [wd]).map V.str))) r4 = some (.lst ((M2 ++ [wd]).map V.str)):=upd_same
        generalize upd H3 r4 (.lst ((M2 ++ [wd]).map V.str)) = H4 at s4 e4 ⊢
        have f4:=rdL_keep s4 f3
        walk_at "go"
        intro r5 hr5
        obtain ⟨M5,m5,z5⟩:=cut_strs (rowsZ z) (some (k + 1)) none
        rw [m5]
        have s5:=same_upd hr5 (.lst (M5.map V.str))
        have e5:(upd H4 r5 (.lst (M5.map V.str))) r5 = some (.lst (M5.map V.str)):=upd_same
        have k5:=sz_len M5
        generalize upd H4 r5 (.lst (M5.map V.str)) = H5 at s5 e5 ⊢
        have e45:=s5 _ _ e4
        have za6:=sz_app ((M2 ++ [wd])) (M5)
        refine s_addL (mutL_of e45) (mutL_of e5) (len_line (by have:=sz_len ((M2 ++ [wd])); have:=sz_len (M5); omega)) fun r6 hr6 => ?_
        rw [← List.map_append]
        have s6:=same_upd hr6 (.lst (((M2 ++ [wd]) ++ M5).map V.str))
        have e6:(upd H5 r6 (.lst (((M2 ++ [wd]) ++ M5).map V.str))) r6 = some (.lst (((M2 ++ [wd]) ++ M5).map V.str)):=upd_same
        generalize upd H5 r6 (.lst (((M2 ++ [wd]) ++ M5).map V.str)) = H6 at s6 e6 ⊢
        walk_at "go"
        have hj:=join_sz 10 (M2 ++ [wd] ++ M5)
        have hs:szL (M2 ++ [wd] ++ M5) ≤ 4 * (z.length + 1):=by rw [sz_app,sz_app]; omega
        refine s_join (ss:=M2 ++ [wd] ++ M5) (rdL_of e6) (by rw [show (Str.ofString "\n").length = 1 from rfl,Nat.mul_one]; unfold szL at hs; omega) ?_
        exact q _ _ (Nat.le_trans hj (by omega)) (s1.trans (s9.trans (s2.trans (s3.trans (s4.trans (s5.trans s6))))))
      · walk_at "go"
        refine ⟨by show 4 ≤ sizeLine; decide,fun l2 hl2 => ?_⟩
        have s9:=same_upd hl2 (.lst (oddR.map V.str))
        have e9:rdL (upd H1 l2 (.lst (oddR.map V.str))) l2 = some (oddR.map V.str):=rdL_same
        change gName _ _ _ (upd H1 l2 (.lst (oddR.map V.str))) _
        generalize upd H1 l2 (.lst (oddR.map V.str)) = H9 at s9 e9 ⊢
        have f9:=rdL_keep s9 e1
        walk_at "go"
        intro r2 hr2
        obtain ⟨M2,m2,z2⟩:=cut_strs (rowsZ z) none (some k)
        rw [m2]
        have s2:=same_upd hr2 (.lst (M2.map V.str))
        have e2:(upd H9 r2 (.lst (M2.map V.str))) r2 = some (.lst (M2.map V.str)):=upd_same
        have k2:=sz_len M2
        generalize upd H9 r2 (.lst (M2.map V.str)) = H2 at s2 e2 ⊢
        have e92:=rdL_keep s2 e9
        walk_at "go"
        obtain ⟨wd,hwd,awd⟩:=get_odd (i:=n / 200 % 4) (Int.emod_nonneg _ (by decide)) (Int.emod_lt_of_pos _ (by decide))
        refine s_ixL e92 awd ?_
        walk_at "go"
        refine ⟨by show 1 ≤ sizeLine; decide,fun r3 hr3 => ?_⟩
        have s3:=same_upd hr3 (.lst [V.str wd])
        have e3:(upd H2 r3 (.lst [V.str wd])) r3 = some (.lst (([wd]:List Str).map V.str)):=upd_same
        generalize upd H2 r3 (.lst [V.str wd]) = H3 at s3 e3 ⊢
        have e23:=s3 _ _ e2
        have f3:=rdL_keep (s2.trans s3) f9
        have hw1:szL [wd] ≤ 14:=by unfold szL; simp only [List.map_cons,List.map_nil,List.sum_cons,List.sum_nil,List.length_cons,List.length_nil]; omega
        have za4:=sz_app (M2) ([wd])
        refine s_addL (mutL_of e23) (mutL_of e3) (len_line (by have:=sz_len (M2); have:=sz_len ([wd]); omega)) fun r4 hr4 => ?_
        rw [← List.map_append]
        have s4:=same_upd hr4 (.lst ((M2 ++ [wd]).map V.str))
        have e4:(upd H3 r4 (.lst ((M2 ++ [wd]).map V.str))) r4 = some (.lst ((M2 ++ [wd]).map V.str)):=upd_same
        generalize upd H3 r4 (.lst ((M2 ++ [wd]).map V.str)) = H4 at s4 e4 ⊢
        have f4:=rdL_keep s4 f3
        walk_at "go"
        intro r5 hr5
        obtain ⟨M5,m5,z5⟩:=cut_strs (rowsZ z) (some k) none
        rw [m5]
        have s5:=same_upd hr5 (.lst (M5.map V.str))
        have e5:(upd H4 r5 (.lst (M5.map V.str))) r5 = some (.lst (M5.map V.str)):=upd_same
        have k5:=sz_len M5
        generalize upd H4 r5 (.lst (M5.map V.str)) = H5 at s5 e5 ⊢
        have e45:=s5 _ _ e4
        have za6:=sz_app ((M2 ++ [wd])) (M5)
        refine s_addL (mutL_of e45) (mutL_of e5) (len_line (by have:=sz_len ((M2 ++ [wd])); have:=sz_len (M5); omega)) fun r6 hr6 => ?_
        rw [← List.map_append]
        have s6:=same_upd hr6 (.lst (((M2 ++ [wd]) ++ M5).map V.str))
        have e6:(upd H5 r6 (.lst (((M2 ++ [wd]) ++ M5).map V.str))) r6 = some (.lst (((M2 ++ [wd]) ++ M5).map V.str)):=upd_same
        generalize upd H5 r6 (.lst (((M2 ++ [wd]) ++ M5).map V.str)) = H6 at s6 e6 ⊢
        walk_at "go"
        have hj:=join_sz 10 (M2 ++ [wd] ++ M5)
        have hs:szL (M2 ++ [wd] ++ M5) ≤ 4 * (z.length + 1) + 14:=by rw [sz_app,sz_app]; omega
        refine s_join (ss:=M2 ++ [wd] ++ M5) (rdL_of e6) (by rw [show (Str.ofString "\n").length = 1 from rfl,Nat.mul_one]; unfold szL at hs; omega) ?_
        exact q _ _ (Nat.le_trans hj (by omega)) (s1.trans (s9.trans (s2.trans (s3.trans (s4.trans (s5.trans s6))))))
structure FitBk (bk:List (Str × Str)):Prop where
  le:bk.length ≤ 62
  len:∀ b ∈ bk,b.1.length ≤ 6 ∧ b.2.length ≤ 60
def longC (k:Nat):Str:=one (97 + k % 23) ++ one (97 + k / 23)
def sp_l_long:Sp:=fun vs H Q _ => ∃ m:Int,vs = [.int m] ∧ 0 ≤ m ∧ m ≤ 62 ∧ ∀ (r:Addr) (bk:List (Str × Str)) (H':Hp),H r = none → Same H H' → BkAt H' r bk → FitBk bk → Q (.ref r) H'
theorem sc_l_long:FnScope ["_law_many", "_law_letters"] ["_law_many"] (defScope s_l_long):=⟨rfl,rfl,rfl,by decide +kernel,rfl,by decide +kernel,by decide +kernel⟩
theorem ok_l_long {aNoBook aNoText aTowerError aNoHoist aShort aLack aNoCut aNoWord aNoHalyard aNoFlag aNoDeed aNoRow:Addr} {f:Addr} {fd:FuncData} (F:Fun K "_law_long" "_law_long" s_l_long f fd) (G:Gs K mg aNoBook aNoText aTowerError aNoHoist aShort aLack aNoCut aNoWord aNoHalyard aNoFlag aNoDeed aNoRow)  : FnOk P w K mg base CX0 1 f fd ["_law_many"] sp_l_long:=by
  refine F.ok sc_l_long (fun vs H Q E h => ?_) (fun cdv A outer s H vs Q E hr h => ?_)
  · obtain ⟨m,rfl,_⟩:=h; rfl
  obtain ⟨m,rfl,h0,h69,q⟩:=h
  refine ⟨_,(@pss_cons _ _ _ _ _ (@ps_set _ _ 1 _ _ _ _ sc_l_long.nd (by rfl) (by exact (Or.inr rfl)) pe_str (by rfl) (by first | exact Or.inl rfl | exact Or.inr rfl)) (@pss_one _ _ _ (ps_ret (pe_comp rfl (pj_range1 rfl G.b_range (pa_cons (mv 0) pa_nil)) (clOkF (N:=["_law_k", "_law_letters"]) ["_law_many", "_law_letters"] (defScope s_l_long) [none,some 1] rfl rfl rfl (fun x h => cell_has h) (by decide +kernel)) (by decide +kernel) rfl (by decide +kernel) (fun C s₀ H₀ ex => (pg_name (i:=0) (show List.Nodup (["_law_k", "_law_letters"]:List Str) by decide +kernel) rfl (Or.inl rfl))) (fun C s₀ H₀ ex => pf_nil) (fun C s₀ H₀ ex => (pe_tup (pa_cons (pe_op m_add (pe_ix m_ix (mv 1) (pe_op m_mod (mv 0) pe_int) (fun _ _ => rfl)) (pe_ix m_ix (mv 1) (pe_op m_fdiv (mv 0) pe_int) (fun _ _ => rfl))) (pa_cons (pe_op m_add (pe_op m_add pe_str (pe_ix m_ix (mv 1) (pe_op m_mod (mv 0) pe_int) (fun _ _ => rfl))) (pe_ix m_ix (mv 1) (pe_op m_fdiv (mv 0) pe_int) (fun _ _ => rfl))) pa_nil)))))))),?_⟩
  walk_at "go"
  refine ⟨⟨by omega,by omega⟩,?_⟩
  refine cw_rangeT (fun k:Nat => [V.str (longC k),V.str (Str.ofString "no " ++ one (97 + k % 23) ++ one (97 + k / 23))]) (lt_line (by omega)) (fun i Hc A B hi sm hA => ?_) (fun D Hd ps hD sD hd hpl tp => ?_)
  · have e1:atI lettersT.cps.toList ((0 + (i:Int)) % 23) = some (97 + i % 23):=by
      have:=at_lets (k:=i % 23) (by omega)
      rwa [show (((i % 23:Nat):Nat):Int) = (0 + (i:Int)) % 23 by omega] at this
    have e2:atI lettersT.cps.toList ((0 + (i:Int)) / 23) = some (97 + i / 23):=by
      have:=at_lets (k:=i / 23) (by omega)
      rwa [show (((i / 23:Nat):Nat):Int) = (0 + (i:Int)) / 23 by omega] at this
    have o1:∀ c:Nat,(⟨#[c]⟩:Str).length = 1:=fun _ => rfl
    have l3:(Str.ofString "no ").length = 3:=rfl
    walk_at "go"
    refine ⟨Wk.set rfl (Wk.refl _),?_⟩
    walk_at "go"
    refine s_ixS (by decide) e1 ?_
    walk_at "go"
    refine s_ixS (by decide) e2 ?_
    refine s_addS (len_line (by rw [o1,o1]; decide)) ?_
    walk_at "go"
    refine s_ixS (by decide) e1 ?_
    refine s_addS (len_line (by rw [o1]; decide)) ?_
    walk_at "go"
    refine s_ixS (by decide) e2 ?_
    refine s_addS (len_line (by rw [Str.length_append,o1,o1]; decide)) ?_
    walk_at "go"
    refine ⟨by show 2 ≤ sizeLine; decide,fun pp hpp => ?_⟩
    exact hA pp _ hpp (same_upd hpp _) upd_same
  · refine q D ((List.range m.toNat).map fun k => (longC k,Str.ofString "no " ++ one (97 + k % 23) ++ one (97 + k / 23))) Hd hD sD ⟨ps,hd,by rw [hpl,List.length_map,List.length_range],fun j p b hp hb => ?_⟩ ⟨by rw [List.length_map,List.length_range]; omega,fun b hb => ?_⟩
    · rw [List.getElem?_map] at hb
      cases e:(List.range m.toNat)[j]? with
      | none => rw [e] at hb; cases hb
      | some k =>
        rw [e] at hb
        cases hb
        exact (tp.2 j p _ hp (by rw [List.getElem?_map,e]; rfl)).2
    · obtain ⟨k,_,rfl⟩:=List.mem_map.mp hb
      have o1:∀ c:Nat,(one c).length = 1:=fun _ => rfl
      have l3:(Str.ofString "no ").length = 3:=rfl
      refine ⟨?_,?_⟩
      · show (one _ ++ one _).length ≤ 6
        rw [Str.length_append,o1,o1]
        decide
      · show (Str.ofString "no " ++ one _ ++ one _).length ≤ 60
        rw [Str.length_append,Str.length_append,o1,o1,l3]
        decide
theorem row_sz {bk:List (Str × Str)} (h:FitBk bk):∀ z ∈ bk.map rowT,z.length ≤ 67:=fun z hz => by
  obtain ⟨b,hb,rfl⟩:=List.mem_map.mp hz
  have:=h.len b hb
  unfold rowT
  rw [Str.length_append,Str.length_append,show (Str.ofString " ").length = 1 from rfl]
  omega
theorem good_fit {bk:List (Str × Str)} (h:GoodBk bk):FitBk bk:=⟨by have:=(rows_ok h).le; omega,(rows_ok h).len⟩
def inLoop (H0:Hp) (a rb pr:Addr) (tx:Str) (σ:St) (H':Hp):Prop:=∃ v3 v4 v6 v7 v8 v9 v10:Option V,σ = [some (.ref a),some (.ref rb),some (.ref pr),v3,v4,some (.str tx),v6,v7,v8,v9,v10] ∧ Same H0 H'
theorem sc_law:FnScope ["_law_script", "_law_book_here", "_law_rows", "_law_word_here", "_law_meaning", "_law_text", "_law_k", "_law_cell", "_law_mixed_here", "_law_sign_here", "_law_spoiled_here"] ["_law_script"] (defScope s_law):=⟨rfl,rfl,rfl,by decide +kernel,rfl,by decide +kernel,by decide +kernel⟩
theorem ok_law {aNoBook aNoText aTowerError aNoHoist aShort aLack aNoCut aNoWord aNoHalyard aNoFlag aNoDeed aNoRow:Addr} {f:Addr} {fd:FuncData} (F:Fun K "law" "law" s_law f fd) (G:Gs K mg aNoBook aNoText aTowerError aNoHoist aShort aLack aNoCut aNoWord aNoHalyard aNoFlag aNoDeed aNoRow) (c_l_good_book:Cal P w K mg base 3 "_law_good_book" ["_law_script"] (sp_l_good_book K)) (c_l_long:Cal P w K mg base 1 "_law_long" ["_law_many"] sp_l_long) (c_l_mixed:Cal P w K mg base 1 "_law_mixed" ["_law_cell", "_law_k"] sp_l_mixed) (c_l_sign:Cal P w K mg base 1 "_law_sign" ["_law_cell", "_law_menu"] sp_l_sign) (c_l_spoiled:Cal P w K mg base 1 "_law_spoiled" ["_law_text", "_law_number", "_law_sign_here"] sp_l_spoiled) (c_l_told:Cal P w K mg base 6 "_law_told" ["_law_text"] sp_l_told) (c_l_due:Cal P w K mg base 2 "_law_due" ["_law_text"] sp_l_due) (c_l_rows_spoiled:Cal P w K mg base 1 "_law_rows_spoiled" ["_law_text", "_law_number"] sp_l_rows_spoiled) (c_l_cell_at:Cal P w K mg base 1 "_law_cell_at" ["_law_script", "_law_k"] (sp_l_cell_at K)):FnOk P w K mg base CX0 7 f fd ["_law_script"] (sp_law K):=by
  refine F.ok sc_law (fun vs H Q E h => ?_) (fun cdv A outer s H vs Q E hr h => ?_)
  · obtain ⟨a,ns,rfl,_⟩:=h; rfl
  obtain ⟨a,ns,rfl,hS,h63,q⟩:=h
  refine ⟨_,(@pss_cons _ _ _ _ _ (@ps_set _ _ 1 _ _ _ _ sc_law.nd (by rfl) (by exact (Or.inl rfl)) (pe_cal c_l_good_book hr (by decide) rfl (pa_cons (mv 0) pa_nil)) (by rfl) (by first | exact Or.inl rfl | exact Or.inr rfl)) (@pss_cons _ _ _ _ _ (ps_if (mt_cmp m_eq (pe_op m_mod (pe_cal c_l_mixed hr (by decide) rfl (pa_cons (pe_cal c_l_cell_at hr (by decide) rfl (pa_cons (mv 0) (pa_cons pe_int pa_nil))) (pa_cons pe_int pa_nil))) pe_int) pe_int (nomark _)) (@pss_one _ _ _ (@ps_set _ _ 1 _ _ _ _ sc_law.nd (by rfl) (by exact (Or.inl rfl)) (pe_cal c_l_long hr (by decide) rfl (pa_cons (pe_op m_add pe_int (pe_op m_mod (pe_cal c_l_mixed hr (by decide) rfl (pa_cons (pe_cal c_l_cell_at hr (by decide) rfl (pa_cons (mv 0) (pa_cons pe_int pa_nil))) (pa_cons pe_int pa_nil))) pe_int)) pa_nil)) (by rfl) (by first | exact Or.inl rfl | exact Or.inr rfl))) pss_nil) (@pss_cons _ _ _ _ _ (@ps_set _ _ 2 _ _ _ _ sc_law.nd (by rfl) (by exact (Or.inl rfl)) (pe_lst pa_nil) (by rfl) (by first | exact Or.inl rfl | exact Or.inr rfl)) (@pss_cons _ _ _ _ _ (pj_for PassesOwn.never rfl (pj_list (mv 1)) (pg_pair (K:=K) (i:=3) (j:=4) (by rfl) (by rfl) sc_law.nd (by rfl) (by exact (Or.inl rfl)) (by exact Or.inl rfl) (by rfl) (by exact (Or.inl rfl)) (by exact Or.inl rfl)) (@pss_one _ _ _ (ps_expr (me_meth PySem.F.plainAttrs_list PySem.F.slot_list_append PySem.F.type_list_append m_app (mv 2) (pa_cons (pe_op m_add (pe_op m_add (mv 3) pe_str) (mv 4)) pa_nil))))) (@pss_cons _ _ _ _ _ (@ps_set _ _ 5 _ _ _ _ sc_law.nd (by rfl) (by exact (Or.inl rfl)) (me_meth PySem.F.plainAttrs_str PySem.F.slot_str_join PySem.F.type_str_join m_join pe_str (pa_cons (mv 2) pa_nil)) (by rfl) (by first | exact Or.inl rfl | exact Or.inr rfl)) (@pss_cons _ _ _ _ _ (pj_for PassesOwn.never rfl (pj_enum rfl G.b_enumerate (pa_cons (pe_slice sl_list (mv 0) po_none (mo_some pe_int)) pa_nil)) (pg_pair (K:=K) (i:=6) (j:=7) (by rfl) (by rfl) sc_law.nd (by rfl) (by exact (Or.inl rfl)) (by exact Or.inl rfl) (by rfl) (by exact (Or.inl rfl)) (by exact Or.inl rfl)) (@pss_cons _ _ _ _ _ (@ps_set _ _ 8 _ _ _ _ sc_law.nd (by rfl) (by exact (Or.inl rfl)) (pe_cal c_l_mixed hr (by decide) rfl (pa_cons (mv 7) (pa_cons (pe_op m_add (mv 6) pe_int) pa_nil))) (by rfl) (by first | exact Or.inl rfl | exact Or.inr rfl)) (@pss_cons _ _ _ _ _ (@ps_set _ _ 9 _ _ _ _ sc_law.nd (by rfl) (by exact (Or.inl rfl)) (pe_cal c_l_sign hr (by decide) rfl (pa_cons (pe_cal c_l_mixed hr (by decide) rfl (pa_cons (mv 7) (pa_cons (pe_op m_add (mv 6) pe_int) pa_nil))) (@pa_str _ _ _ _ _ _ pa_nil))) (by rfl) (by first | exact Or.inl rfl | exact Or.inr rfl)) (@pss_cons _ _ _ _ _ (@ps_set _ _ 10 _ _ _ _ sc_law.nd (by rfl) (by exact (Or.inl rfl)) (pe_cal c_l_spoiled hr (by decide) rfl (pa_cons (mv 5) (pa_cons (pe_op m_fdiv (mv 8) pe_int) (pa_cons (mv 9) pa_nil)))) (by rfl) (by first | exact Or.inl rfl | exact Or.inr rfl)) (@pss_cons _ _ _ _ _ (ps_if (mt_cmp m_eq (pe_op m_mod (mv 8) pe_int) pe_int (nomark _)) (@pss_one _ _ _ (@ps_set _ _ 10 _ _ _ _ sc_law.nd (by rfl) (by exact (Or.inl rfl)) (pe_cal c_l_rows_spoiled hr (by decide) rfl (pa_cons (mv 5) (pa_cons (pe_op m_fdiv (mv 8) pe_int) pa_nil))) (by rfl) (by first | exact Or.inl rfl | exact Or.inr rfl))) pss_nil) (@pss_one _ _ _ (ps_if (mt_cmp (m_neA hr.units) (pe_cal c_l_told hr (by decide) rfl (pa_cons (mv 10) pa_nil)) (pe_cal c_l_due hr (by decide) rfl (pa_cons (mv 10) pa_nil)) (nomark _)) (@pss_one _ _ _ (ps_ret pe_bl)) pss_nil))))))) (@pss_cons _ _ _ _ _ (ps_if (mt_cmp (m_neA hr.units) (pe_cal c_l_told hr (by decide) rfl (pa_cons (pe_op m_add (mv 5) pe_str) pa_nil)) (pe_lst (@pa_str _ _ _ _ _ _ pa_nil)) (nomark _)) (@pss_one _ _ _ (ps_ret pe_bl)) pss_nil) (@pss_one _ _ _ (ps_ret (pe_cmpR (m_eqA hr.units) (pe_cal c_l_told hr (by decide) rfl (pa_cons (mv 5) pa_nil)) (pe_cal c_l_due hr (by decide) rfl (pa_cons (mv 5) pa_nil)) (nomark _))))))))))),?_⟩
  walk_at "go"
  refine ⟨a,ns,rfl,hS,h63,fun rb0 bk0 H1 hrb0 s1 hbk0 hg _ => ?_⟩
  walk_at "gs"
  with_reducible refine s_seqJ (fun σ' H' => ∃ (rb:Addr) (bk:List (Str × Str)),σ' = [some (.ref a),some (.ref rb),none,none,none,none,none,none,none,none,none] ∧ Same H H' ∧ BkAt H' rb bk ∧ FitBk bk) ?_ ?_
  · rintro σ2 H2 ⟨rb,bk,rfl,s2,hbk,hfit⟩
    obtain ⟨ps,b1,b2,b3⟩:=id hbk
    have hpl:(ps.map V.ref).length = bk.length:=by rw [List.length_map,b2]
    have h62:=hfit.le
    walk_at "go"
    refine ⟨by decide,fun pr hpr => ?_⟩
    have rb3:=rdL_of ((same_upd hpr (.lst [])) _ _ b1)
    walk_at "go"
    refine fj_list (xs:=ps.map V.ref) (fun j σ H' => ∃ v3 v4,σ = [some (.ref a),some (.ref rb),some (.ref pr),v3,v4,none,none,none,none,none,none] ∧ Same H2 H' ∧ H' pr = some (.lst (((bk.take j).map rowT).map V.str)))
      ⟨_,_,rfl,same_upd hpr _,upd_same⟩ (fun j σ H' _ ⟨_,_,_,e,_⟩ => rdL_of (e _ _ b1)) ?_ ?_
    · rintro j x σ H4 hx ⟨v3,v4,rfl,s4,e4⟩
      rw [List.getElem?_map] at hx
      cases e:ps[j]? with
      | none => rw [e] at hx; cases hx
      | some p =>
        rw [e] at hx
        cases hx
        have hj:j < bk.length:=by rw [← b2]; exact (List.getElem?_eq_some_iff.mp e).1
        have eb:bk[j]? = some bk[j]:=List.getElem?_eq_getElem hj
        have tc:=tupL_of (s4 _ _ (b3 j p _ e eb))
        obtain ⟨l1,l2⟩:=hfit.len _ (List.mem_of_getElem? eb)
        have o1:(Str.ofString " ").length = 1:=rfl
        have hm4:=mutL_of e4
        have hlen:(((bk.take j).map rowT).map V.str).length < sizeLine:=by rw [List.length_map,List.length_map,List.length_take]; exact lt_line (by omega)
        walk_at "go"
        refine ⟨_,_,rfl,same_put hpr s4,?_⟩
        rw [upd_same,List.take_add_one,eb,List.map_append,List.map_append]
        rfl
    · rintro σ H4 ⟨v3,v4,rfl,s4,e4⟩
      rw [hpl,List.take_length] at e4
      walk_at "go"
      have r1:((bk.map rowT).map (·.length)).sum ≤ 67 * ((bk.map rowT).map (·.length)).length:=sum_le fun x hx => by
        obtain ⟨z,hz,rfl⟩:=List.mem_map.mp hx
        exact row_sz hfit z hz
      rw [List.length_map,List.length_map] at r1
      refine s_join (ss:=bk.map rowT) (rdL_of e4) (by rw [List.length_map,show (Str.ofString "\n").length = 1 from rfl]; omega) ?_
      have htx:(Txt.join (Str.ofString "\n") (bk.map rowT)).length ≤ 4500:=by
        have:=join_sz 10 (bk.map rowT)
        unfold szL at this
        rw [List.length_map] at this
        exact Nat.le_trans this (by omega)
      generalize Txt.join (Str.ofString "\n") (bk.map rowT) = tx at htx ⊢
      have s04:=s2.trans s4
      walk_at "go"
      refine s_slK (s04.seq hS) fun r8 hr8 => ?_
      rw [cut_take (by decide),← List.map_take]
      have hkl:(ns.take (12:Int).toNat).length ≤ 12:=by rw [List.length_take]; exact Nat.min_le_left _ _
      generalize ns.take (12:Int).toNat = ks at hkl ⊢
      have s8:=same_upd hr8 (.lst (ks.map V.int))
      have e8:rdL (upd H4 r8 (.lst (ks.map V.int))) r8 = some (ks.map V.int):=rdL_same
      generalize upd H4 r8 (.lst (ks.map V.int)) = H8 at s8 e8 ⊢
      have hksl:(ks.map V.int).length = ks.length:=List.length_map ..
      walk_at "go"
      refine fj_enum (xs:=ks.map V.int) (fun i σ H' => inLoop H8 a rb pr tx σ H')
        ⟨_,_,_,_,_,_,_,rfl,Same.refl _⟩ (fun i σ H' _ ⟨_,_,_,_,_,_,_,_,e⟩ => rdL_keep e e8) ?_ ?_
      · rintro i x σ H9 pt hx ⟨u3,u4,u6,u7,u8,u9,u10,rfl,s9⟩ hpt
        have hi:=(List.getElem?_eq_some_iff.mp hx).1
        obtain ⟨c,_,rfl⟩:=of_map_int hx
        have s10:=same_upd hpt (.tup [.int ((0 + i:Nat):Int),.int c])
        walk_at "go"
        refine ⟨c,_,rfl,by omega,by omega,fun n hn => ?_⟩
        walk_at "go"
        refine ⟨c,_,rfl,by omega,by omega,fun n2 hn2 => ?_⟩
        walk_at "go"
        refine ⟨n2,_,rfl,hn2,by decide,by decide,fun d => ?_⟩
        have hn4:=Int.ediv_nonneg hn (show (0:Int) ≤ 2 by decide)
        walk_at "go"
        refine ⟨tx,one d,_,rfl,hn4,htx,by show 1 ≤ 1; decide,fun u hu => ?_⟩
        have s90:=s9.trans s10
        generalize upd H9 pt (.tup [.int ((0 + i:Nat):Int),.int c]) = H10 at s90 ⊢
        walk_at "gs"
        with_reducible refine s_seqJ (fun σ' H' => ∃ (w6 w7 w8 w9:Option V) (y:Str),y.length ≤ 19000 ∧ σ' = [some (.ref a),some (.ref rb),some (.ref pr),u3,u4,some (.str tx),w6,w7,w8,w9,some (.str y)] ∧ Same H8 H') ?_ ?_
        · rintro σ11 H11 ⟨w6,w7,w8,w9,y,hy,rfl,s11⟩
          walk_at "go"
          refine ⟨y,rfl,hy,fun r12 H12 hr12 s12 t12 => ?_⟩
          walk_at "go"
          refine ⟨y,rfl,hy,fun r13 H13 hr13 s13 t13 => ?_⟩
          refine s_alk 1 ((t12.keep s13).alk t13) ?_
          rw [Bool.not_true]
          walk_at "go"
          exact ⟨_,_,_,_,_,_,_,rfl,s11.trans (s12.trans s13)⟩
        · intro N hN
          walk_at "go"
          refine ite2 (fun hc => ?_) (fun hc => ?_)
          · walk_at "go"
            refine ⟨tx,_,rfl,hn4,htx,fun u2 H12 hu2 s12 => ?_⟩
            walk_at "go"
            exact hN _ _ ⟨_,_,_,_,_,hu2,rfl,s90.trans s12⟩
          · walk_at "go"
            exact hN _ _ ⟨_,_,_,_,_,hu,rfl,s90⟩
      · rintro σ H9 ⟨u3,u4,u6,u7,u8,u9,u10,rfl,s9⟩
        have o4:(Str.ofString "\nabc").length = 4:=rfl
        walk_at "go"
        refine ⟨_,rfl,by rw [Str.length_append,o4]; omega,fun r12 H12 hr12 s12 t12 => ?_⟩
        walk_at "go"
        refine ⟨by decide,fun p13 h13 => ?_⟩
        have ha:allTwo (tx ++ Str.ofString "\nabc") = false:=by
          have e:=split_end tx (Str.ofString "abc") (by decide)
          unfold allTwo
          rw [show tx ++ Str.ofString "\nabc" = tx ++ (Str.ofString "\n" ++ Str.ofString "abc") from rfl,e,List.all_append]
          rw [show ([Str.ofString "abc"].all twoB) = false by decide +kernel,Bool.and_false]
        have t13:Tells (upd H12 p13 (.lst [V.str (Str.ofString "text")])) p13 (tx ++ Str.ofString "\nabc"):=.inl ⟨ha,upd_same⟩
        refine s_alk 1 ((t12.keep (same_upd h13 _)).alk t13) ?_
        rw [Bool.not_true]
        walk_at "go"
        refine ⟨tx,rfl,by omega,fun r14 H14 hr14 s14 t14 => ?_⟩
        walk_at "go"
        refine ⟨tx,rfl,by omega,fun r15 H15 hr15 s15 t15 => ?_⟩
        refine s_alk 1 ((t14.keep s15).alk t15) ?_
        exact q _
  · intro N hN
    walk_at "go"
    refine ⟨a,ns,1,rfl,s1.seq hS,by decide,fun c1 => ?_⟩
    walk_at "go"
    refine ⟨c1,90,rfl,by decide,by decide,fun n1 hn1 => ?_⟩
    walk_at "go"
    refine ite2 (fun hc => ?_) (fun hc => ?_)
    · walk_at "go"
      refine ⟨a,ns,0,rfl,s1.seq hS,by decide,fun c2 => ?_⟩
      walk_at "go"
      refine ⟨c2,91,rfl,by decide,by decide,fun n3 hn3 => ?_⟩
      have m0:=Int.emod_nonneg n3 (show (5:Int) ≠ 0 by decide)
      have m1:=Int.emod_lt_of_pos n3 (show (0:Int) < 5 by decide)
      walk_at "go"
      refine ⟨_,rfl,by omega,by omega,fun r2 bk2 H2 hr2 s2 hbk2 hf2 => ?_⟩
      walk_at "go"
      exact hN _ _ ⟨r2,bk2,rfl,s1.trans s2,hbk2,hf2⟩
    · walk_at "go"
      exact hN _ _ ⟨rb0,bk0,rfl,s1,hbk0,good_fit hg⟩
end
theorem all_mk {l:PySem.W.OpenLaw} {w:World} {K:PySem.W.Frag} {h:Heap} {mg:Str → Option Value} {fa:Addr} {od_0 an_0:Option Addr} {sl_0:Array (Option Value)} {f_0:Addr} {oc_0 kV_0 dc_0 pm_0 cd_0 ct_0:Value} {od_1 an_1:Option Addr} {sl_1:Array (Option Value)} {f_1:Addr} {oc_1 kV_1 dc_1 pm_1 cd_1 ct_1:Value} {od_2 an_2:Option Addr} {sl_2:Array (Option Value)} {f_2:Addr} {oc_2 kV_2 dc_2 pm_2 cd_2 ct_2:Value} {od_3 an_3:Option Addr} {sl_3:Array (Option Value)} {f_3:Addr} {oc_3 kV_3 dc_3 pm_3 cd_3 ct_3:Value} {od_4 an_4:Option Addr} {sl_4:Array (Option Value)} {f_4:Addr} {oc_4 kV_4 dc_4 pm_4 cd_4 ct_4:Value} {od_5 an_5:Option Addr} {sl_5:Array (Option Value)} {f_5:Addr} {oc_5 kV_5 dc_5 pm_5 cd_5 ct_5:Value} {od_6 an_6:Option Addr} {sl_6:Array (Option Value)} {f_6:Addr} {oc_6 kV_6 dc_6 pm_6 cd_6 ct_6:Value} {od_7 an_7:Option Addr} {sl_7:Array (Option Value)} {f_7:Addr} {oc_7 kV_7 dc_7 pm_7 cd_7 ct_7:Value} {od_8 an_8:Option Addr} {sl_8:Array (Option Value)} {f_8:Addr} {oc_8 kV_8 dc_8 pm_8 cd_8 ct_8:Value} {od_9 an_9:Option Addr} {sl_9:Array (Option Value)} {f_9:Addr} {oc_9 kV_9 dc_9 pm_9 cd_9 ct_9:Value} {od_10 an_10:Option Addr} {sl_10:Array (Option Value)} {f_10:Addr} {oc_10 kV_10 dc_10 pm_10 cd_10 ct_10:Value} {od_11 an_11:Option Addr} {sl_11:Array (Option Value)} {f_11:Addr} {oc_11 kV_11 dc_11 pm_11 cd_11 ct_11:Value} {od_12 an_12:Option Addr} {sl_12:Array (Option Value)} {f_12:Addr} {oc_12 kV_12 dc_12 pm_12 cd_12 ct_12:Value} {od_13 an_13:Option Addr} {sl_13:Array (Option Value)} {f_13:Addr} {oc_13 kV_13 dc_13 pm_13 cd_13 ct_13:Value} {od_14 an_14:Option Addr} {sl_14:Array (Option Value)} {f_14:Addr} {oc_14 kV_14 dc_14 pm_14 cd_14 ct_14:Value} {od_15 an_15:Option Addr} {sl_15:Array (Option Value)} {f_15:Addr} {oc_15 kV_15 dc_15 pm_15 cd_15 ct_15:Value} {od_16 an_16:Option Addr} {sl_16:Array (Option Value)} {f_16:Addr} {oc_16 kV_16 dc_16 pm_16 cd_16 ct_16:Value} {od_17 an_17:Option Addr} {sl_17:Array (Option Value)} {f_17:Addr} {oc_17 kV_17 dc_17 pm_17 cd_17 ct_17:Value} {od_18 an_18:Option Addr} {sl_18:Array (Option Value)} {f_18:Addr} {oc_18 kV_18 dc_18 pm_18 cd_18 ct_18:Value} {od_19 an_19:Option Addr} {sl_19:Array (Option Value)} {f_19:Addr} {oc_19 kV_19 dc_19 pm_19 cd_19 ct_19:Value} {od_20 an_20:Option Addr} {sl_20:Array (Option Value)} {f_20:Addr} {oc_20 kV_20 dc_20 pm_20 cd_20 ct_20:Value} {od_21 an_21:Option Addr} {sl_21:Array (Option Value)} {f_21:Addr} {oc_21 kV_21 dc_21 pm_21 cd_21 ct_21:Value} {t_LONGEST_TERM:Tok} {t_TERM_LETTERS:Tok} {t_MOST_PLACES:Tok} {t_LETTERS:Tok} {t_MOST_TUPLES:Tok} {t_LONGEST_WORD:Tok} {t_MOST_TERMS_MEANT:Tok} {aNoBook:Addr} {aNoText:Addr} {aTowerError:Addr} {aNoHoist:Addr} {aShort:Addr} {aLack:Addr} {aNoCut:Addr} {aNoWord:Addr} {aNoHalyard:Addr} {aNoFlag:Addr} {aNoDeed:Addr} {aNoRow:Addr} (X:K.In h) (Gn:h.Ns mainGlobals mg) (hfa:mg "law" = some (.ref fa))
    (a_0:PySem.W.nsIn K mainGlobals "_law_mixed" = some (some (.ref f_0))) (l_0:K.lookup f_0 = some ⟨oc_0,od_0,.func (PySem.W.fnOf "_law_mixed" "_law_mixed" (defArgs s_l_mixed) (defBody s_l_mixed) (defScope s_l_mixed) .none kV_0 dc_0 pm_0 an_0 cd_0 ct_0),sl_0⟩) (c_0:PySem.W.codeIn K cd_0 "_law_mixed" = true) (k_0:PySem.W.keepIn K (.ref f_0) = true)
    (a_1:PySem.W.nsIn K mainGlobals "_law_terms" = some (some (.ref f_1))) (l_1:K.lookup f_1 = some ⟨oc_1,od_1,.func (PySem.W.fnOf "_law_terms" "_law_terms" (defArgs s_l_terms) (defBody s_l_terms) (defScope s_l_terms) .none kV_1 dc_1 pm_1 an_1 cd_1 ct_1),sl_1⟩) (c_1:PySem.W.codeIn K cd_1 "_law_terms" = true) (k_1:PySem.W.keepIn K (.ref f_1) = true)
    (a_2:PySem.W.nsIn K mainGlobals "_law_word" = some (some (.ref f_2))) (l_2:K.lookup f_2 = some ⟨oc_2,od_2,.func (PySem.W.fnOf "_law_word" "_law_word" (defArgs s_l_word) (defBody s_l_word) (defScope s_l_word) .none kV_2 dc_2 pm_2 an_2 cd_2 ct_2),sl_2⟩) (c_2:PySem.W.codeIn K cd_2 "_law_word" = true) (k_2:PySem.W.keepIn K (.ref f_2) = true)
    (a_3:PySem.W.nsIn K mainGlobals "_law_book" = some (some (.ref f_3))) (l_3:K.lookup f_3 = some ⟨oc_3,od_3,.func (PySem.W.fnOf "_law_book" "_law_book" (defArgs s_l_book) (defBody s_l_book) (defScope s_l_book) .none kV_3 dc_3 pm_3 an_3 cd_3 ct_3),sl_3⟩) (c_3:PySem.W.codeIn K cd_3 "_law_book" = true) (k_3:PySem.W.keepIn K (.ref f_3) = true)
    (a_4:PySem.W.nsIn K mainGlobals "_law_cell_at" = some (some (.ref f_4))) (l_4:K.lookup f_4 = some ⟨oc_4,od_4,.func (PySem.W.fnOf "_law_cell_at" "_law_cell_at" (defArgs s_l_cell_at) (defBody s_l_cell_at) (defScope s_l_cell_at) .none kV_4 dc_4 pm_4 an_4 cd_4 ct_4),sl_4⟩) (c_4:PySem.W.codeIn K cd_4 "_law_cell_at" = true) (k_4:PySem.W.keepIn K (.ref f_4) = true)
    (a_5:PySem.W.nsIn K mainGlobals "_law_good_book" = some (some (.ref f_5))) (l_5:K.lookup f_5 = some ⟨oc_5,od_5,.func (PySem.W.fnOf "_law_good_book" "_law_good_book" (defArgs s_l_good_book) (defBody s_l_good_book) (defScope s_l_good_book) .none kV_5 dc_5 pm_5 an_5 cd_5 ct_5),sl_5⟩) (c_5:PySem.W.codeIn K cd_5 "_law_good_book" = true) (k_5:PySem.W.keepIn K (.ref f_5) = true)
    (a_6:PySem.W.nsIn K mainGlobals "_law_long" = some (some (.ref f_6))) (l_6:K.lookup f_6 = some ⟨oc_6,od_6,.func (PySem.W.fnOf "_law_long" "_law_long" (defArgs s_l_long) (defBody s_l_long) (defScope s_l_long) .none kV_6 dc_6 pm_6 an_6 cd_6 ct_6),sl_6⟩) (c_6:PySem.W.codeIn K cd_6 "_law_long" = true) (k_6:PySem.W.keepIn K (.ref f_6) = true)
    (a_7:PySem.W.nsIn K mainGlobals "_law_sign" = some (some (.ref f_7))) (l_7:K.lookup f_7 = some ⟨oc_7,od_7,.func (PySem.W.fnOf "_law_sign" "_law_sign" (defArgs s_l_sign) (defBody s_l_sign) (defScope s_l_sign) .none kV_7 dc_7 pm_7 an_7 cd_7 ct_7),sl_7⟩) (c_7:PySem.W.codeIn K cd_7 "_law_sign" = true) (k_7:PySem.W.keepIn K (.ref f_7) = true)
    (a_8:PySem.W.nsIn K mainGlobals "_law_spoiled" = some (some (.ref f_8))) (l_8:K.lookup f_8 = some ⟨oc_8,od_8,.func (PySem.W.fnOf "_law_spoiled" "_law_spoiled" (defArgs s_l_spoiled) (defBody s_l_spoiled) (defScope s_l_spoiled) .none kV_8 dc_8 pm_8 an_8 cd_8 ct_8),sl_8⟩) (c_8:PySem.W.codeIn K cd_8 "_law_spoiled" = true) (k_8:PySem.W.keepIn K (.ref f_8) = true)
    (y_9:PySem.W.typeIn K (.ref f_9) = some (.type "function"))
    (a_9:PySem.W.findIn K (.ref aNoBook) "__init__" = some (some (.ref f_9))) (l_9:K.lookup f_9 = some ⟨oc_9,od_9,.func (PySem.W.fnOf "__init__" "NoBook.__init__" (defArgs s_NoBook_init) (defBody s_NoBook_init) (defScope s_NoBook_init) .none kV_9 dc_9 pm_9 an_9 cd_9 ct_9),sl_9⟩) (c_9:PySem.W.codeIn K cd_9 "NoBook.__init__" = true) (k_9:PySem.W.keepIn K (.ref f_9) = true)
    (a_10:PySem.W.nsIn K mainGlobals "is_term" = some (some (.ref f_10))) (l_10:K.lookup f_10 = some ⟨oc_10,od_10,.func (PySem.W.fnOf "is_term" "is_term" (defArgs s_is_term) (defBody s_is_term) (defScope s_is_term) .none kV_10 dc_10 pm_10 an_10 cd_10 ct_10),sl_10⟩) (c_10:PySem.W.codeIn K cd_10 "is_term" = true) (k_10:PySem.W.keepIn K (.ref f_10) = true)
    (a_11:PySem.W.nsIn K mainGlobals "is_row_of_terms" = some (some (.ref f_11))) (l_11:K.lookup f_11 = some ⟨oc_11,od_11,.func (PySem.W.fnOf "is_row_of_terms" "is_row_of_terms" (defArgs s_is_row_of_terms) (defBody s_is_row_of_terms) (defScope s_is_row_of_terms) .none kV_11 dc_11 pm_11 an_11 cd_11 ct_11),sl_11⟩) (c_11:PySem.W.codeIn K cd_11 "is_row_of_terms" = true) (k_11:PySem.W.keepIn K (.ref f_11) = true)
    (a_12:PySem.W.nsIn K mainGlobals "is_word" = some (some (.ref f_12))) (l_12:K.lookup f_12 = some ⟨oc_12,od_12,.func (PySem.W.fnOf "is_word" "is_word" (defArgs s_is_word) (defBody s_is_word) (defScope s_is_word) .none kV_12 dc_12 pm_12 an_12 cd_12 ct_12),sl_12⟩) (c_12:PySem.W.codeIn K cd_12 "is_word" = true) (k_12:PySem.W.keepIn K (.ref f_12) = true)
    (a_13:PySem.W.nsIn K mainGlobals "may_follow" = some (some (.ref f_13))) (l_13:K.lookup f_13 = some ⟨oc_13,od_13,.func (PySem.W.fnOf "may_follow" "may_follow" (defArgs s_may_follow) (defBody s_may_follow) (defScope s_may_follow) .none kV_13 dc_13 pm_13 an_13 cd_13 ct_13),sl_13⟩) (c_13:PySem.W.codeIn K cd_13 "may_follow" = true) (k_13:PySem.W.keepIn K (.ref f_13) = true)
    (a_14:PySem.W.nsIn K mainGlobals "look_at" = some (some (.ref f_14))) (l_14:K.lookup f_14 = some ⟨oc_14,od_14,.func (PySem.W.fnOf "look_at" "look_at" (defArgs s_look_at) (defBody s_look_at) (defScope s_look_at) .none kV_14 dc_14 pm_14 an_14 cd_14 ct_14),sl_14⟩) (c_14:PySem.W.codeIn K cd_14 "look_at" = true) (k_14:PySem.W.keepIn K (.ref f_14) = true)
    (a_15:PySem.W.nsIn K mainGlobals "read_book" = some (some (.ref f_15))) (l_15:K.lookup f_15 = some ⟨oc_15,od_15,.func (PySem.W.fnOf "read_book" "read_book" (defArgs s_read_book) (defBody s_read_book) (defScope s_read_book) .none kV_15 dc_15 pm_15 an_15 cd_15 ct_15),sl_15⟩) (c_15:PySem.W.codeIn K cd_15 "read_book" = true) (k_15:PySem.W.keepIn K (.ref f_15) = true)
    (a_16:PySem.W.nsIn K mainGlobals "_law_others" = some (some (.ref f_16))) (l_16:K.lookup f_16 = some ⟨oc_16,od_16,.func (PySem.W.fnOf "_law_others" "_law_others" (defArgs s_l_others) (defBody s_l_others) (defScope s_l_others) .none kV_16 dc_16 pm_16 an_16 cd_16 ct_16),sl_16⟩) (c_16:PySem.W.codeIn K cd_16 "_law_others" = true) (k_16:PySem.W.keepIn K (.ref f_16) = true)
    (a_17:PySem.W.nsIn K mainGlobals "_law_told" = some (some (.ref f_17))) (l_17:K.lookup f_17 = some ⟨oc_17,od_17,.func (PySem.W.fnOf "_law_told" "_law_told" (defArgs s_l_told) (defBody s_l_told) (defScope s_l_told) .none kV_17 dc_17 pm_17 an_17 cd_17 ct_17),sl_17⟩) (c_17:PySem.W.codeIn K cd_17 "_law_told" = true) (k_17:PySem.W.keepIn K (.ref f_17) = true)
    (a_18:PySem.W.nsIn K mainGlobals "_law_made_of" = some (some (.ref f_18))) (l_18:K.lookup f_18 = some ⟨oc_18,od_18,.func (PySem.W.fnOf "_law_made_of" "_law_made_of" (defArgs s_l_made_of) (defBody s_l_made_of) (defScope s_l_made_of) .none kV_18 dc_18 pm_18 an_18 cd_18 ct_18),sl_18⟩) (c_18:PySem.W.codeIn K cd_18 "_law_made_of" = true) (k_18:PySem.W.keepIn K (.ref f_18) = true)
    (a_19:PySem.W.nsIn K mainGlobals "_law_due" = some (some (.ref f_19))) (l_19:K.lookup f_19 = some ⟨oc_19,od_19,.func (PySem.W.fnOf "_law_due" "_law_due" (defArgs s_l_due) (defBody s_l_due) (defScope s_l_due) .none kV_19 dc_19 pm_19 an_19 cd_19 ct_19),sl_19⟩) (c_19:PySem.W.codeIn K cd_19 "_law_due" = true) (k_19:PySem.W.keepIn K (.ref f_19) = true)
    (a_20:PySem.W.nsIn K mainGlobals "_law_rows_spoiled" = some (some (.ref f_20))) (l_20:K.lookup f_20 = some ⟨oc_20,od_20,.func (PySem.W.fnOf "_law_rows_spoiled" "_law_rows_spoiled" (defArgs s_l_rows_spoiled) (defBody s_l_rows_spoiled) (defScope s_l_rows_spoiled) .none kV_20 dc_20 pm_20 an_20 cd_20 ct_20),sl_20⟩) (c_20:PySem.W.codeIn K cd_20 "_law_rows_spoiled" = true) (k_20:PySem.W.keepIn K (.ref f_20) = true)
    (a_21:PySem.W.nsIn K mainGlobals "law" = some (some (.ref f_21))) (l_21:K.lookup f_21 = some ⟨oc_21,od_21,.func (PySem.W.fnOf "law" "law" (defArgs s_law) (defBody s_law) (defScope s_law) .none kV_21 dc_21 pm_21 an_21 cd_21 ct_21),sl_21⟩) (c_21:PySem.W.codeIn K cd_21 "law" = true) (k_21:PySem.W.keepIn K (.ref f_21) = true)
    (z_range:PySem.W.nsIn K mainGlobals "range" = some none)
    (z_len:PySem.W.nsIn K mainGlobals "len" = some none)
    (z_all:PySem.W.nsIn K mainGlobals "all" = some none)
    (z_isinstance:PySem.W.nsIn K mainGlobals "isinstance" = some none)
    (z_ValueError:PySem.W.nsIn K mainGlobals "ValueError" = some none)
    (z_bool:PySem.W.nsIn K mainGlobals "bool" = some none)
    (z_enumerate:PySem.W.nsIn K mainGlobals "enumerate" = some none)
    (g_LONGEST_TERM:PySem.W.nsIn K mainGlobals "LONGEST_TERM" = some (some (.int 10 t_LONGEST_TERM)))
    (g_TERM_LETTERS:PySem.W.nsIn K mainGlobals "TERM_LETTERS" = some (some (.str "abcdefghijklmnopqrstuvwxyz" t_TERM_LETTERS)))
    (g_MOST_PLACES:PySem.W.nsIn K mainGlobals "MOST_PLACES" = some (some (.int 7 t_MOST_PLACES)))
    (g_LETTERS:PySem.W.nsIn K mainGlobals "LETTERS" = some (some (.str "abcdefghijklmnopqrstuvw" t_LETTERS)))
    (g_MOST_TUPLES:PySem.W.nsIn K mainGlobals "MOST_TUPLES" = some (some (.int 60 t_MOST_TUPLES)))
    (g_LONGEST_WORD:PySem.W.nsIn K mainGlobals "LONGEST_WORD" = some (some (.int 6 t_LONGEST_WORD)))
    (g_MOST_TERMS_MEANT:PySem.W.nsIn K mainGlobals "MOST_TERMS_MEANT" = some (some (.int 5 t_MOST_TERMS_MEANT)))
    (q_NoBook:PySem.W.nsIn K mainGlobals "NoBook" = some (some (.ref aNoBook)))
    (q_NoText:PySem.W.nsIn K mainGlobals "NoText" = some (some (.ref aNoText)))
    (q_TowerError:PySem.W.nsIn K mainGlobals "TowerError" = some (some (.ref aTowerError)))
    (q_NoHoist:PySem.W.nsIn K mainGlobals "NoHoist" = some (some (.ref aNoHoist)))
    (q_Short:PySem.W.nsIn K mainGlobals "Short" = some (some (.ref aShort)))
    (q_Lack:PySem.W.nsIn K mainGlobals "Lack" = some (some (.ref aLack)))
    (q_NoCut:PySem.W.nsIn K mainGlobals "NoCut" = some (some (.ref aNoCut)))
    (q_NoWord:PySem.W.nsIn K mainGlobals "NoWord" = some (some (.ref aNoWord)))
    (q_NoHalyard:PySem.W.nsIn K mainGlobals "NoHalyard" = some (some (.ref aNoHalyard)))
    (q_NoFlag:PySem.W.nsIn K mainGlobals "NoFlag" = some (some (.ref aNoFlag)))
    (q_NoDeed:PySem.W.nsIn K mainGlobals "NoDeed" = some (some (.ref aNoDeed)))
    (q_NoRow:PySem.W.nsIn K mainGlobals "NoRow" = some (some (.ref aNoRow)))
    (f_m_NoText:PySem.W.exmOne K (.ref aNoText) (.ref aNoText) = some true)
    (f_m_Other:PySem.W.exmOne K (.ref aNoBook) (.ref aNoText) = some false)
    (f_m_NoBook:PySem.W.exmOne K (.ref aNoBook) (.ref aNoBook) = some true)
    (f_x_NoText:PySem.W.excIn K aNoText [.type "ValueError",.type "Exception",.type "BaseException",.type "object"] "ValueError.__new__" = true)
    (f_e_1:PySem.W.hasDictIn K aNoText = true)
    (f_e_2:PySem.W.findIn K (.ref aNoText) "__getattribute__" = some (some (.builtin "BaseException.__getattribute__")))
    (f_e_3:PySem.W.findIn K (.ref aNoText) "__getattr__" = some none)
    (f_e_4:PySem.W.findIn K (.ref aNoText) "__class__" = some (some (.builtin "object.__class__")))
    (f_e_5:PySem.W.specialIn K (.builtin "object.__class__") "__get__" = some (some (.builtin "getset_descriptor.__get__")))
    (f_e_6:PySem.W.takesIn K (.builtin "object.__class__") = some true)
    (f_e_7:PySem.W.mroIn K aNoText (.type "object") = some true)
    (f_e_8:PySem.W.subIn K (.ref aNoText) (.type "BaseException") = some true)
    (f_t_1:PySem.W.kitOne K (.ref aNoText) (.ref aNoHoist) = some false)
    (f_t_2:PySem.W.kitOne K (.ref aNoText) (.ref aShort) = some false)
    (f_t_3:PySem.W.kitOne K (.ref aNoText) (.ref aLack) = some false)
    (f_t_4:PySem.W.kitOne K (.ref aNoText) (.ref aNoCut) = some false)
    (f_t_5:PySem.W.kitOne K (.ref aNoText) (.ref aNoWord) = some false)
    (f_t_6:PySem.W.kitOne K (.ref aNoText) (.ref aNoHalyard) = some false)
    (f_t_7:PySem.W.kitOne K (.ref aNoText) (.ref aNoFlag) = some false)
    (f_t_8:PySem.W.kitOne K (.ref aNoText) (.ref aNoDeed) = some false)
    (f_t_9:PySem.W.kitOne K (.ref aNoText) (.ref aNoRow) = some false)
    (f_t_10:PySem.W.kitOne K (.ref aNoText) (.ref aTowerError) = some true)
    (f_t_11:PySem.W.kitOne K (.ref aNoText) (.type "ValueError") = some true)
    (f_t_12:PySem.W.kitOne K (.ref aNoText) (.ref aNoBook) = some false)
    (f_i_1:PySem.W.kitOne K (.ref aNoBook) (.ref aNoHoist) = some false)
    (f_i_2:PySem.W.kitOne K (.ref aNoBook) (.ref aShort) = some false)
    (f_i_3:PySem.W.kitOne K (.ref aNoBook) (.ref aLack) = some false)
    (f_i_4:PySem.W.kitOne K (.ref aNoBook) (.ref aNoCut) = some false)
    (f_i_5:PySem.W.kitOne K (.ref aNoBook) (.ref aNoWord) = some false)
    (f_i_6:PySem.W.kitOne K (.ref aNoBook) (.ref aNoHalyard) = some false)
    (f_i_7:PySem.W.kitOne K (.ref aNoBook) (.ref aNoFlag) = some false)
    (f_i_8:PySem.W.kitOne K (.ref aNoBook) (.ref aNoDeed) = some false)
    (f_i_9:PySem.W.kitOne K (.ref aNoBook) (.ref aNoRow) = some false)
    (f_i_10:PySem.W.kitOne K (.ref aNoBook) (.ref aTowerError) = some true)
    (f_i_11:PySem.W.kitOne K (.ref aNoBook) (.type "ValueError") = some true)
    (f_i_12:PySem.W.kitOne K (.ref aNoBook) (.ref aNoText) = some false)
    (f_t1_TowerError:PySem.W.specialIn K (.ref aTowerError) "__getattribute__" = some (some (.builtin "type.__getattribute__")))
    (f_t2_TowerError:PySem.W.readsIn K aTowerError (.type "type") = true)
    (f_t3_TowerError:PySem.W.findCls K (.ref aTowerError) (.type "type") "__init__" = some (.val (.builtin "ValueError.__init__")))
    (f_xo_NoBook:excJ K aNoBook [.type "ValueError",.type "Exception",.type "BaseException",.type "object"] "ValueError.__new__" = true)
    (f_xk_NoBook:PySem.W.keepIn K (.ref aNoBook) = true)
    (f_xe1_NoBook:PySem.W.hasDictIn K aNoBook = true)
    (f_xe2_NoBook:PySem.W.findIn K (.ref aNoBook) "__getattribute__" = some (some (.builtin "BaseException.__getattribute__")))
    (f_xe3_NoBook:PySem.W.findIn K (.ref aNoBook) "__getattr__" = some none)
    (f_xe4_NoBook:PySem.W.findIn K (.ref aNoBook) "__class__" = some (some (.builtin "object.__class__")))
    (f_xe5_NoBook:PySem.W.specialIn K (.builtin "object.__class__") "__get__" = some (some (.builtin "getset_descriptor.__get__")))
    (f_xe6_NoBook:PySem.W.takesIn K (.builtin "object.__class__") = some true)
    (f_xe7_NoBook:PySem.W.mroIn K aNoBook (.type "object") = some true)
    (f_xe8_NoBook:PySem.W.subIn K (.ref aNoBook) (.type "BaseException") = some true)
    (f_xs_NoBook:PySem.W.findIn K (.ref aNoBook) "__setattr__" = some (some (.builtin "object.__setattr__")))
    (f_xr_NoBook:mroB K aNoBook aTowerError = true)
    (f_xv_NoBook:PySem.W.subIn K (.ref aNoBook) (.type "ValueError") = some true)
    (f_xn_NoBook_at:PySem.W.findIn K (.ref aNoBook) "at" = some none)
    : ∃ fd:FuncData,(∀ (s:Shared) (v:Value),BindsTo s fd ⟨[v],[]⟩ [("_law_script",v)]) ∧ ∀ base:Heap,K.In base → base.Ns mainGlobals mg → FnOk l.prog w K mg base CX0 7 fa fd ["_law_script"] (sp_law K):=by
  have e:=hfa.symm.trans (PySem.W.mg_of X Gn a_21)
  cases e
  have G:Gs K mg aNoBook aNoText aTowerError aNoHoist aShort aLack aNoCut aNoWord aNoHalyard aNoFlag aNoDeed aNoRow:=⟨PySem.W.mg_of X Gn q_NoBook,PySem.W.mg_of X Gn q_NoText,PySem.W.mg_of X Gn q_TowerError,PySem.W.mg_of X Gn q_NoHoist,PySem.W.mg_of X Gn q_Short,PySem.W.mg_of X Gn q_Lack,PySem.W.mg_of X Gn q_NoCut,PySem.W.mg_of X Gn q_NoWord,PySem.W.mg_of X Gn q_NoHalyard,PySem.W.mg_of X Gn q_NoFlag,PySem.W.mg_of X Gn q_NoDeed,PySem.W.mg_of X Gn q_NoRow,f_m_NoText,f_m_Other,f_m_NoBook,f_x_NoText,f_e_1,f_e_2,f_e_3,f_e_4,f_e_5,f_e_6,f_e_7,f_e_8,f_t_1,f_t_2,f_t_3,f_t_4,f_t_5,f_t_6,f_t_7,f_t_8,f_t_9,f_t_10,f_t_11,f_t_12,f_i_1,f_i_2,f_i_3,f_i_4,f_i_5,f_i_6,f_i_7,f_i_8,f_i_9,f_i_10,f_i_11,f_i_12,f_t1_TowerError,f_t2_TowerError,f_t3_TowerError,f_xo_NoBook,f_xk_NoBook,f_xe1_NoBook,f_xe2_NoBook,f_xe3_NoBook,f_xe4_NoBook,f_xe5_NoBook,f_xe6_NoBook,f_xe7_NoBook,f_xe8_NoBook,f_xs_NoBook,f_xr_NoBook,f_xv_NoBook,f_xn_NoBook_at,PySem.W.mg_none_of X Gn z_range,PySem.W.mg_none_of X Gn z_len,PySem.W.mg_none_of X Gn z_all,PySem.W.mg_none_of X Gn z_isinstance,PySem.W.mg_none_of X Gn z_ValueError,PySem.W.mg_none_of X Gn z_bool,PySem.W.mg_none_of X Gn z_enumerate,⟨_,PySem.W.mg_of X Gn g_LONGEST_TERM⟩,⟨_,PySem.W.mg_of X Gn g_TERM_LETTERS⟩,⟨_,PySem.W.mg_of X Gn g_MOST_PLACES⟩,⟨_,PySem.W.mg_of X Gn g_LETTERS⟩,⟨_,PySem.W.mg_of X Gn g_MOST_TUPLES⟩,⟨_,PySem.W.mg_of X Gn g_LONGEST_WORD⟩,⟨_,PySem.W.mg_of X Gn g_MOST_TERMS_MEANT⟩⟩
  have F_0:=fun_mk (st:=s_l_mixed) l_0 c_0 k_0
  have b_0:=F_0.binds (ps:=["_law_cell", "_law_k"]) fun a1 a2 a3 a4 a5 a6 us hl => lenE2 (C:=fun us => bindArgs (PySem.W.fnOf "_law_mixed" "_law_mixed" (defArgs s_l_mixed) (defBody s_l_mixed) (defScope s_l_mixed) .none a1 a2 a3 a4 a5 a6) ⟨us,[]⟩ = (pure (List.zip ["_law_cell", "_law_k"] us):Sem (List (Str × Value)))) hl fun _ _ => rfl
  have F_1:=fun_mk (st:=s_l_terms) l_1 c_1 k_1
  have b_1:=F_1.binds (ps:=["_law_cell"]) fun a1 a2 a3 a4 a5 a6 us hl => lenE1 (C:=fun us => bindArgs (PySem.W.fnOf "_law_terms" "_law_terms" (defArgs s_l_terms) (defBody s_l_terms) (defScope s_l_terms) .none a1 a2 a3 a4 a5 a6) ⟨us,[]⟩ = (pure (List.zip ["_law_cell"] us):Sem (List (Str × Value)))) hl fun _ => rfl
  have F_2:=fun_mk (st:=s_l_word) l_2 c_2 k_2
  have b_2:=F_2.binds (ps:=["_law_cell", "_law_k"]) fun a1 a2 a3 a4 a5 a6 us hl => lenE2 (C:=fun us => bindArgs (PySem.W.fnOf "_law_word" "_law_word" (defArgs s_l_word) (defBody s_l_word) (defScope s_l_word) .none a1 a2 a3 a4 a5 a6) ⟨us,[]⟩ = (pure (List.zip ["_law_cell", "_law_k"] us):Sem (List (Str × Value)))) hl fun _ _ => rfl
  have F_3:=fun_mk (st:=s_l_book) l_3 c_3 k_3
  have b_3:=F_3.binds (ps:=["_law_cells", "_law_terms_here", "_law_cell"]) fun a1 a2 a3 a4 a5 a6 us hl => lenE3 (C:=fun us => bindArgs (PySem.W.fnOf "_law_book" "_law_book" (defArgs s_l_book) (defBody s_l_book) (defScope s_l_book) .none a1 a2 a3 a4 a5 a6) ⟨us,[]⟩ = (pure (List.zip ["_law_cells", "_law_terms_here", "_law_cell"] us):Sem (List (Str × Value)))) hl fun _ _ _ => rfl
  have F_4:=fun_mk (st:=s_l_cell_at) l_4 c_4 k_4
  have b_4:=F_4.binds (ps:=["_law_script", "_law_k"]) fun a1 a2 a3 a4 a5 a6 us hl => lenE2 (C:=fun us => bindArgs (PySem.W.fnOf "_law_cell_at" "_law_cell_at" (defArgs s_l_cell_at) (defBody s_l_cell_at) (defScope s_l_cell_at) .none a1 a2 a3 a4 a5 a6) ⟨us,[]⟩ = (pure (List.zip ["_law_script", "_law_k"] us):Sem (List (Str × Value)))) hl fun _ _ => rfl
  have F_5:=fun_mk (st:=s_l_good_book) l_5 c_5 k_5
  have b_5:=F_5.binds (ps:=["_law_script"]) fun a1 a2 a3 a4 a5 a6 us hl => lenE1 (C:=fun us => bindArgs (PySem.W.fnOf "_law_good_book" "_law_good_book" (defArgs s_l_good_book) (defBody s_l_good_book) (defScope s_l_good_book) .none a1 a2 a3 a4 a5 a6) ⟨us,[]⟩ = (pure (List.zip ["_law_script"] us):Sem (List (Str × Value)))) hl fun _ => rfl
  have F_6:=fun_mk (st:=s_l_long) l_6 c_6 k_6
  have b_6:=F_6.binds (ps:=["_law_many"]) fun a1 a2 a3 a4 a5 a6 us hl => lenE1 (C:=fun us => bindArgs (PySem.W.fnOf "_law_long" "_law_long" (defArgs s_l_long) (defBody s_l_long) (defScope s_l_long) .none a1 a2 a3 a4 a5 a6) ⟨us,[]⟩ = (pure (List.zip ["_law_many"] us):Sem (List (Str × Value)))) hl fun _ => rfl
  have F_7:=fun_mk (st:=s_l_sign) l_7 c_7 k_7
  have b_7:=F_7.binds (ps:=["_law_cell", "_law_menu"]) fun a1 a2 a3 a4 a5 a6 us hl => lenE2 (C:=fun us => bindArgs (PySem.W.fnOf "_law_sign" "_law_sign" (defArgs s_l_sign) (defBody s_l_sign) (defScope s_l_sign) .none a1 a2 a3 a4 a5 a6) ⟨us,[]⟩ = (pure (List.zip ["_law_cell", "_law_menu"] us):Sem (List (Str × Value)))) hl fun _ _ => rfl
  have F_8:=fun_mk (st:=s_l_spoiled) l_8 c_8 k_8
  have b_8:=F_8.binds (ps:=["_law_text", "_law_number", "_law_sign_here"]) fun a1 a2 a3 a4 a5 a6 us hl => lenE3 (C:=fun us => bindArgs (PySem.W.fnOf "_law_spoiled" "_law_spoiled" (defArgs s_l_spoiled) (defBody s_l_spoiled) (defScope s_l_spoiled) .none a1 a2 a3 a4 a5 a6) ⟨us,[]⟩ = (pure (List.zip ["_law_text", "_law_number", "_law_sign_here"] us):Sem (List (Str × Value)))) hl fun _ _ _ => rfl
  have F_9:=fun_mk (st:=s_NoBook_init) l_9 c_9 k_9
  have b_9:=F_9.binds (ps:=["self", "at"]) fun a1 a2 a3 a4 a5 a6 us hl => lenE2 (C:=fun us => bindArgs (PySem.W.fnOf "__init__" "NoBook.__init__" (defArgs s_NoBook_init) (defBody s_NoBook_init) (defScope s_NoBook_init) .none a1 a2 a3 a4 a5 a6) ⟨us,[]⟩ = (pure (List.zip ["self", "at"] us):Sem (List (Str × Value)))) hl fun _ _ => rfl
  have F_10:=fun_mk (st:=s_is_term) l_10 c_10 k_10
  have b_10:=F_10.binds (ps:=["text"]) fun a1 a2 a3 a4 a5 a6 us hl => lenE1 (C:=fun us => bindArgs (PySem.W.fnOf "is_term" "is_term" (defArgs s_is_term) (defBody s_is_term) (defScope s_is_term) .none a1 a2 a3 a4 a5 a6) ⟨us,[]⟩ = (pure (List.zip ["text"] us):Sem (List (Str × Value)))) hl fun _ => rfl
  have F_11:=fun_mk (st:=s_is_row_of_terms) l_11 c_11 k_11
  have b_11:=F_11.binds (ps:=["text", "most"]) fun a1 a2 a3 a4 a5 a6 us hl => lenE2 (C:=fun us => bindArgs (PySem.W.fnOf "is_row_of_terms" "is_row_of_terms" (defArgs s_is_row_of_terms) (defBody s_is_row_of_terms) (defScope s_is_row_of_terms) .none a1 a2 a3 a4 a5 a6) ⟨us,[]⟩ = (pure (List.zip ["text", "most"] us):Sem (List (Str × Value)))) hl fun _ _ => rfl
  have F_12:=fun_mk (st:=s_is_word) l_12 c_12 k_12
  have b_12:=F_12.binds (ps:=["text"]) fun a1 a2 a3 a4 a5 a6 us hl => lenE1 (C:=fun us => bindArgs (PySem.W.fnOf "is_word" "is_word" (defArgs s_is_word) (defBody s_is_word) (defScope s_is_word) .none a1 a2 a3 a4 a5 a6) ⟨us,[]⟩ = (pure (List.zip ["text"] us):Sem (List (Str × Value)))) hl fun _ => rfl
  have F_13:=fun_mk (st:=s_may_follow) l_13 c_13 k_13
  have b_13:=F_13.binds (ps:=["book", "at"]) fun a1 a2 a3 a4 a5 a6 us hl => lenE2 (C:=fun us => bindArgs (PySem.W.fnOf "may_follow" "may_follow" (defArgs s_may_follow) (defBody s_may_follow) (defScope s_may_follow) .none a1 a2 a3 a4 a5 a6) ⟨us,[]⟩ = (pure (List.zip ["book", "at"] us):Sem (List (Str × Value)))) hl fun _ _ => rfl
  have F_14:=fun_mk (st:=s_look_at) l_14 c_14 k_14
  have b_14:=F_14.binds (ps:=["book"]) fun a1 a2 a3 a4 a5 a6 us hl => lenE1 (C:=fun us => bindArgs (PySem.W.fnOf "look_at" "look_at" (defArgs s_look_at) (defBody s_look_at) (defScope s_look_at) .none a1 a2 a3 a4 a5 a6) ⟨us,[]⟩ = (pure (List.zip ["book"] us):Sem (List (Str × Value)))) hl fun _ => rfl
  have F_15:=fun_mk (st:=s_read_book) l_15 c_15 k_15
  have b_15:=F_15.binds (ps:=["text"]) fun a1 a2 a3 a4 a5 a6 us hl => lenE1 (C:=fun us => bindArgs (PySem.W.fnOf "read_book" "read_book" (defArgs s_read_book) (defBody s_read_book) (defScope s_read_book) .none a1 a2 a3 a4 a5 a6) ⟨us,[]⟩ = (pure (List.zip ["text"] us):Sem (List (Str × Value)))) hl fun _ => rfl
  have F_16:=fun_mk (st:=s_l_others) l_16 c_16 k_16
  have b_16:=F_16.binds (ps:=["_law_e"]) fun a1 a2 a3 a4 a5 a6 us hl => lenE1 (C:=fun us => bindArgs (PySem.W.fnOf "_law_others" "_law_others" (defArgs s_l_others) (defBody s_l_others) (defScope s_l_others) .none a1 a2 a3 a4 a5 a6) ⟨us,[]⟩ = (pure (List.zip ["_law_e"] us):Sem (List (Str × Value)))) hl fun _ => rfl
  have F_17:=fun_mk (st:=s_l_told) l_17 c_17 k_17
  have b_17:=F_17.binds (ps:=["_law_text"]) fun a1 a2 a3 a4 a5 a6 us hl => lenE1 (C:=fun us => bindArgs (PySem.W.fnOf "_law_told" "_law_told" (defArgs s_l_told) (defBody s_l_told) (defScope s_l_told) .none a1 a2 a3 a4 a5 a6) ⟨us,[]⟩ = (pure (List.zip ["_law_text"] us):Sem (List (Str × Value)))) hl fun _ => rfl
  have F_18:=fun_mk (st:=s_l_made_of) l_18 c_18 k_18
  have b_18:=F_18.binds (ps:=["_law_text", "_law_signs", "_law_most"]) fun a1 a2 a3 a4 a5 a6 us hl => lenE3 (C:=fun us => bindArgs (PySem.W.fnOf "_law_made_of" "_law_made_of" (defArgs s_l_made_of) (defBody s_l_made_of) (defScope s_l_made_of) .none a1 a2 a3 a4 a5 a6) ⟨us,[]⟩ = (pure (List.zip ["_law_text", "_law_signs", "_law_most"] us):Sem (List (Str × Value)))) hl fun _ _ _ => rfl
  have F_19:=fun_mk (st:=s_l_due) l_19 c_19 k_19
  have b_19:=F_19.binds (ps:=["_law_text"]) fun a1 a2 a3 a4 a5 a6 us hl => lenE1 (C:=fun us => bindArgs (PySem.W.fnOf "_law_due" "_law_due" (defArgs s_l_due) (defBody s_l_due) (defScope s_l_due) .none a1 a2 a3 a4 a5 a6) ⟨us,[]⟩ = (pure (List.zip ["_law_text"] us):Sem (List (Str × Value)))) hl fun _ => rfl
  have F_20:=fun_mk (st:=s_l_rows_spoiled) l_20 c_20 k_20
  have b_20:=F_20.binds (ps:=["_law_text", "_law_number"]) fun a1 a2 a3 a4 a5 a6 us hl => lenE2 (C:=fun us => bindArgs (PySem.W.fnOf "_law_rows_spoiled" "_law_rows_spoiled" (defArgs s_l_rows_spoiled) (defBody s_l_rows_spoiled) (defScope s_l_rows_spoiled) .none a1 a2 a3 a4 a5 a6) ⟨us,[]⟩ = (pure (List.zip ["_law_text", "_law_number"] us):Sem (List (Str × Value)))) hl fun _ _ => rfl
  have F_21:=fun_mk (st:=s_law) l_21 c_21 k_21
  refine ⟨PySem.W.fnOf "law" "law" (defArgs s_law) (defBody s_law) (defScope s_law) .none kV_21 dc_21 pm_21 an_21 cd_21 ct_21,fun s v => .of_eq rfl,fun base _ _ => ?_⟩
  have c_l_mixed:Cal l.prog w K mg base 1 "_law_mixed" ["_law_cell", "_law_k"] sp_l_mixed:=⟨f_0,_,ok_l_mixed F_0 G ,PySem.W.mg_of X Gn a_0,k_0,b_0⟩
  have c_l_terms:Cal l.prog w K mg base 1 "_law_terms" ["_law_cell"] sp_l_terms:=⟨f_1,_,ok_l_terms F_1 G ,PySem.W.mg_of X Gn a_1,k_1,b_1⟩
  have c_l_word:Cal l.prog w K mg base 1 "_law_word" ["_law_cell", "_law_k"] sp_l_word:=⟨f_2,_,ok_l_word F_2 G ,PySem.W.mg_of X Gn a_2,k_2,b_2⟩
  have c_l_book:Cal l.prog w K mg base 2 "_law_book" ["_law_cells", "_law_terms_here", "_law_cell"] sp_l_book:=⟨f_3,_,ok_l_book F_3 G c_l_mixed c_l_word,PySem.W.mg_of X Gn a_3,k_3,b_3⟩
  have c_l_cell_at:Cal l.prog w K mg base 1 "_law_cell_at" ["_law_script", "_law_k"] (sp_l_cell_at K):=⟨f_4,_,ok_l_cell_at F_4 G ,PySem.W.mg_of X Gn a_4,k_4,b_4⟩
  have c_l_good_book:Cal l.prog w K mg base 3 "_law_good_book" ["_law_script"] (sp_l_good_book K):=⟨f_5,_,ok_l_good_book F_5 G c_l_mixed c_l_terms c_l_book c_l_cell_at,PySem.W.mg_of X Gn a_5,k_5,b_5⟩
  have c_l_long:Cal l.prog w K mg base 1 "_law_long" ["_law_many"] sp_l_long:=⟨f_6,_,ok_l_long F_6 G ,PySem.W.mg_of X Gn a_6,k_6,b_6⟩
  have c_l_sign:Cal l.prog w K mg base 1 "_law_sign" ["_law_cell", "_law_menu"] sp_l_sign:=⟨f_7,_,ok_l_sign F_7 G ,PySem.W.mg_of X Gn a_7,k_7,b_7⟩
  have c_l_spoiled:Cal l.prog w K mg base 1 "_law_spoiled" ["_law_text", "_law_number", "_law_sign_here"] sp_l_spoiled:=⟨f_8,_,ok_l_spoiled F_8 G ,PySem.W.mg_of X Gn a_8,k_8,b_8⟩
  have c_NoBook_init:CalI l.prog w K mg base 1 aNoBook ["self", "at"] (sp_NoBook_init aNoBook):=⟨f_9,_,ok_NoBook_init F_9 G ,a_9,y_9,b_9⟩
  have c_is_term:Cal l.prog w K mg base 1 "is_term" ["text"] sp_is_term:=⟨f_10,_,ok_is_term F_10 G ,PySem.W.mg_of X Gn a_10,k_10,b_10⟩
  have c_is_row_of_terms:Cal l.prog w K mg base 2 "is_row_of_terms" ["text", "most"] sp_is_row_of_terms:=⟨f_11,_,ok_is_row_of_terms F_11 G c_is_term,PySem.W.mg_of X Gn a_11,k_11,b_11⟩
  have c_is_word:Cal l.prog w K mg base 1 "is_word" ["text"] sp_is_word:=⟨f_12,_,ok_is_word F_12 G ,PySem.W.mg_of X Gn a_12,k_12,b_12⟩
  have c_may_follow:Cal l.prog w K mg base 3 "may_follow" ["book", "at"] sp_may_follow:=⟨f_13,_,ok_may_follow F_13 G c_is_row_of_terms c_is_word,PySem.W.mg_of X Gn a_13,k_13,b_13⟩
  have c_look_at:CalX l.prog w K mg base 4 "look_at" ["book"] (sp_look_at aNoBook):=⟨f_14,_,ok_look_at F_14 G c_NoBook_init c_may_follow,PySem.W.mg_of X Gn a_14,k_14,b_14⟩
  have c_read_book:CalX l.prog w K mg base 5 "read_book" ["text"] (sp_read_book aNoText aNoBook):=⟨f_15,_,ok_read_book F_15 G c_look_at,PySem.W.mg_of X Gn a_15,k_15,b_15⟩
  have c_l_others:CalM l.prog w K mg base 1 "_law_others" ["_law_e"] (sp_l_others aNoText aNoBook):=⟨f_16,_,ok_l_others F_16 G ,PySem.W.mg_of X Gn a_16,k_16,b_16⟩
  have c_l_told:Cal l.prog w K mg base 6 "_law_told" ["_law_text"] sp_l_told:=⟨f_17,_,ok_l_told F_17 G c_read_book c_l_others,PySem.W.mg_of X Gn a_17,k_17,b_17⟩
  have c_l_made_of:Cal l.prog w K mg base 1 "_law_made_of" ["_law_text", "_law_signs", "_law_most"] sp_l_made_of:=⟨f_18,_,ok_l_made_of F_18 G ,PySem.W.mg_of X Gn a_18,k_18,b_18⟩
  have c_l_due:Cal l.prog w K mg base 2 "_law_due" ["_law_text"] sp_l_due:=⟨f_19,_,ok_l_due F_19 G c_l_made_of,PySem.W.mg_of X Gn a_19,k_19,b_19⟩
  have c_l_rows_spoiled:Cal l.prog w K mg base 1 "_law_rows_spoiled" ["_law_text", "_law_number"] sp_l_rows_spoiled:=⟨f_20,_,ok_l_rows_spoiled F_20 G ,PySem.W.mg_of X Gn a_20,k_20,b_20⟩
  exact ok_law F_21 G c_l_good_book c_l_long c_l_mixed c_l_sign c_l_spoiled c_l_told c_l_due c_l_rows_spoiled c_l_cell_at
theorem walk {l:PySem.W.OpenLaw} {q:Program} {loose:List Str} {XP:(Str → Option Value) → Heap → Prop} {YP:World → Heap → Prop} {d:DefRec} {K:Params → PySem.W.Frag} (hn:l.most = some 63) (hdf:d.params.defaults = [])
    (hY:∀ (w:World) (h:Heap),YP w h → (K w.params).In h)
    (F:∀ (w:World) (mg:Str → Option Value) (fa:Addr) (h:Heap),(K w.params).In h → h.Ns mainGlobals mg → mg d.name = some (.ref fa) →
      ∃ fd:FuncData,(∀ (s:Shared) (u:Value),BindsTo s fd ⟨[u],[]⟩ [("_law_script",u)]) ∧ ∀ base:Heap,(K w.params).In base → base.Ns mainGlobals mg → FnOk l.prog w (K w.params) mg base CX0 7 fa fd ["_law_script"] (sp_law (K w.params))) :
    PySem.W.WalkO q loose XP YP l.row.toRowW d [] (fun f vs => PySem.call f vs) :=
  L2.walk_of (n:=63) (k:=7) (x := "_law_script") (CX:=fun _ => CX0) (sp:=fun w => sp_law (K w.params)) hn (by decide) hdf ⟨rfl,by decide,by decide⟩ hY F (fun _ _ a ns hl _ hS => ⟨a,ns,rfl,hS,hl,fun _ => rfl⟩) fun _ _ _ _ _ z => z
end Mine
namespace PySem.W.Fast
theorem tw6345944838585887793:True:=⟨⟩
theorem tw16731260111465553324:True:=⟨⟩
theorem tw1558199218937579874:True:=⟨⟩
theorem tw13748234072325728837:True:=⟨⟩
theorem tw14090054014175486219:True:=⟨⟩
theorem tw14254796305443499384:True:=⟨⟩
theorem tw11090218158960496774:True:=⟨⟩
theorem tw13356758518440720650:True:=⟨⟩
theorem tw15400110812436655441:True:=⟨⟩
theorem tw13730122102605856481:True:=⟨⟩
theorem tw4103839084046583910:True:=⟨⟩
theorem tw7993598848905349090:True:=⟨⟩
theorem tw6638043574759100583:True:=⟨⟩
theorem tw9653332408175632359:True:=⟨⟩
theorem tw8990105091555786319:True:=⟨⟩
theorem tw18361241372124674555:True:=⟨⟩
theorem tw9267769590339523645:True:=⟨⟩
theorem tw7232393285041782877:True:=⟨⟩
theorem tw4272645134404822251:True:=⟨⟩
theorem tw884343815886988107:True:=⟨⟩
theorem tw231001069097547255:True:=⟨⟩
theorem tw5160339992888879277:True:=⟨⟩
theorem tw9336751249928914371:True:=⟨⟩
theorem tw15682116336075755674:True:=⟨⟩
theorem tw8524924047877644057:True:=⟨⟩
theorem tw12784301566229472912:True:=⟨⟩
theorem tw18367617989029932739:True:=⟨⟩
theorem tw14593305278676150634:True:=⟨⟩
theorem tw3749272008714711103:True:=⟨⟩
theorem tw15258200556536990884:True:=⟨⟩
theorem tw6585443072049926208:True:=⟨⟩
theorem tw232356240640247073:True:=⟨⟩
theorem tw1143755596065864675:True:=⟨⟩
theorem tw2856383039889791306:True:=⟨⟩
theorem tw5721671638887874983:True:=⟨⟩
theorem tw16222681120240052856:True:=⟨⟩
theorem tw3528731445991913952:True:=⟨⟩
theorem tw14888448802727550953:True:=⟨⟩
theorem tw1801370636057566041:True:=⟨⟩
theorem tw2428669008491187755:True:=⟨⟩
theorem tw3871594635174351314:True:=⟨⟩
theorem tw10746714752295730172:True:=⟨⟩
theorem tw14294432944354788730:True:=⟨⟩
theorem tw16649598449160407687:True:=⟨⟩
theorem tw1590552479644955805:True:=⟨⟩
theorem tw2075067078288836892:True:=⟨⟩
theorem tw12522452832415343525:True:=⟨⟩
theorem tw429300873415056235:True:=⟨⟩
theorem tw17933815436129132731:True:=⟨⟩
theorem tw1327052389792537779:True:=⟨⟩
theorem tw12846065097221269420:True:=⟨⟩
theorem tw2951547337172511754:True:=⟨⟩
theorem tw11806344642631101693:True:=⟨⟩
theorem tw12807590158936866950:True:=⟨⟩
theorem tw13622136460294072767:True:=⟨⟩
theorem tw4850158156411529933:True:=⟨⟩
theorem tw1327469902092389534:True:=⟨⟩
theorem tw7684615786159765642:True:=⟨⟩
theorem tw7682258070799840284:True:=⟨⟩
theorem tw9598465707335140395:True:=⟨⟩
theorem tw3632071374946135551:True:=⟨⟩
theorem tw5660645527413208364:True:=⟨⟩
theorem tw7703621254895903272:True:=⟨⟩
theorem tw7371554467843578054:True:=⟨⟩
theorem tw10879530018762828076:True:=⟨⟩
theorem tw5594401975535393313:True:=⟨⟩
theorem tw1444124911061489656:True:=⟨⟩
theorem tw128866605012642310:True:=⟨⟩
theorem tw2326996395169460026:True:=⟨⟩
theorem tw9842472491160299687:True:=⟨⟩
theorem tw4644286909312313033:True:=⟨⟩
theorem tw6163284424017140776:True:=⟨⟩
theorem tw7138303163699884593:True:=⟨⟩
theorem tw13039441247488476104:True:=⟨⟩
theorem tw18194288394878533889:True:=⟨⟩
theorem tw13918345918713823979:True:=⟨⟩
theorem tw8336376497926034883:True:=⟨⟩
theorem tw15039535601536720229:True:=⟨⟩
theorem tw6859808776807434069:True:=⟨⟩
theorem tw16911577402720140176:True:=⟨⟩
theorem tw750891064683754466:True:=⟨⟩
theorem tw11914849407393834725:True:=⟨⟩
theorem tw8145059305049241324:True:=⟨⟩
theorem tw82844230119062968:True:=⟨⟩
theorem tw7952899316986791239:True:=⟨⟩
theorem tw6277053089900514121:True:=⟨⟩
theorem tw16789082884246735640:True:=⟨⟩
theorem tw5414301273391647341:True:=⟨⟩
theorem tw10118240315983411268:True:=⟨⟩
theorem tw11897756119547708958:True:=⟨⟩
theorem tw7380901139823369164:True:=⟨⟩
theorem tw3906405907133060250:True:=⟨⟩
theorem tw11905261437077544334:True:=⟨⟩
theorem tw15549649522679223798:True:=⟨⟩
theorem tw9324201241946750589:True:=⟨⟩
theorem tw16948158705254587357:True:=⟨⟩
theorem tw114902768280016274:True:=⟨⟩
theorem tw9421971086795069847:True:=⟨⟩
theorem tw12313264082880032719:True:=⟨⟩
theorem tw17764089456458372478:True:=⟨⟩
theorem tw6542083283333782553:True:=⟨⟩
theorem tw3634631519080216637:True:=⟨⟩
theorem tw17960972249057559551:True:=⟨⟩
theorem tw12458840319942708677:True:=⟨⟩
theorem tw16473667753377088666:True:=⟨⟩
theorem tw7902247868032603894:True:=⟨⟩
theorem tw2044818686806922889:True:=⟨⟩
theorem tw8571886518090450590:True:=⟨⟩
theorem tw4427455814802265530:True:=⟨⟩
theorem tw4465373274687739142:True:=⟨⟩
theorem tw5803625466947383247:True:=⟨⟩
theorem tw13387168119225426480:True:=⟨⟩
theorem tw9759049962631048108:True:=⟨⟩
theorem tw16495723144154282282:True:=⟨⟩
theorem tw14850943424104179888:True:=⟨⟩
theorem tw17907415256908545903:True:=⟨⟩
theorem tw4561796723761132124:True:=⟨⟩
theorem tw6069569475103661629:True:=⟨⟩
theorem tw12546528547471656512:True:=⟨⟩
theorem tw8566166066679801172:True:=⟨⟩
theorem tw4372079747274723936:True:=⟨⟩
theorem tw15802039769479377718:True:=⟨⟩
theorem tw14467902504903184751:True:=⟨⟩
theorem tw11309590720714656385:True:=⟨⟩
theorem tw1390742327789207284:True:=⟨⟩
theorem tw11090662295859197787:True:=⟨⟩
theorem tw6270959292404306040:True:=⟨⟩
theorem tw14114121430865653909:True:=⟨⟩
theorem tw253289078603113011:True:=⟨⟩
theorem tw3946678858357973445:True:=⟨⟩
theorem tw1970452152836389634:True:=⟨⟩
theorem tw6750112963706044779:True:=⟨⟩
theorem tw9387400579010169671:True:=⟨⟩
theorem tw12274520915582287242:True:=⟨⟩
theorem tw15805427730645703299:True:=⟨⟩
theorem tw18071155995635497026:True:=⟨⟩
theorem tw17024630895306654736:True:=⟨⟩
theorem tw9594652070105175538:True:=⟨⟩
theorem tw15314911830938907588:True:=⟨⟩
theorem tw13463328723512108283:True:=⟨⟩
theorem tw14682159413524578690:True:=⟨⟩
theorem tw17958902766768493227:True:=⟨⟩
theorem tw16118928842644013822:True:=⟨⟩
theorem tw3503314679712663880:True:=⟨⟩
theorem tw4001050424044289796:True:=⟨⟩
theorem tw3731159469464733161:True:=⟨⟩
theorem tw10117530187577143350:True:=⟨⟩
theorem tw6539308693043636201:True:=⟨⟩
theorem tw11459716831339209987:True:=⟨⟩
theorem tw16800271206716047961:True:=⟨⟩
theorem tw5600770671549875233:True:=⟨⟩
theorem tw3688689951208773758:True:=⟨⟩
theorem tw5564063289660737286:True:=⟨⟩
theorem tw13325569555906788359:True:=⟨⟩
theorem tw5380757236806925638:True:=⟨⟩
theorem tw3049170533464964937:True:=⟨⟩
theorem tw16265632089588821949:True:=⟨⟩
theorem tw2624891162905167861:True:=⟨⟩
theorem tw11054723663906714500:True:=⟨⟩
theorem tw12990243265943153929:True:=⟨⟩
theorem tw10270629406351637639:True:=⟨⟩
theorem tw3290281361298939038:True:=⟨⟩
theorem tw8862424579379455664:True:=⟨⟩
theorem tw10202100099533912664:True:=⟨⟩
theorem tw18039723812599917206:True:=⟨⟩
theorem tw14209065667414518750:True:=⟨⟩
theorem tw2047150169198493234:True:=⟨⟩
theorem tw17580696211700540594:True:=⟨⟩
theorem tw5745775093554940725:True:=⟨⟩
theorem tw17841229929258561179:True:=⟨⟩
theorem tw958665457581448448:True:=⟨⟩
theorem tw14725330563902608049:True:=⟨⟩
theorem tw7905264182195192268:True:=⟨⟩
theorem tw16309098878789909783:True:=⟨⟩
theorem tw18087306212458131222:True:=⟨⟩
theorem tw3580679800008406720:True:=⟨⟩
theorem tw3475551782619661467:True:=⟨⟩
theorem tw6030146001319931649:True:=⟨⟩
theorem tw2917767594082817976:True:=⟨⟩
theorem tw963730836052330935:True:=⟨⟩
theorem tw9102892987272999712:True:=⟨⟩
theorem tw972233715185571077:True:=⟨⟩
theorem tw15394399562011117683:True:=⟨⟩
theorem tw9102349017255917207:True:=⟨⟩
theorem tw8465214413376177894:True:=⟨⟩
theorem tw17842358677449902220:True:=⟨⟩
theorem tw18024733162654268714:True:=⟨⟩
theorem tw5215038861401205363:True:=⟨⟩
theorem tw2889620010301438159:True:=⟨⟩
theorem tw13492346160421927313:True:=⟨⟩
theorem tw14619786636895354431:True:=⟨⟩
theorem tw8347198648888086893:True:=⟨⟩
theorem tw3290934541051644980:True:=⟨⟩
theorem tw15656312523582882482:True:=⟨⟩
theorem tw12069262479838706422:True:=⟨⟩
theorem tw3175478945359830833:True:=⟨⟩
theorem tw793270598957012031:True:=⟨⟩
theorem tw11673872682036803122:True:=⟨⟩
theorem tw2218342072222958700:True:=⟨⟩
theorem tw14107761456011747721:True:=⟨⟩
theorem tw12227886709532369714:True:=⟨⟩
theorem tw16065893622356668056:True:=⟨⟩
theorem tw8862329350651230078:True:=⟨⟩
theorem tw4158456566656841315:True:=⟨⟩
theorem tw240068130884230790:True:=⟨⟩
theorem tw7261075369986492730:True:=⟨⟩
theorem tw10095958578814478847:True:=⟨⟩
theorem tw13276430500550481923:True:=⟨⟩
theorem tw11356248338994519713:True:=⟨⟩
theorem tw16713439957835655820:True:=⟨⟩
theorem tw604493834246104125:True:=⟨⟩
theorem tw17165616077173733138:True:=⟨⟩
theorem tw10825140345582844076:True:=⟨⟩
theorem tw1488078063450560990:True:=⟨⟩
theorem tw6460507044921833420:True:=⟨⟩
theorem tw5570255224366878075:True:=⟨⟩
theorem tw5809882727897847802:True:=⟨⟩
theorem tw16867553710540772483:True:=⟨⟩
theorem tw18289838797514331030:True:=⟨⟩
theorem tw7438370112167077225:True:=⟨⟩
theorem tw14578122944017684857:True:=⟨⟩
theorem tw6228519123468340102:True:=⟨⟩
theorem tw17850837963695900400:True:=⟨⟩
theorem tw4017631973750705936:True:=⟨⟩
theorem tw7308828615117829451:True:=⟨⟩
theorem tw10197371008404326945:True:=⟨⟩
theorem tw12485708237595888664:True:=⟨⟩
theorem tw17048080507062984116:True:=⟨⟩
theorem tw15824515095442369880:True:=⟨⟩
theorem tw10194581374075867696:True:=⟨⟩
theorem tw15543569287897083520:True:=⟨⟩
theorem tw9727387267491940515:True:=⟨⟩
theorem tw17094090818179008523:True:=⟨⟩
theorem tw11210884645052849060:True:=⟨⟩
theorem tw7694419289280457963:True:=⟨⟩
theorem tw8831897939314031973:True:=⟨⟩
theorem tw17520074308547979545:True:=⟨⟩
theorem tw4946144564840546915:True:=⟨⟩
theorem tw782806090833734554:True:=⟨⟩
theorem tw1591869487965147253:True:=⟨⟩
theorem tw18385098346805748327:True:=⟨⟩
theorem tw8232847355587080807:True:=⟨⟩
theorem tw16503615080686384524:True:=⟨⟩
theorem tw9007161136173879225:True:=⟨⟩
theorem tw3561677167043255664:True:=⟨⟩
theorem tw13179706526510901974:True:=⟨⟩
theorem tw1791848454669545892:True:=⟨⟩
theorem tw15409520809027620645:True:=⟨⟩
theorem tw2672814179314434093:True:=⟨⟩
theorem tw15653929783660401552:True:=⟨⟩
theorem tw2054983293503366318:True:=⟨⟩
theorem tw13808390406404642763:True:=⟨⟩
theorem tw13906608046822080026:True:=⟨⟩
theorem tw14563220665113355648:True:=⟨⟩
theorem tw5587261001740173010:True:=⟨⟩
theorem tw3194525027717393503:True:=⟨⟩
theorem tw11980352979618593226:True:=⟨⟩
theorem tw8125103413285682182:True:=⟨⟩
theorem tw9598389481950266050:True:=⟨⟩
theorem tw15575946610781267937:True:=⟨⟩
theorem tw13105145744567538481:True:=⟨⟩
theorem tw826878255397790392:True:=⟨⟩
theorem tw13589013134313179206:True:=⟨⟩
theorem tw13750602311222863420:True:=⟨⟩
theorem tw12730788166742470381:True:=⟨⟩
theorem tw190184878281159635:True:=⟨⟩
theorem tw12253778793586036507:True:=⟨⟩
theorem tw18292415844115219697:True:=⟨⟩
theorem tw7181030364315266076:True:=⟨⟩
theorem tw14807929583725051600:True:=⟨⟩
theorem tw16988391391894343744:True:=⟨⟩
theorem tw7400500491647510900:True:=⟨⟩
theorem tw26453813409062366:True:=⟨⟩
theorem tw12632901538444557816:True:=⟨⟩
theorem tw5712064471613397113:True:=⟨⟩
theorem tw13048859672530179691:True:=⟨⟩
theorem tw15816568171082987542:True:=⟨⟩
theorem tw140291305787196717:True:=⟨⟩
theorem tw7556154320970920056:True:=⟨⟩
theorem tw10623859704780878609:True:=⟨⟩
theorem tw15154811686560789795:True:=⟨⟩
theorem tw12362652214075966437:True:=⟨⟩
theorem tw1293554907163996296:True:=⟨⟩
theorem tw16964373077603541032:True:=⟨⟩
theorem tw15302939539467708962:True:=⟨⟩
theorem tw3251802990466167583:True:=⟨⟩
theorem tw17736582784914506601:True:=⟨⟩
theorem tw4738824206963041087:True:=⟨⟩
theorem tw13997210572655043113:True:=⟨⟩
theorem tw5405586598326750058:True:=⟨⟩
theorem tw13976345761557420472:True:=⟨⟩
theorem tw2226544590936230385:True:=⟨⟩
theorem tw6312379147953125037:True:=⟨⟩
theorem tw1345020824788354781:True:=⟨⟩
theorem tw1153733174919676712:True:=⟨⟩
theorem tw15397954651489099719:True:=⟨⟩
theorem tw1292910131661596821:True:=⟨⟩
theorem tw15755121832416431640:True:=⟨⟩
theorem tw15609643814508481953:True:=⟨⟩
theorem tw13917302945526157869:True:=⟨⟩
theorem tw1920048487056247342:True:=⟨⟩
theorem tw11902518749274762068:True:=⟨⟩
theorem tw9986983650930820806:True:=⟨⟩
theorem tw8667445972191904141:True:=⟨⟩
theorem tw7213977626144502039:True:=⟨⟩
theorem tw16024746168872572685:True:=⟨⟩
theorem tw8051904861534735594:True:=⟨⟩
theorem tw1663525132374144625:True:=⟨⟩
theorem tw15568067047961933437:True:=⟨⟩
theorem tw9398539940161966262:True:=⟨⟩
theorem tw869677582627905479:True:=⟨⟩
theorem tw18069706697374154520:True:=⟨⟩
theorem tw17321258161511349148:True:=⟨⟩
theorem tw17427781949402081262:True:=⟨⟩
theorem tw10784748841131095016:True:=⟨⟩
theorem tw5553334280232934632:True:=⟨⟩
theorem tw8852079977994134121:True:=⟨⟩
theorem tw7363966681436259016:True:=⟨⟩
theorem tw6259552973914699417:True:=⟨⟩
theorem tw4756003844245296769:True:=⟨⟩
theorem tw13649145482597673345:True:=⟨⟩
theorem tw16291263616382980897:True:=⟨⟩
theorem tw2621187575875709370:True:=⟨⟩
theorem tw4841361568699538755:True:=⟨⟩
theorem tw4643664131859298069:True:=⟨⟩
theorem tw15392710015481481399:True:=⟨⟩
theorem tw15510651560891857580:True:=⟨⟩
theorem tw8121643020007586538:True:=⟨⟩
theorem tw16750454668330686918:True:=⟨⟩
theorem tw16693312335509064974:True:=⟨⟩
theorem tw2364839616781261847:True:=⟨⟩
theorem tw18022175630361393470:True:=⟨⟩
theorem tw17095684101425256853:True:=⟨⟩
end PySem.W.Fast
open PySem PySem.W PyProof.Rows
set_option maxRecDepth 100000 in
set_option maxHeartbeats 0 in
theorem PySem.Challenge.cw_flaglocker_k52_books_read_or_not_holds : PySem.Challenge.rw_flaglocker_k52_books_read_or_not.Holds := by
  w_on; o_law; k_head; (case hw => w_witness2)
  k_fill
  refine Mine.walk (l:=PySem.Challenge.rw_flaglocker_k52_books_read_or_not) rfl rfl (fun w h Y => PySem.W.kIn_of Y) ?F
  case F =>
    intro w mg fa h KX G hmg
    refine' Mine.all_mk KX G hmg ?a_0 ?l_0 ?c_0 ?k_0 ?a_1 ?l_1 ?c_1 ?k_1 ?a_2 ?l_2 ?c_2 ?k_2 ?a_3 ?l_3 ?c_3 ?k_3 ?a_4 ?l_4 ?c_4 ?k_4 ?a_5 ?l_5 ?c_5 ?k_5 ?a_6 ?l_6 ?c_6 ?k_6 ?a_7 ?l_7 ?c_7 ?k_7 ?a_8 ?l_8 ?c_8 ?k_8 ?y_9 ?a_9 ?l_9 ?c_9 ?k_9 ?a_10 ?l_10 ?c_10 ?k_10 ?a_11 ?l_11 ?c_11 ?k_11 ?a_12 ?l_12 ?c_12 ?k_12 ?a_13 ?l_13 ?c_13 ?k_13 ?a_14 ?l_14 ?c_14 ?k_14 ?a_15 ?l_15 ?c_15 ?k_15 ?a_16 ?l_16 ?c_16 ?k_16 ?a_17 ?l_17 ?c_17 ?k_17 ?a_18 ?l_18 ?c_18 ?k_18 ?a_19 ?l_19 ?c_19 ?k_19 ?a_20 ?l_20 ?c_20 ?k_20 ?a_21 ?l_21 ?c_21 ?k_21 ?z_range ?z_len ?z_all ?z_isinstance ?z_ValueError ?z_bool ?z_enumerate ?g_LONGEST_TERM ?g_TERM_LETTERS ?g_MOST_PLACES ?g_LETTERS ?g_MOST_TUPLES ?g_LONGEST_WORD ?g_MOST_TERMS_MEANT ?q_NoBook ?q_NoText ?q_TowerError ?q_NoHoist ?q_Short ?q_Lack ?q_NoCut ?q_NoWord ?q_NoHalyard ?q_NoFlag ?q_NoDeed ?q_NoRow ?f_m_NoText ?f_m_Other ?f_m_NoBook ?f_x_NoText ?f_e_1 ?f_e_2 ?f_e_3 ?f_e_4 ?f_e_5 ?f_e_6 ?f_e_7 ?f_e_8 ?f_t_1 ?f_t_2 ?f_t_3 ?f_t_4 ?f_t_5 ?f_t_6 ?f_t_7 ?f_t_8 ?f_t_9 ?f_t_10 ?f_t_11 ?f_t_12 ?f_i_1 ?f_i_2 ?f_i_3 ?f_i_4 ?f_i_5 ?f_i_6 ?f_i_7 ?f_i_8 ?f_i_9 ?f_i_10 ?f_i_11 ?f_i_12 ?f_t1_TowerError ?f_t2_TowerError ?f_t3_TowerError ?f_xo_NoBook ?f_xk_NoBook ?f_xe1_NoBook ?f_xe2_NoBook ?f_xe3_NoBook ?f_xe4_NoBook ?f_xe5_NoBook ?f_xe6_NoBook ?f_xe7_NoBook ?f_xe8_NoBook ?f_xs_NoBook ?f_xr_NoBook ?f_xv_NoBook ?f_xn_NoBook_at
    (case q_NoBook => k_is)
    (case q_NoText => k_is)
    (case q_TowerError => k_is)
    (case q_NoHoist => k_is)
    (case q_Short => k_is)
    (case q_Lack => k_is)
    (case q_NoCut => k_is)
    (case q_NoWord => k_is)
    (case q_NoHalyard => k_is)
    (case q_NoFlag => k_is)
    (case q_NoDeed => k_is)
    (case q_NoRow => k_is)
    (case a_0 => k_is)
    (case l_0 => k_is)
    (case c_0 => k_is)
    (case k_0 => k_is)
    (case a_1 => k_is)
    (case l_1 => k_is)
    (case c_1 => k_is)
    (case k_1 => k_is)
    (case a_2 => k_is)
    (case l_2 => k_is)
    (case c_2 => k_is)
    (case k_2 => k_is)
    (case a_3 => k_is)
    (case l_3 => k_is)
    (case c_3 => k_is)
    (case k_3 => k_is)
    (case a_4 => k_is)
    (case l_4 => k_is)
    (case c_4 => k_is)
    (case k_4 => k_is)
    (case a_5 => k_is)
    (case l_5 => k_is)
    (case c_5 => k_is)
    (case k_5 => k_is)
    (case a_6 => k_is)
    (case l_6 => k_is)
    (case c_6 => k_is)
    (case k_6 => k_is)
    (case a_7 => k_is)
    (case l_7 => k_is)
    (case c_7 => k_is)
    (case k_7 => k_is)
    (case a_8 => k_is)
    (case l_8 => k_is)
    (case c_8 => k_is)
    (case k_8 => k_is)
    (case a_9 => k_is)
    (case l_9 => k_is)
    (case c_9 => k_is)
    (case k_9 => k_is)
    (case a_10 => k_is)
    (case l_10 => k_is)
    (case c_10 => k_is)
    (case k_10 => k_is)
    (case a_11 => k_is)
    (case l_11 => k_is)
    (case c_11 => k_is)
    (case k_11 => k_is)
    (case a_12 => k_is)
    (case l_12 => k_is)
    (case c_12 => k_is)
    (case k_12 => k_is)
    (case a_13 => k_is)
    (case l_13 => k_is)
    (case c_13 => k_is)
    (case k_13 => k_is)
    (case a_14 => k_is)
    (case l_14 => k_is)
    (case c_14 => k_is)
    (case k_14 => k_is)
    (case a_15 => k_is)
    (case l_15 => k_is)
    (case c_15 => k_is)
    (case k_15 => k_is)
    (case a_16 => k_is)
    (case l_16 => k_is)
    (case c_16 => k_is)
    (case k_16 => k_is)
    (case a_17 => k_is)
    (case l_17 => k_is)
    (case c_17 => k_is)
    (case k_17 => k_is)
    (case a_18 => k_is)
    (case l_18 => k_is)
    (case c_18 => k_is)
    (case k_18 => k_is)
    (case a_19 => k_is)
    (case l_19 => k_is)
    (case c_19 => k_is)
    (case k_19 => k_is)
    (case a_20 => k_is)
    (case l_20 => k_is)
    (case c_20 => k_is)
    (case k_20 => k_is)
    (case a_21 => k_is)
    (case l_21 => k_is)
    (case c_21 => k_is)
    (case k_21 => k_is)
    (case z_range => k_is)
    (case z_len => k_is)
    (case z_all => k_is)
    (case z_isinstance => k_is)
    (case z_ValueError => k_is)
    (case z_bool => k_is)
    (case z_enumerate => k_is)
    (case g_LONGEST_TERM => k_is)
    (case g_TERM_LETTERS => k_is)
    (case g_MOST_PLACES => k_is)
    (case g_LETTERS => k_is)
    (case g_MOST_TUPLES => k_is)
    (case g_LONGEST_WORD => k_is)
    (case g_MOST_TERMS_MEANT => k_is)
    (case f_m_NoText => kts_exm)
    (case f_m_Other => kts_exm)
    (case f_m_NoBook => kts_exm)
    (case f_x_NoText => k_exc)
    (case f_e_1 => k_is)
    (case f_e_2 => k_is)
    (case f_e_3 => k_is)
    (case f_e_4 => k_is)
    (case f_e_5 => k_is)
    (case f_e_6 => k_is)
    (case f_e_7 => k_is)
    (case f_e_8 => k_is)
    (case f_t_1 => kit_is)
    (case f_t_2 => kit_is)
    (case f_t_3 => kit_is)
    (case f_t_4 => kit_is)
    (case f_t_5 => kit_is)
    (case f_t_6 => kit_is)
    (case f_t_7 => kit_is)
    (case f_t_8 => kit_is)
    (case f_t_9 => kit_is)
    (case f_t_10 => kit_is)
    (case f_t_11 => kit_is)
    (case f_t_12 => kit_is)
    (case f_i_1 => kit_is)
    (case f_i_2 => kit_is)
    (case f_i_3 => kit_is)
    (case f_i_4 => kit_is)
    (case f_i_5 => kit_is)
    (case f_i_6 => kit_is)
    (case f_i_7 => kit_is)
    (case f_i_8 => kit_is)
    (case f_i_9 => kit_is)
    (case f_i_10 => kit_is)
    (case f_i_11 => kit_is)
    (case f_i_12 => kit_is)
    (case f_t1_TowerError => k_is)
    (case f_t2_TowerError => k_is)
    (case f_t3_TowerError => k_is)
    (case f_xo_NoBook => kernel_rfl!)
    (case f_xk_NoBook => k_is)
    (case f_xe1_NoBook => k_is)
    (case f_xe2_NoBook => k_is)
    (case f_xe3_NoBook => k_is)
    (case f_xe4_NoBook => k_is)
    (case f_xe5_NoBook => k_is)
    (case f_xe6_NoBook => k_is)
    (case f_xe7_NoBook => k_is)
    (case f_xe8_NoBook => k_is)
    (case f_xs_NoBook => k_is)
    (case f_xr_NoBook => kernel_rfl!)
    (case f_xv_NoBook => k_is)
    (case f_xn_NoBook_at => k_is)
    (case y_9 => k_is)
