import PyProof.Rows.All
import Wide.All
import OpenK.AllK
import Wide.FinOn
import Lean
import PyProof.EqAt
import PyProof.EqKinds
import PyProof.TupleCall
import PySem.Challenge.RW_flaglocker_k36_fewest_words
set_option Elab.async false
set_option compiler.extract_closed false
set_option linter.all false
set_option maxRecDepth 100000
namespace L2
open PySem PySem.Spec PyProof.Rows
abbrev Key:=Sum Int Str
def keyIs:Key → Value → Bool
  | .inl k,v => Value.isInt k v
  | .inr x,v => Value.isStrOf x v
def keyH (w:World):Key → Int
  | .inl k => hashInt k
  | .inr x => hashStr w x
theorem keyIs_shape:∀ {k:Key} {v:Value},keyIs k v = true → (∃ i t,k = Sum.inl i ∧ v = Value.int i t) ∨ (∃ x t,k = Sum.inr x ∧ v = Value.str x t)
  | .inl i,v,h => by
    obtain ⟨t,e⟩:=Value.isInt_shape (k:=i) (v:=v) h
    exact .inl ⟨i,t,rfl,e⟩
  | .inr x,v,h => by
    obtain ⟨t,e⟩:=Value.isStrOf_shape (x:=x) (v:=v) h
    exact .inr ⟨x,t,rfl,e⟩
theorem keyIs_int (i:Int) (t:Tok):keyIs (.inl i) (.int i t) = true:=by simp [keyIs,Value.isInt]
theorem keyIs_str (x:Str) (t:Tok):keyIs (.inr x) (.str x t) = true:=by simp [keyIs,Value.isStrOf]
theorem key_ll (a b:Int):decide ((Sum.inl a:Key) = Sum.inl b) = (a == b):=by
  by_cases e:a = b
  · subst e; simp
  · have h:¬ (Sum.inl a:Key) = Sum.inl b:=fun q => e (Sum.inl.inj q)
    rw [decide_eq_false h]
    exact (beq_eq_false_iff_ne.mpr e).symm
theorem key_rr (a b:Str):decide ((Sum.inr a:Key) = Sum.inr b) = decide (a = b):=by
  by_cases e:a = b
  · subst e; simp
  · have h:¬ (Sum.inr a:Key) = Sum.inr b:=fun q => e (Sum.inr.inj q)
    rw [decide_eq_false h,decide_eq_false e]
theorem key_lr (a:Int) (b:Str):decide ((Sum.inl a:Key) = Sum.inr b) = false:=decide_eq_false (fun q => nomatch q)
theorem key_rl (a:Str) (b:Int):decide ((Sum.inr a:Key) = Sum.inl b) = false:=decide_eq_false (fun q => nomatch q)
def mixKind (prog:Program) (w:World):PySem.KeyKind prog w Key where
  is:=keyIs
  hash:=keyH w
  inj:=fun v a b ha hb => by
    rcases keyIs_shape ha with ⟨i,t,rfl,rfl⟩ | ⟨x,t,rfl,rfl⟩
    · rcases keyIs_shape hb with ⟨j,u,rfl,e⟩ | ⟨y,u,rfl,e⟩
      · injection e with e1 _; rw [e1]
      · exact nomatch e
    · rcases keyIs_shape hb with ⟨j,u,rfl,e⟩ | ⟨y,u,rfl,e⟩
      · exact nomatch e
      · injection e with e1 _; rw [e1]
  byValue:=fun k v h => by
    rcases keyIs_shape h with ⟨i,t,rfl,rfl⟩ | ⟨x,t,rfl,rfl⟩ <;> rfl
  pyHash:=fun hv h => by
    rcases keyIs_shape hv with ⟨i,t,rfl,rfl⟩ | ⟨x,t,rfl,rfl⟩
    · exact wpAny_pyHash_int h
    · exact wpAny_pyHash_str h
  eqBool:=fun hu hv h => by
    rcases keyIs_shape hu with ⟨i,t,rfl,rfl⟩ | ⟨x,t,rfl,rfl⟩
    · rcases keyIs_shape hv with ⟨j,u,rfl,rfl⟩ | ⟨y,u,rfl,rfl⟩
      · rw [key_ll] at h; exact wpAny_eqBool_int h
      · rw [key_lr] at h; exact SeqAt.EqAt.int_str i t y u _ _ _ _ h
    · rcases keyIs_shape hv with ⟨j,u,rfl,rfl⟩ | ⟨y,u,rfl,rfl⟩
      · rw [key_rl] at h; exact SeqAt.EqAt.str_int x t j u _ _ _ _ h
      · rw [key_rr] at h; exact wpAny_eqBool_str h
  «strs» := fun k x t v h => by
    rcases keyIs_shape h with ⟨i,u,rfl,e⟩ | ⟨y,u,rfl,e⟩
    · exact nomatch e
    · injection e with e1 _
      subst e1
      cases v <;> rfl
theorem mixKind_int (prog:Program) (w:World) (i:Int) (t:Tok):(mixKind prog w).is (.inl i) (.int i t) = true:=keyIs_int i t
theorem mixKind_str (prog:Program) (w:World) (x:Str) (t:Tok):(mixKind prog w).is (.inr x) (.str x t) = true:=keyIs_str x t
end L2
namespace L2
open PySem PySem.Spec PyProof.Rows
inductive V where
  | non | bl (b:Bool) | int (i:Int) | str (x:Str) | byt (b:Array UInt8) | flt (b:UInt64) | ref (a:Addr) | ty (n:String)
  deriving DecidableEq
def RelV:V → Value → Prop
  | .non,u => u = Value.none
  | .bl b,u => u = Value.bool b
  | .int i,u => ∃ t,u = Value.int i t
  | .str x,u => ∃ t,u = Value.str x t
  | .byt b,u => ∃ t,u = Value.bytes b t
  | .flt b,u => ∃ t,u = Value.float b t
  | .ref a,u => u = Value.ref a
  | .ty n,u => u = Value.type n
abbrev Vals:List V → List Value → Prop:=Paired RelV
theorem Vals.length {xs:List V} {us:List Value} (r:Vals xs us):xs.length = us.length:=Paired.length r
theorem Vals.get:∀ {xs:List V} {us:List Value} {i:Nat} {x:V},Vals xs us → xs[i]? = some x → ∃ u,us[i]? = some u ∧ RelV x u
  | _,_,_,_,.nil,e => by simp at e
  | _,_,0,_,.cons r _,e => by simp at e; subst e; exact ⟨_,rfl,r⟩
  | _,_,i + 1,x,.cons _ t,e => by
    obtain ⟨u,h1,h2⟩:=Vals.get (i:=i) (x:=x) t (by simpa using e)
    exact ⟨u,by simpa using h1,h2⟩
theorem Vals.set {x:V} {u:Value} (r:RelV x u):∀ {xs:List V} {us:List Value} (i:Nat),Vals xs us → Vals (xs.set i x) (us.set i u)
  | _,_,_,.nil => .nil
  | _,_,0,.cons _ t => .cons r t
  | _,_,i + 1,.cons q t => .cons q (Vals.set r i t)
theorem Vals.append:∀ {xs ys:List V} {us ws:List Value},Vals xs us → Vals ys ws → Vals (xs ++ ys) (us ++ ws)
  | _,_,_,_,.nil,s => s
  | _,_,_,_,.cons r t,s => .cons r (Vals.append t s)
theorem Vals.take:∀ {xs:List V} {us:List Value} (n:Nat),Vals xs us → Vals (xs.take n) (us.take n)
  | _,_,0,_ => .nil
  | _,_,_ + 1,.nil => .nil
  | _,_,n + 1,.cons r t => .cons r (Vals.take n t)
theorem Vals.drop:∀ {xs:List V} {us:List Value} (n:Nat),Vals xs us → Vals (xs.drop n) (us.drop n)
  | _,_,0,r => r
  | _,_,_ + 1,.nil => .nil
  | _,_,n + 1,.cons _ t => Vals.drop n t
theorem Vals.none_of:∀ {xs:List V} {us:List Value} {i:Nat},Vals xs us → xs[i]? = none → us[i]? = none:=fun {xs us i} r e => by
  have h1:=r.length
  have h2:xs.length ≤ i:=List.getElem?_eq_none_iff.mp e
  exact List.getElem?_eq_none_iff.mpr (by omega)
def RelO:Option V → Option Value → Prop
  | some v,some u => RelV v u
  | none,none => True
  | _,_ => False
def KV {κ:Type}:List (κ × V) → List (κ × Value) → Prop:=Paired fun (p:κ × V) (q:κ × Value) => p.1 = q.1 ∧ RelV p.2 q.2
def kV:Key → V
  | .inl i => .int i
  | .inr x => .str x
inductive HO where
    | lst (xs:List V)
    | tup (xs:List V)
    | dK (kvs:List (Key × V)) | dT (kvs:List (List Key × V))
    | set (S:Int → Bool) (n:Nat)
    | ins (C dx:Addr) (fs:List (Str × V))
    | own (x:Addr)
    | xd (fs:List (Str × V))
    | met (f x:Addr)
    | rng (lo hi:Int)
    | frz (o:Obj) (u:HO)
    | tbl (ps:Array Value)
    | ext (φ:Heap → Prop)
abbrev Hp:=Addr → Option HO
def upd (H:Hp) (a:Addr) (o:HO):Hp:=fun b => if b = a then some o else H b
theorem upd_same {H:Hp} {a:Addr} {o:HO}:upd H a o a = some o:=by unfold upd; rw [if_pos rfl]
theorem upd_ne {H:Hp} {a b:Addr} {o:HO} (h:b ≠ a):upd H a o b = H b:=by unfold upd; rw [if_neg h]
theorem upd_upd {H:Hp} {a:Addr} {o u:HO}:upd (upd H a o) a u = upd H a u:=by
  funext b; unfold upd; split <;> rfl
theorem ne_of_none {H:Hp} {a b:Addr} {o:HO} (h:H a = some o) (h':H b = none):a ≠ b:=by
  intro e; subst e; rw [h] at h'; cases h'
section
variable (P:Program) (w:World)
def ObjOk (H:Hp) (h:Heap) (a:Addr):HO → Prop
  | .lst xs => xs.length ≤ sizeLine ∧ ∃ (its:List Value) (n:Nat),Vals xs its ∧ h.get? a = some { cls:=.type "list",data:=.seq its.toArray n }
  | .tup xs => xs.length ≤ sizeLine ∧ ∃ its:List Value,Vals xs its ∧ IsTup h a its.toArray
  | .dK kvs => kvs.length ≤ sizeLine ∧ (a == sysModules) = false ∧ ∃ vs,KV kvs vs ∧ h.DictOf (mixKind P w) a vs
  | .dT kvs => kvs.length ≤ sizeLine ∧ (a == sysModules) = false ∧ ∃ xs:List (List Key × Addr × Value),
      Paired (fun (p:List Key × V) (q:List Key × Addr × Value) => p.1 = q.1 ∧ H q.2.1 = some (.tup (p.1.map kV)) ∧ RelV p.2 q.2.2) kvs xs ∧
      ∃ o es ep,h.get? a = some o ∧ o.ExactDict ∧ o.data = .dict es ep ∧ es.toList = xs.map (entryOfKey (tupleKind (mixKind P w))) ∧ (xs.map (·.1)).Nodup
  | .set S n => h.SetOf (intKind P w) a S n
  | .ins C dx fs => H dx = some (.own a) ∧ fs.length ≤ 1000 ∧ dx ≠ a ∧ h.get? a = some (PySem.W.instObj C dx) ∧
      ∃ mA,h.Ns1 dx mA ∧ (∀ f,RelO (fs.lookup f) (mA f)) ∧ PySem.Within mA (fs.map (·.1))
  | .own _ => ∃ o,h.get? a = some o
  | .xd fs => ∃ mA,h.Ns1 a mA ∧ ∀ f,RelO (fs.lookup f) (mA f)
  | .rng lo hi => ∃ t u v,h.get? a = some { cls:=.type "range",data:=.fields #[.int lo t,.int hi u,.int 1 v] }
  | .frz o u => h.get? a = some o ∧ ObjOk H h a u
  | .tbl ps => h.get? a = some { cls:=.none,data:=.fields ps }
  | .met f x => h.get? a = some (PySem.W.methodObj (.ref f) (.ref x))
  | .ext φ => φ h ∧ (∃ o,h.get? a = some o) ∧ ∀ h1 h2:Heap,φ h1 → (∀ o,h1.get? a = some o → h2.get? a = some o) → φ h2
def HOk (H:Hp) (h:Heap):Prop:=∀ a o,H a = some o → ObjOk P w H h a o
end
section
variable {P:Program} {w:World} {H H':Hp} {h h':Heap} {a:Addr} {o:HO}
theorem ObjOk.lt (x:ObjOk P w H h a o):a < h.objs.size:=by
  cases o with
  | lst xs => obtain ⟨_,_,_,_,e⟩:=x; exact Heap.lt_size e
  | tup xs => obtain ⟨_,_,_,p⟩:=x; exact p.lt
  | dK kvs => obtain ⟨_,_,_,_,o,_,_,e,_⟩:=x; exact Heap.lt_size e
  | dT kvs => obtain ⟨_,_,_,_,o,_,_,e,_⟩:=x; exact Heap.lt_size e
  | set S n => obtain ⟨o,_,_,_,e,_⟩:=x; exact Heap.lt_size e
  | ins C dx fs => obtain ⟨_,_,_,e,_⟩:=x; exact Heap.lt_size e
  | own y => obtain ⟨_,e⟩:=x; exact Heap.lt_size e
  | xd fs => obtain ⟨_,⟨_,_,_,e,_⟩,_⟩:=x; exact Heap.lt_size e
  | rng lo hi => obtain ⟨_,_,_,e⟩:=x; exact Heap.lt_size e
  | frz ob u => obtain ⟨e,_⟩:=x; exact Heap.lt_size e
  | tbl ps => exact Heap.lt_size (show h.get? a = some _ from x)
  | met f y => exact Heap.lt_size (show h.get? a = some _ from x)
  | ext φ => obtain ⟨_,⟨_,e⟩,_⟩:=x; exact Heap.lt_size e
theorem Paired.mapP {α β:Type} {F G:α → β → Prop}:∀ {l₁:List α} {l₂:List β},Paired F l₁ l₂ → (∀ a b,F a b → G a b) → Paired G l₁ l₂
  | _,_,.nil,_ => .nil
  | _,_,.cons r t,f => .cons (f _ _ r) (Paired.mapP t f)
theorem ObjOk.stay (x:ObjOk P w H h a o) (k:∀ b u,(b = a ∨ H b = some (.own a)) → h.get? b = some u → h'.get? b = some u)
    (ho:∀ b,H b = some (.own a) → H' b = some (.own a)) (ht:∀ b xs,H b = some (.tup xs) → H' b = some (.tup xs)):ObjOk P w H' h' a o:=by
  induction o with
  | lst xs => obtain ⟨z,its,n,r,e⟩:=x; exact ⟨z,its,n,r,k _ _ (.inl rfl) e⟩
  | tup xs => obtain ⟨z,its,r,ob,e,c⟩:=x; exact ⟨z,its,r,ob,k _ _ (.inl rfl) e,c⟩
  | dK kvs => obtain ⟨z,y,vs,r,ob,es,ep,e,c⟩:=x; exact ⟨z,y,vs,r,ob,es,ep,k _ _ (.inl rfl) e,c⟩
  | dT kvs =>
    obtain ⟨z,y,xs,r,ob,es,ep,e,c⟩:=x
    exact ⟨z,y,xs,Paired.mapP r fun p q z => ⟨z.1,ht _ _ z.2.1,z.2.2⟩,ob,es,ep,k _ _ (.inl rfl) e,c⟩
  | set S n => obtain ⟨ob,es,ep,t,e,c⟩:=x; exact ⟨ob,es,ep,t,k _ _ (.inl rfl) e,c⟩
  | ins C dx fs =>
    obtain ⟨d,z,ne,e,mA,⟨od,es,ep,e2,c⟩,r⟩:=x
    exact ⟨ho _ d,z,ne,k _ _ (.inl rfl) e,mA,⟨od,es,ep,k _ _ (.inr d) e2,c⟩,r⟩
  | own y => obtain ⟨ob,e⟩:=x; exact ⟨ob,k _ _ (.inl rfl) e⟩
  | xd fs => obtain ⟨mA,⟨od,es,ep,e,c⟩,r⟩:=x; exact ⟨mA,⟨od,es,ep,k _ _ (.inl rfl) e,c⟩,r⟩
  | rng lo hi => obtain ⟨t,u,v,e⟩:=x; exact ⟨t,u,v,k _ _ (.inl rfl) e⟩
  | frz ob u ih => obtain ⟨e,q⟩:=x; exact ⟨k _ _ (.inl rfl) e,ih q⟩
  | tbl ps =>
    have e:h.get? a = some { cls:=.none,data:=.fields ps }:=x
    show h'.get? a = some { cls:=.none,data:=.fields ps }
    exact k a _ (.inl rfl) e
  | met f y =>
    have e:h.get? a = some (PySem.W.methodObj (.ref f) (.ref y)):=x
    show h'.get? a = some (PySem.W.methodObj (.ref f) (.ref y))
    exact k a _ (.inl rfl) e
  | ext φ => obtain ⟨p,⟨o,e⟩,st⟩:=x; exact ⟨st _ _ p fun o q => k _ _ (.inl rfl) q,⟨o,k _ _ (.inl rfl) e⟩,st⟩
theorem HOk.lt (x:HOk P w H h) (e:H a = some o):a < h.objs.size:=(x a o e).lt
theorem HOk.fresh (x:HOk P w H h) (e:h.objs.size ≤ a):H a = none:=by
  cases q:H a with
  | none => rfl
  | some u => exact absurd (Nat.lt_of_lt_of_le (x.lt q) e) (Nat.lt_irrefl _)
theorem HOk.kept (x:HOk P w H h) (k:∀ b u,h.get? b = some u → h'.get? b = some u):HOk P w H h':=fun a o e =>
  (x a o e).stay (fun b u _ q => k b u q) (fun _ q => q) fun _ _ q => q
theorem HOk.laid (x:HOk P w H h) (k:∀ b u,h.get? b = some u → h'.get? b = some u) (hp:h.objs.size ≤ a) (new:ObjOk P w (upd H a o) h' a o):HOk P w (upd H a o) h':=fun b u e => by
  have hn:=x.fresh hp
  by_cases hb:b = a
  · subst hb; rw [upd_same] at e; cases e; exact new
  · rw [upd_ne hb] at e
    exact (x b u e).stay (fun c v _ q => k c v q) (fun c q => by rw [upd_ne (ne_of_none q hn)]; exact q) fun c xs q => by rw [upd_ne (ne_of_none q hn)]; exact q
end
def Rd (H:Hp) (a:Addr) (u:HO):Prop:=H a = some u ∨ ∃ o,H a = some (.frz o u)
theorem Rd.of {H:Hp} {a:Addr} {u:HO} (h:H a = some u):Rd H a u:=.inl h
theorem Rd.ok {P:Program} {w:World} {H:Hp} {h:Heap} {a:Addr} {u:HO} (r:Rd H a u) (x:HOk P w H h):ObjOk P w H h a u:=by
  rcases r with r | ⟨o,r⟩
  · exact x a u r
  · obtain ⟨_,q⟩:=x a _ r
    exact q
def Mut:Option HO → Prop
  | some (.lst _) => True
  | some (.dK _) => True
  | some (.dT _) => True
  | some (.set _ _) => True
  | some (.ins _ _ _) => True
  | some (.ext _) => True
  | _ => False
section
variable {P:Program} {w:World} {H:Hp} {h h':Heap} {x e:Addr} {o':HO}
theorem HOk.write (ok:HOk P w H h) (mu:Mut (H x)) (he:e = x ∨ H e = some (.own x)) (k:∀ b u,b ≠ e → h.get? b = some u → h'.get? b = some u) (heo:∃ u,h'.get? e = some u)
    (new:ObjOk P w (upd H x o') h' x o'):HOk P w (upd H x o') h':=fun b u q => by
  have nown:∀ c y,H c = some (.own y) → c ≠ x:=fun c y r z => by subst z; rw [r] at mu; exact mu
  have ntup:∀ c xs,H c = some (.tup xs) → c ≠ x:=fun c xs r z => by subst z; rw [r] at mu; exact mu
  by_cases hb:b = x
  · subst hb; rw [upd_same] at q; cases q; exact new
  · rw [upd_ne hb] at q
    by_cases hbe:b = e
    · have q':H b = some (.own x):=by
        rcases he with z | z
        · exact absurd (hbe.trans z) hb
        · rw [hbe]; exact z
      rw [q] at q'; cases q'
      obtain ⟨v,hv⟩:=heo
      exact ⟨v,by rw [hbe]; exact hv⟩
    · refine (ok b u q).stay (fun c v hc r => k c v ?_ r) (fun c r => by rw [upd_ne (nown c b r)]; exact r) fun c xs r => by rw [upd_ne (ntup c xs r)]; exact r
      rcases hc with rfl | hc
      · exact hbe
      · rintro rfl
        rcases he with z | z
        · exact nown c b hc z
        · rw [hc] at z; cases z; exact hb rfl
end
structure Un (fs ex:List Addr) (H H':Hp) (h h':Heap):Prop where
  keep:∀ b o,h.get? b = some o → H b = none → b ∉ fs → b ∉ ex → h'.get? b = some o
  slot:∀ b o,h.get? b = some o → H b = none → b ∈ fs → b ∉ ex → ∃ sl,h'.get? b = some { o with slots:=sl }
  free:∀ b o,h.get? b = some o → H b = none → b ∉ ex → H' b = none
  there:∀ b o,h.get? b = some o → b ∉ ex → ∃ o',h'.get? b = some o'
  tups:∀ b xs,H b = some (.tup xs) → H' b = some (.tup xs)
  frzs:∀ b o u,H b = some (.frz o u) → H' b = some (.frz o u)
  tbls:∀ b ps,H b = some (.tbl ps) → ∃ more,H' b = some (.tbl (ps ++ more))
section
variable {fs fs' ex ex':List Addr} {H H1 H2:Hp} {h h1 h2 h':Heap} {a x e:Addr} {o:HO}
theorem Un.any (u:Un fs ex H H1 h h1) {b:Addr} {ob:Obj} (q:h.get? b = some ob) (n:H b = none) (hx:b ∉ ex):∃ sl,h1.get? b = some { ob with slots:=sl }:=by
  by_cases hb:b ∈ fs
  · exact u.slot b ob q n hb hx
  · exact ⟨ob.slots,u.keep b ob q n hb hx⟩
theorem Un.trans (a:Un fs ex H H1 h h1) (b:Un fs ex H1 H2 h1 h2):Un fs ex H H2 h h2 where
  keep:=fun c ob q n hc hx => b.keep c ob (a.keep c ob q n hc hx) (a.free c ob q n hx) hc hx
  slot:=fun c ob q n hc hx => by
    obtain ⟨sl,e1⟩:=a.slot c ob q n hc hx
    obtain ⟨sl',e2⟩:=b.slot c _ e1 (a.free c ob q n hx) hc hx
    exact ⟨sl',e2⟩
  free:=fun c ob q n hx => by
    obtain ⟨o',e1⟩:=a.there c ob q hx
    exact b.free c o' e1 (a.free c ob q n hx) hx
  there:=fun c ob q hx => by
    obtain ⟨o',e1⟩:=a.there c ob q hx
    exact b.there c o' e1 hx
  tups:=fun c xs q => b.tups c xs (a.tups c xs q)
  frzs:=fun c ob xs q => b.frzs c ob xs (a.frzs c ob xs q)
  tbls:=fun c ps q => by
    obtain ⟨m1,e1⟩:=a.tbls c ps q
    obtain ⟨m2,e2⟩:=b.tbls c _ e1
    exact ⟨m1 ++ m2,by rw [e2,Array.append_assoc]⟩
theorem Un.kept (k:∀ b u,h.get? b = some u → h'.get? b = some u):Un fs ex H H h h' :=
  ⟨fun b ob q _ _ _ => k b ob q,fun b ob q _ _ _ => ⟨ob.slots,k b ob q⟩,fun _ _ _ n _ => n,fun b ob q _ => ⟨ob,k b ob q⟩,fun _ _ q => q,fun _ _ _ q => q,fun _ ps q => ⟨#[],by rw [q]; simp⟩⟩
theorem Un.refl:Un fs ex H H h h:=Un.kept fun _ _ q => q
theorem Un.laid (k:∀ b u,h.get? b = some u → h'.get? b = some u) (hp:h.objs.size ≤ a) (hn:H a = none):Un fs ex H (upd H a o) h h' where
  keep:=fun b u q _ _ _ => k b u q
  slot:=fun b u q _ _ _ => ⟨u.slots,k b u q⟩
  free:=fun b u q n _ => by rw [upd_ne (Nat.ne_of_lt (Nat.lt_of_lt_of_le (Heap.lt_size q) hp))]; exact n
  there:=fun b u q _ => ⟨u,k b u q⟩
  tups:=fun b xs q => by rw [upd_ne (ne_of_none q hn)]; exact q
  frzs:=fun b u xs q => by rw [upd_ne (ne_of_none q hn)]; exact q
  tbls:=fun b ps q => ⟨#[],by rw [upd_ne (ne_of_none q hn),q]; simp⟩
theorem Un.write (mu:Mut (H x)) (he:e = x ∨ H e = some (.own x)) (k:∀ b u,b ≠ e → h.get? b = some u → h'.get? b = some u) (heo:∃ u,h'.get? e = some u):Un fs ex H (upd H x o) h h':=by
  have hx:∀ b,H b = none → b ≠ x:=fun b n z => by subst z; rw [n] at mu; exact mu
  have hb:∀ b,H b = none → b ≠ e:=fun b n z => by
    subst z
    rcases he with r | r
    · exact hx b n r
    · rw [n] at r; cases r
  have hm:∀ b u,H b = some u → ¬ Mut (some u) → b ≠ x:=fun b u q nm z => by subst z; rw [q] at mu; exact nm mu
  refine ⟨fun b u q n _ _ => k b u (hb b n) q,fun b u q n _ _ => ⟨u.slots,k b u (hb b n) q⟩,fun b u q n _ => by rw [upd_ne (hx b n)]; exact n,fun b u q _ => ?_,
    fun b xs q => by rw [upd_ne (hm b _ q fun z => z)]; exact q,fun b u xs q => by rw [upd_ne (hm b _ q fun z => z)]; exact q,fun b ps q => ⟨#[],by rw [upd_ne (hm b _ q fun z => z),q]; simp⟩⟩
  by_cases hbe:b = e
  · subst hbe; exact heo
  · exact ⟨u,k b u hbe q⟩
theorem Un.mono (u:Un fs ex H H1 h h1) (hs:∀ b ∈ fs,b ∈ fs') (hx:∀ b ∈ ex,b ∈ ex'):Un fs' ex' H H1 h h1 :=
  ⟨fun b ob q n hb he => u.keep b ob q n (fun z => hb (hs b z)) fun z => he (hx b z),fun _ _ q n _ he => u.any q n fun z => he (hx _ z),fun b ob q n he => u.free b ob q n fun z => he (hx b z),fun b ob q he => u.there b ob q fun z => he (hx b z),u.tups,u.frzs,u.tbls⟩
end
def trk (h:Heap) (H:Hp):List Addr:=(List.range h.objs.size).filter fun a => (H a).isSome
def hidT (h:Heap) (H:Hp):Heap:=PySem.W.hideAll h (trk h H)
theorem hidT_size (h:Heap) (H:Hp):(hidT h H).objs.size = h.objs.size:=PySem.W.hideAll_size _ _
theorem hidT_get {h:Heap} {H:Hp} {b:Addr} {o:Obj} (e:h.get? b = some o) (n:H b = none):(hidT h H).get? b = some o :=
  PySem.W.hideAll_get _ e fun hm => by
    have q:(H b).isSome = true:=(List.mem_filter.mp hm).2
    rw [n] at q; simp at q
theorem of_hidT {h:Heap} {H:Hp} {b:Addr} {o:Obj} (e:(hidT h H).get? b = some o):h.get? b = some o ∧ H b = none:=by
  have e':h.get? b = some o:=PySem.W.of_hideAll (trk h H) e
  refine ⟨e',?_⟩
  cases q:H b with
  | none => rfl
  | some x =>
    have hm:b ∈ trk h H:=List.mem_filter.mpr ⟨List.mem_range.mpr (Heap.lt_size e'),by simp [q]⟩
    have z:(hidT h H).get? b = none:=PySem.W.hideAll_none (trk h H) hm
    rw [z] at e; cases e
def allNews (g h:Heap) (L:Addr):List (Addr × Obj):=(List.range h.objs.size).filterMap fun a => if a = L ∨ (g.get? a).isSome = true then none else (h.get? a).map fun o => (a,o)
def rest (g h:Heap) (L d:Addr):List (Addr × Obj):=(allNews g h L).filter fun p => decide (p.1 ≠ d)
end L2
namespace L2
open PySem PySem.Spec PyProof.Rows
structure Mod (K:PySem.W.Frag) (mg:Str → Option Value) (base:Heap):Prop where
  kin:K.In base
  glob:base.Ns mainGlobals mg
  blt:∃ mb,base.Ns builtinsNs mb ∧ ∀ x:Str,x ≠ "__name__" → mb x = bootBuiltins x
  nolimit:base.NoLimit
structure Cx where
  prog:Program
  w:World
  K:PySem.W.Frag
  mg:Str → Option Value
  base:Heap
  A:Around
  N:List Str
  s₀:Shared
  H₀:Hp
  env:Env
  outer:List Env
  stack:List Env
  ex:List Addr
  fn:Str → Bool
  calm:Bool
  pn:List (Addr × Obj)
  xe:Value → Shared → Prop
def frs (l:List Env):List Addr:=l.filterMap (·.frame)
abbrev Cx.fs (X:Cx):List Addr:=frs X.outer
def Vis (sc:Scope) (x:Str):Prop:=sc.names.lookup x = some .local ∨ sc.names.lookup x = some .cell ∨ sc.names.lookup x = some .free
def Loc (sc:Scope) (x:Str):Prop:=sc.names.lookup x = some .local ∨ sc.names.lookup x = some .cell
def Look (env:Env) (h:Heap) (m:Str → Option Value) (x:Str) (u:Value):Prop :=
  (env.kindOf x = some .local ∧ m x = some u) ∨ ((env.kindOf x = some .cell ∨ env.kindOf x = some .free) ∧ ∃ c,env.cells.lookup x = some c ∧ h.IsCell c (some u))
structure Cx.Ok (X:Cx):Prop where
  mod:Mod X.K X.mg X.base
  kind:X.env.scope.kind = .function
  glob:X.env.globals = mainGlobals
  blt:X.env.builtins = builtinsNs
  above:X.s₀.heap.objs.size ≤ X.env.locals
  inj:∀ x y c,X.env.cells.lookup x = some c → X.env.cells.lookup y = some c → x = y
  has:∀ x,(X.env.kindOf x = some .cell ∨ X.env.kindOf x = some .free) → ∃ c,X.env.cells.lookup x = some c
  cab:∀ x c,X.fn x = true → X.env.cells.lookup x = some c → X.s₀.heap.objs.size ≤ c
  hd:X.calm = true → X.A.handled = none
  frames:X.A.frames = some X.stack
  stk:X.stack = X.outer ∨ (X.stack = X.env :: X.outer ∧ X.env.frame = some X.env.locals)
  exf:∀ b ∈ X.ex,b ≠ X.env.locals ∧ ∀ x c,X.env.cells.lookup x = some c → c ≠ b
  bs:∀ b o,X.base.get? b = some o → X.s₀.heap.get? b = some o ∧ X.H₀ b = none
  bsz:X.base.objs.size ≤ X.s₀.heap.objs.size
  noex:∀ b o,X.base.get? b = some o → b ∉ X.ex
  exfs:∀ b ∈ X.ex,b ∉ X.fs
  funs:X.s₀.heap.FunFrames X.base X.outer
  frf:∀ b ∈ X.fs,X.H₀ b = none
structure Inv (X:Cx) (pins:List (Addr × Obj)) (σ:List (Option V)) (H:Hp) (s:Shared):Prop where
  ok:X.Ok
  os:s.os = X.s₀.os
  bare:AllBare s.gens
  base:Un X.fs X.ex X.H₀ H X.s₀.heap s.heap
  loc:∃ m,s.heap.Ns X.env.locals m ∧ ∀ (i:Nat) (x:Str) (v:V),X.N[i]? = some x → σ[i]? = some (some v) → Vis X.env.scope x → ∃ u,RelV v u ∧ Look X.env s.heap m x u
  cell:∀ x c,X.env.cells.lookup x = some c → ∃ v,s.heap.IsCell c v
  free:H X.env.locals = none
  freeC:∀ x c,X.env.cells.lookup x = some c → H c = none
  pin:∀ p ∈ X.pn ++ pins,s.heap.get? p.1 = some p.2 ∧ H p.1 = none ∧ p.1 ≠ X.env.locals ∧ p.1 ∉ X.fs ∧ ∀ v,p.2.data ≠ .cell v
  hok:HOk X.prog X.w H s.heap
  len:σ.length = X.N.length
section
variable {X:Cx} {pins:List (Addr × Obj)} {σ:List (Option V)} {H H':Hp} {s:Shared} {h':Heap}
theorem Cx.Ok.nofr (ok:X.Ok) {b:Addr} {o:Obj} (e:X.base.get? b = some o):b ∉ X.fs:=fun hb => by
  have:=(ok.funs.mem hb).1
  rw [e] at this; cases this
theorem Inv.bs (I:Inv X pins σ H s):∀ b o,X.base.get? b = some o → s.heap.get? b = some o ∧ H b = none:=fun b o e =>
  ⟨I.base.keep b o (I.ok.bs b o e).1 (I.ok.bs b o e).2 (I.ok.nofr e) (I.ok.noex b o e),I.base.free b o (I.ok.bs b o e).1 (I.ok.bs b o e).2 (I.ok.noex b o e)⟩
theorem Inv.bk (I:Inv X pins σ H s):∀ b o,X.base.get? b = some o → s.heap.get? b = some o:=fun b o e => (I.bs b o e).1
theorem Inv.mod (I:Inv X pins σ H s):Mod X.K X.mg X.base:=I.ok.mod
theorem Inv.kIn (I:Inv X pins σ H s):X.K.In s.heap:=I.ok.mod.kin.keeps I.bk
theorem Inv.nolimit (I:Inv X pins σ H s):s.heap.NoLimit:=I.ok.mod.nolimit.keeps I.bk
theorem Inv.fr (I:Inv X pins σ H s):∃ m,Fr X.base X.env.locals s.heap m :=
  let ⟨m,hn,_⟩:=I.loc
  ⟨m,hn,I.bk,Nat.le_trans I.ok.bsz I.ok.above⟩
theorem Inv.lt (I:Inv X pins σ H s):X.env.locals < s.heap.objs.size:=let ⟨_,hn,_⟩:=I.loc; hn.lt
theorem Inv.sz (I:Inv X pins σ H s):X.s₀.heap.objs.size ≤ s.heap.objs.size:=Nat.le_trans I.ok.above (Nat.le_of_lt I.lt)
theorem Inv.nofs (I:Inv X pins σ H s) {a:Addr} (h:s.heap.objs.size ≤ a):a ∉ X.fs:=fun hb => by
  obtain ⟨_,o,ho,_⟩:=I.ok.funs.mem hb
  exact absurd (Nat.lt_of_lt_of_le (Heap.lt_size ho) (Nat.le_trans I.sz h)) (Nat.lt_irrefl _)
theorem Inv.cne (I:Inv X pins σ H s):∀ x c,X.env.cells.lookup x = some c → c ≠ X.env.locals:=fun x c e z => by
  obtain ⟨v,o,ho,hd⟩:=I.cell x c e
  obtain ⟨m,⟨o',es,ep,ho',hd',_⟩,_⟩:=I.loc
  rw [z,ho'] at ho; cases ho; rw [hd'] at hd; cases hd
theorem Inv.funs (I:Inv X pins σ H s):s.heap.FunFrames X.base X.outer:=by
  have all:∀ (l:List Env),(∀ b ∈ frs l,b ∈ X.fs) → X.s₀.heap.FunFrames X.base l → s.heap.FunFrames X.base l:=by
    intro l
    induction l with
    | nil => intro _ _; trivial
    | cons env r ih =>
      intro hs hl
      obtain ⟨hk,⟨L,o,hf,hn,ho,hd⟩,hr⟩:=hl
      have hL:L ∈ X.fs:=hs L (by unfold frs; rw [List.filterMap_cons,hf]; exact List.mem_cons_self)
      obtain ⟨sl,e⟩:=I.base.slot L o ho (I.ok.frf L hL) hL fun z => I.ok.exfs L z hL
      exact ⟨hk,⟨L,_,hf,hn,e,hd⟩,ih (fun b hb => hs b (by unfold frs; rw [List.filterMap_cons,hf]; exact List.mem_cons_of_mem _ hb)) hr⟩
  exact all X.outer (fun _ hb => hb) I.ok.funs
theorem Inv.stack (I:Inv X pins σ H s):s.heap.FunFrames X.base X.stack:=by
  rcases I.ok.stk with e | ⟨e,hf⟩
  · rw [e]; exact I.funs
  · rw [e]
    obtain ⟨m,hn,_⟩:=I.loc
    refine .cons (by rw [I.ok.kind]; decide) hf hn ?_ I.funs
    exact Heap.get?_none_of_le (Nat.le_trans I.ok.bsz I.ok.above)
theorem Inv.stkSub (I:Inv X pins σ H s):∀ b ∈ frs X.stack,b ∈ X.env.locals :: X.fs:=fun b hb => by
  rcases I.ok.stk with e | ⟨e,hf⟩
  · rw [e] at hb; exact List.mem_cons_of_mem _ hb
  · rw [e] at hb
    unfold frs at hb
    rw [List.filterMap_cons,hf] at hb
    exact hb
theorem Inv.stkFree (I:Inv X pins σ H s):∀ b ∈ frs X.stack,H b = none:=fun b hb => by
  rcases List.mem_cons.mp (I.stkSub b hb) with e | hb
  · rw [e]; exact I.free
  · obtain ⟨_,o,ho,_⟩:=I.ok.funs.mem hb
    exact I.base.free b o ho (I.ok.frf b hb) fun z => I.ok.exfs b z hb
theorem Inv.step {g':Array GenState} {t':Nat} {d':Drawn} {ch:List Addr} (I:Inv X pins σ H s)
    (hch:∀ b ∈ ch,(b ∈ X.ex ∨ X.s₀.heap.objs.size ≤ b) ∧ b ≠ X.env.locals ∧ (∀ x c,X.env.cells.lookup x = some c → c ≠ b) ∧ ∀ p ∈ X.pn ++ pins,p.1 ≠ b)
    (keep:∀ b o,b ≠ X.env.locals → b ∉ X.fs → b ∉ ch → s.heap.get? b = some o → H b = none → h'.get? b = some o)
    (slot:∀ b o,b ≠ X.env.locals → b ∈ X.fs → b ∉ ch → s.heap.get? b = some o → H b = none → ∃ sl,h'.get? b = some { o with slots:=sl }) (free:∀ b o,b ∉ ch → s.heap.get? b = some o → H b = none → H' b = none)
    (there:∀ b o,b ∉ ch → s.heap.get? b = some o → ∃ o',h'.get? b = some o')
    (tups:∀ b xs,H b = some (.tup xs) → H' b = some (.tup xs)) (frzs:∀ b o u,H b = some (.frz o u) → H' b = some (.frz o u)) (tbls:∀ b ps,H b = some (.tbl ps) → ∃ more,H' b = some (.tbl (ps ++ more)))
    (ns:∀ m,s.heap.Ns X.env.locals m → h'.Ns X.env.locals m) (hok:HOk X.prog X.w H' h') (hg:AllBare g') :
    Inv X pins σ H' { s with heap:=h',gens:=g',drawn:=d',toks:=t' }:=by
  have neL:∀ b o,X.s₀.heap.get? b = some o → b ≠ X.env.locals:=fun b o e => Nat.ne_of_lt (Nat.lt_of_lt_of_le (Heap.lt_size e) I.ok.above)
  have neC:∀ b o,X.s₀.heap.get? b = some o → b ∉ X.ex → b ∉ ch:=fun b o e hx hb => by
    rcases (hch b hb).1 with z | z
    · exact hx z
    · exact absurd (Nat.lt_of_lt_of_le (Heap.lt_size e) z) (Nat.lt_irrefl _)
  have cellK:∀ x c,X.env.cells.lookup x = some c → ∀ v,s.heap.IsCell c v → h'.IsCell c v:=fun x c e v ⟨o,ho,hd⟩ => by
    have nch:c ∉ ch:=fun z => (hch c z).2.2.1 x c e rfl
    by_cases hc:c ∈ X.fs
    · obtain ⟨sl,q⟩:=slot c o (I.cne x c e) hc nch ho (I.freeC x c e)
      exact ⟨_,q,hd⟩
    · exact ⟨o,keep c o (I.cne x c e) hc nch ho (I.freeC x c e),hd⟩
  refine ⟨I.ok,I.os,hg,⟨fun b o e n hb hx => ?_,fun b o e n hb hx => ?_,fun b o e n hx => ?_,fun b o e hx => ?_,fun b xs e => tups b xs (I.base.tups b xs e),fun b o xs e => frzs b o xs (I.base.frzs b o xs e),fun b ps e => ?_⟩,?_,fun x c e => ?_,?_,fun x c e => ?_,fun p hp => ?_,hok,I.len⟩
  · exact keep b o (neL b o e) hb (neC b o e hx) (I.base.keep b o e n hb hx) (I.base.free b o e n hx)
  · obtain ⟨sl,e1⟩:=I.base.slot b o e n hb hx
    obtain ⟨sl',e2⟩:=slot b _ (neL b o e) hb (neC b o e hx) e1 (I.base.free b o e n hx)
    exact ⟨sl',e2⟩
  · obtain ⟨o',e1⟩:=I.base.there b o e hx
    exact free b o' (neC b o e hx) e1 (I.base.free b o e n hx)
  · obtain ⟨o',e1⟩:=I.base.there b o e hx
    exact there b o' (neC b o e hx) e1
  · obtain ⟨m1,e1⟩:=I.base.tbls b ps e
    obtain ⟨m2,e2⟩:=tbls b _ e1
    exact ⟨m1 ++ m2,by rw [e2,Array.append_assoc]⟩
  · obtain ⟨m,hn,hl⟩:=I.loc
    refine ⟨m,ns m hn,fun i x v e1 e2 e3 => ?_⟩
    obtain ⟨u,r,l⟩:=hl i x v e1 e2 e3
    refine ⟨u,r,?_⟩
    rcases l with l | ⟨k,c,e,z⟩
    · exact .inl l
    · exact .inr ⟨k,c,e,cellK x c e _ z⟩
  · obtain ⟨v,z⟩:=I.cell x c e
    exact ⟨v,cellK x c e v z⟩
  · obtain ⟨m,⟨o,_,_,ho,_⟩,_⟩:=I.loc
    exact free _ o (fun z => (hch _ z).2.1 rfl) ho I.free
  · obtain ⟨v,o,ho,hd⟩:=I.cell x c e
    exact free c o (fun z => (hch c z).2.2.1 x c e rfl) ho (I.freeC x c e)
  · obtain ⟨e,n,ne,nf,d⟩:=I.pin p hp
    have nch:p.1 ∉ ch:=fun z => (hch p.1 z).2.2.2 p hp rfl
    exact ⟨keep p.1 p.2 ne nf nch e n,free p.1 p.2 nch e n,ne,nf,d⟩
theorem Inv.un {t':Nat} (I:Inv X pins σ H s) (u:Un X.fs [] H H' s.heap h') (hok:HOk X.prog X.w H' h'):Inv X pins σ H' { s with heap:=h',toks:=t' }:=by
  obtain ⟨m,⟨o,es,ep,ho,r⟩,_⟩:=id I.loc
  obtain ⟨sl,hL⟩:=u.any ho I.free (by simp)
  exact I.step (g':=s.gens) (d':=s.drawn) (ch:=[]) (fun _ z => nomatch z) (fun b o _ hb _ e n => u.keep b o e n hb (by simp)) (fun b o _ hb _ e n => u.slot b o e n hb (by simp)) (fun b o _ e n => u.free b o e n (by simp)) (fun b o _ e => u.there b o e (by simp)) u.tups u.frzs u.tbls (fun m' hm => by
    obtain ⟨o',es',ep',ho',r'⟩:=hm
    rw [ho] at ho'; cases ho'
    exact ⟨_,es',ep',hL,r'⟩) hok I.bare
theorem Inv.call {g':Array GenState} {t':Nat} {d':Drawn} {ch:List Addr} (I:Inv X pins σ H s) (u:Un (frs X.stack) ch H H' s.heap h') (hok:HOk X.prog X.w H' h') (hg:AllBare g')
    (hch:∀ b ∈ ch,(b ∈ X.ex ∨ X.s₀.heap.objs.size ≤ b) ∧ b ≠ X.env.locals ∧ (∀ x c,X.env.cells.lookup x = some c → c ≠ b) ∧ ∀ p ∈ X.pn ++ pins,p.1 ≠ b) :
    Inv X pins σ H' { s with heap:=h',gens:=g',drawn:=d',toks:=t' }:=by
  obtain ⟨m,⟨o,es,ep,ho,r⟩,_⟩:=id I.loc
  obtain ⟨sl,hL⟩:=u.any ho I.free fun z => (hch _ z).2.1 rfl
  exact I.step (ch:=ch) hch (fun b o hL hb hc e n => u.keep b o e n (fun z => (List.mem_cons.mp (I.stkSub b z)).elim hL hb) hc) (fun b o _ _ hc e n => u.any e n hc) (fun b o hc e n => u.free b o e n hc) (fun b o hc e => u.there b o e hc) u.tups u.frzs u.tbls (fun m' hm => by
    obtain ⟨o',es',ep',ho',r'⟩:=hm
    rw [ho] at ho'; cases ho'
    exact ⟨_,es',ep',hL,r'⟩) hok hg
theorem Inv.turned {t':Nat} {it:Addr} (I:Inv X pins σ H s) (k:∀ b o,b ≠ it → s.heap.get? b = some o → h'.get? b = some o) (hn:H it = none) (hL:it ≠ X.env.locals)
    (h1:it ∈ X.ex ∨ X.s₀.heap.objs.size ≤ it) (h2:∀ x c,X.env.cells.lookup x = some c → c ≠ it) (h3:∀ p ∈ X.pn ++ pins,p.1 ≠ it):Inv X pins σ H { s with heap:=h',toks:=t' }:=by
  have nit:∀ b u,H b = some u → b ≠ it:=fun b u e z => by rw [z,hn] at e; cases e
  refine I.step (g':=s.gens) (d':=s.drawn) (ch:=[it]) (fun b hb => ?_) (fun b o _ _ hc e _ => k b o (fun z => hc (by simp [z])) e) (fun b o _ _ hc e _ => ⟨o.slots,k b o (fun z => hc (by simp [z])) e⟩) (fun _ _ _ _ n => n)
    (fun b o hc e => ⟨o,k b o (fun z => hc (by simp [z])) e⟩) (fun _ _ e => e) (fun _ _ _ e => e) (fun b ps e => ⟨#[],by rw [e]; simp⟩) (fun m hm => ?_) (fun b u e => ?_) I.bare
  · have e:b = it:=by simpa using hb
    subst e
    exact ⟨h1,hL,h2,h3⟩
  · obtain ⟨o,es,ep,ho,r⟩:=hm
    exact ⟨o,es,ep,k _ o (Ne.symm hL) ho,r⟩
  · refine (I.hok b u e).stay (fun c v hc q => k c v ?_ q) (fun _ q => q) fun _ _ q => q
    rcases hc with z | z
    · rw [z]; exact nit b u e
    · exact nit c _ z
theorem Inv.tok (I:Inv X pins σ H s) (t:Nat):Inv X pins σ H { s with toks:=t }:=I.un (h':=s.heap) (t':=t) Un.refl I.hok
theorem Inv.kept {t':Nat} (I:Inv X pins σ H s) (k:∀ b u,s.heap.get? b = some u → h'.get? b = some u):Inv X pins σ H { s with heap:=h',toks:=t' }:=I.un (Un.kept k) (I.hok.kept k)
theorem Inv.laid {a:Addr} {o:HO} {t':Nat} (I:Inv X pins σ H s) (k:∀ b u,s.heap.get? b = some u → h'.get? b = some u) (hp:s.heap.objs.size ≤ a) (new:ObjOk X.prog X.w (upd H a o) h' a o) :
    Inv X pins σ (upd H a o) { s with heap:=h',toks:=t' }:=I.un (Un.laid k hp (I.hok.fresh hp)) (I.hok.laid k hp new)
theorem Inv.write {x e:Addr} {o:HO} {t':Nat} (I:Inv X pins σ H s) (mu:Mut (H x)) (he:e = x ∨ H e = some (.own x)) (k:∀ b u,b ≠ e → s.heap.get? b = some u → h'.get? b = some u) (heo:∃ u,h'.get? e = some u)
    (new:ObjOk X.prog X.w (upd H x o) h' x o):Inv X pins σ (upd H x o) { s with heap:=h',toks:=t' }:=I.un (Un.write mu he k heo) (I.hok.write mu he k heo new)
theorem Inv.weak {σ':List (Option V)} (I:Inv X pins σ H s) (hl:σ'.length = σ.length) (w:∀ (i:Nat) v,σ'[i]? = some (some v) → σ[i]? = some (some v)):Inv X pins σ' H s :=
  ⟨I.ok,I.os,I.bare,I.base,let ⟨m,hn,hl'⟩:=I.loc; ⟨m,hn,fun i x v e1 e2 e3 => hl' i x v e1 (w i v e2) e3⟩,I.cell,I.free,I.freeC,I.pin,I.hok,hl.trans I.len⟩
theorem Inv.pins_of {pins':List (Addr × Obj)} (I:Inv X pins σ H s) (h:∀ p ∈ pins',s.heap.get? p.1 = some p.2 ∧ H p.1 = none ∧ p.1 ≠ X.env.locals ∧ p.1 ∉ X.fs ∧ ∀ v,p.2.data ≠ .cell v):Inv X pins' σ H s :=
  ⟨I.ok,I.os,I.bare,I.base,I.loc,I.cell,I.free,I.freeC,fun p hp => (List.mem_append.mp hp).elim (fun z => I.pin p (List.mem_append_left _ z)) (h p),I.hok,I.len⟩
theorem nodup_ix {N:List Str} (hN:N.Nodup) {i j:Nat} {x:Str} (a:N[i]? = some x) (b:N[j]? = some x):i = j:=by
  obtain ⟨h1,e1⟩:=List.getElem?_eq_some_iff.mp a
  obtain ⟨h2,e2⟩:=List.getElem?_eq_some_iff.mp b
  exact (List.getElem_inj hN).mp (e1.trans e2.symm)
theorem store_ok2 {M:Model} {A:Around} {E:Value → Shared → Prop} {i:Nat} {x:Str} {v:V} {u:Value} {Q:Unit → Shared → Prop} (I:Inv X pins σ H s) (hN:X.N.Nodup) (hi:X.N[i]? = some x) (hx:Loc X.env.scope x) (r:RelV v u)
    (h:∀ s',Inv X pins (σ.set i (some v)) H s' → (∃ a,Heap.SameBut a s.heap s'.heap ∧ (a = X.env.locals ∨ X.env.cells.lookup x = some a)) → Q () s') (hf:X.fn x = true ∨ X.env.scope.names.lookup x = some .local:=by first | exact .inl rfl | exact .inr rfl | assumption):wpAny M A (storeName X.env x u) Q E s:=by
  obtain ⟨m,hn,hl⟩:=id I.loc
  have hcls:(X.env.scope.kind == .class || (X.env.scope.kind == .module && X.env.locals != X.env.globals)) = false:=by rw [I.ok.kind]; rfl
  have hiσ:i < σ.length:=by rw [I.len]; exact (List.getElem?_eq_some_iff.mp hi).1
  have cne:=I.cne
  have tracked:∀ {a:Addr} {h':Heap},(∃ o,s.heap.get? a = some o ∧ H a = none) → Heap.SameBut a s.heap h' → HOk X.prog X.w H h':=fun {a h'} ha hs b ob e => by
    obtain ⟨_,_,hfree⟩:=ha
    refine (I.hok b ob e).stay (fun c w' hc q => (hs.2 c ?_).trans q) (fun _ q => q) fun _ _ q => q
    rintro rfl
    rcases hc with rfl | hc
    · rw [hfree] at e; cases e
    · rw [hfree] at hc; cases hc
  rcases hx with hk | hk
  · refine wpAny_storeName_local hk hn (fun h' hn' hs => ?_) hcls
    obtain ⟨oL,_,_,hoL,_⟩:=id hn
    refine h _ ⟨I.ok,I.os,I.bare,⟨fun b o e n hb hx => ?_,fun b o e n hb hx => ?_,I.base.free,fun b o e hx => ?_,I.base.tups,I.base.frzs,I.base.tbls⟩,⟨_,hn',fun j y v' e1 e2 e3 => ?_⟩,fun y c e => ?_,I.free,I.freeC,fun p hp => ?_,tracked ⟨oL,hoL,I.free⟩ hs,by simpa using I.len⟩ ⟨_,hs,.inl rfl⟩
    · exact (hs.2 b (Nat.ne_of_lt (Nat.lt_of_lt_of_le (Heap.lt_size e) I.ok.above))).trans (I.base.keep b o e n hb hx)
    · obtain ⟨sl,e1⟩:=I.base.slot b o e n hb hx
      exact ⟨sl,(hs.2 b (Nat.ne_of_lt (Nat.lt_of_lt_of_le (Heap.lt_size e) I.ok.above))).trans e1⟩
    · obtain ⟨o',e1⟩:=I.base.there b o e hx
      exact ⟨o',(hs.2 b (Nat.ne_of_lt (Nat.lt_of_lt_of_le (Heap.lt_size e) I.ok.above))).trans e1⟩
    · by_cases hj:j = i
      · subst hj
        rw [hi] at e1; cases e1
        rw [List.getElem?_set_self hiσ] at e2
        cases e2
        exact ⟨u,r,.inl ⟨hk,by simp⟩⟩
      · rw [List.getElem?_set_ne (Ne.symm hj)] at e2
        obtain ⟨u',r',q⟩:=hl j y v' e1 e2 e3
        refine ⟨u',r',?_⟩
        rcases q with ⟨k,e⟩ | ⟨k,c,e,z⟩
        · refine .inl ⟨k,?_⟩
          have:y ≠ x:=fun e => hj (nodup_ix hN e1 (e ▸ hi))
          simp [this,e]
        · exact .inr ⟨k,c,e,z.sameBut hs (cne y c e)⟩
    · obtain ⟨w',z⟩:=I.cell y c e
      exact ⟨w',z.sameBut hs (cne y c e)⟩
    · obtain ⟨e,n,ne,nf,d⟩:=I.pin p hp
      exact ⟨(hs.2 p.1 ne).trans e,n,ne,nf,d⟩
  · have hfn:X.fn x = true:=by
      rcases hf with z | z
      · exact z
      · rw [z] at hk; cases hk
    obtain ⟨c,hc⟩:=I.ok.has x (.inl hk)
    obtain ⟨w',z⟩:=I.cell x c hc
    refine wpAny_storeName_cell I.ok.kind hk hc z (fun h' hc' hs => ?_)
    obtain ⟨oc,hoc,hocd⟩:=id z
    refine h { s with heap:=h' } ⟨I.ok,I.os,I.bare,⟨fun b o e n hb hx => ?_,fun b o e n hb hx => ?_,I.base.free,fun b o e hx => ?_,I.base.tups,I.base.frzs,I.base.tbls⟩,⟨m,hn.sameBut hs (Ne.symm (cne x c hc)),fun j y v' e1 e2 e3 => ?_⟩,fun y c' e => ?_,I.free,I.freeC,fun p hp => ?_,tracked ⟨oc,hoc,I.freeC x c hc⟩ hs,by simpa using I.len⟩ ⟨c,hs,.inr hc⟩
    · exact (hs.2 b (Nat.ne_of_lt (Nat.lt_of_lt_of_le (Heap.lt_size e) (I.ok.cab x c hfn hc)))).trans (I.base.keep b o e n hb hx)
    · obtain ⟨sl,e1⟩:=I.base.slot b o e n hb hx
      exact ⟨sl,(hs.2 b (Nat.ne_of_lt (Nat.lt_of_lt_of_le (Heap.lt_size e) (I.ok.cab x c hfn hc)))).trans e1⟩
    · obtain ⟨o',e1⟩:=I.base.there b o e hx
      exact ⟨o',(hs.2 b (Nat.ne_of_lt (Nat.lt_of_lt_of_le (Heap.lt_size e) (I.ok.cab x c hfn hc)))).trans e1⟩
    · by_cases hj:j = i
      · subst hj
        rw [hi] at e1; cases e1
        rw [List.getElem?_set_self hiσ] at e2
        cases e2
        exact ⟨u,r,.inr ⟨.inl hk,c,hc,hc'⟩⟩
      · rw [List.getElem?_set_ne (Ne.symm hj)] at e2
        obtain ⟨u',r',q⟩:=hl j y v' e1 e2 e3
        refine ⟨u',r',?_⟩
        rcases q with q | ⟨k,c',e,z'⟩
        · exact .inl q
        · refine .inr ⟨k,c',e,z'.sameBut hs ?_⟩
          rintro rfl
          exact hj (nodup_ix hN e1 (I.ok.inj _ _ _ e hc ▸ hi))
    · by_cases hcc:c' = c
      · subst hcc; exact ⟨_,hc'⟩
      · obtain ⟨w2,z2⟩:=I.cell y c' e
        exact ⟨w2,z2.sameBut hs hcc⟩
    · obtain ⟨e,n,ne,nf,d⟩:=I.pin p hp
      refine ⟨(hs.2 p.1 ?_).trans e,n,ne,nf,d⟩
      intro q
      rw [q,hoc] at e
      have q':oc = p.2:=Option.some.inj e
      exact d w' (by rw [← q']; exact hocd)
theorem store_ok {M:Model} {A:Around} {E:Value → Shared → Prop} {i:Nat} {x:Str} {v:V} {u:Value} {Q:Unit → Shared → Prop} (I:Inv X pins σ H s) (hN:X.N.Nodup) (hi:X.N[i]? = some x) (hx:Loc X.env.scope x) (r:RelV v u)
    (h:∀ s',Inv X pins (σ.set i (some v)) H s' → Q () s') (hf:X.fn x = true ∨ X.env.scope.names.lookup x = some .local:=by first | exact .inl rfl | exact .inr rfl | assumption):wpAny M A (storeName X.env x u) Q E s :=
  store_ok2 I hN hi hx r (fun s' I' _ => h s' I') hf
theorem Inv.call' {s':Shared} {ch:List Addr} (I:Inv X pins σ H s) (ho:s'.os = s.os) (u:Un (frs X.stack) ch H H' s.heap s'.heap) (hok:HOk X.prog X.w H' s'.heap) (hg:AllBare s'.gens)
    (hch:∀ b ∈ ch,(b ∈ X.ex ∨ X.s₀.heap.objs.size ≤ b) ∧ b ≠ X.env.locals ∧ (∀ x c,X.env.cells.lookup x = some c → c ≠ b) ∧ ∀ p ∈ X.pn ++ pins,p.1 ≠ b):Inv X pins σ H' s':=by
  obtain ⟨h',g',d',t',o'⟩:=s'
  have e:o' = s.os:=ho
  subst e
  exact I.call (g':=g') (t':=t') (d':=d') u hok hg hch
end
abbrev XK:=Value → Option Addr → Hp → Prop
abbrev St:=List (Option V)
abbrev VK:=V → Hp → Prop
abbrev TE:=St → Hp → VK → Prop
abbrev TT:=St → Hp → (Bool → Hp → Prop) → Prop
abbrev TA:=St → Hp → (List V → Hp → Prop) → Prop
structure Ends where
  nx:St → Hp → Prop
  rt:VK
  bk:St → Hp → Prop:=fun _ _ => False
  ct:St → Hp → Prop:=fun _ _ => False
abbrev TS:=Ends → St → Hp → Prop
def EP (X:Cx) (pins:List (Addr × Obj)) (σ:St) (Q:VK) (u:Value) (s':Shared):Prop:=∃ v H',Inv X pins σ H' s' ∧ RelV v u ∧ Q v H'
def TP (X:Cx) (pins:List (Addr × Obj)) (σ:St) (Q:Bool → Hp → Prop) (b:Bool) (s':Shared):Prop:=∃ H',Inv X pins σ H' s' ∧ Q b H'
def AP (X:Cx) (pins:List (Addr × Obj)) (σ:St) (Q:List V → Hp → Prop) (us:List Value) (s':Shared):Prop:=∃ vs H',Inv X pins σ H' s' ∧ Vals vs us ∧ Q vs H'
def SP (X:Cx) (pins:List (Addr × Obj)) (D:Ends) (f:Flow) (s':Shared):Prop :=
  match f with
  | .next => ∃ σ' H',Inv X pins σ' H' s' ∧ D.nx σ' H'
  | .brk => ∃ σ' H',Inv X pins σ' H' s' ∧ D.bk σ' H'
  | .cont => ∃ σ' H',Inv X pins σ' H' s' ∧ D.ct σ' H'
  | .ret u => ∃ v σ' H',Inv X pins σ' H' s' ∧ RelV v u ∧ D.rt v H'
def PE (X:Cx) (e:Expr) (t:TE):Prop :=
  ∀ (pins:List (Addr × Obj)) (s:Shared) (σ:St) (H:Hp) (Q:VK),Inv X pins σ H s → t σ H Q → wpAny (model X.prog X.w) X.A (eval e X.env) (EP X pins σ Q) X.xe s
def PT (X:Cx) (e:Expr) (t:TT):Prop :=
  ∀ (pins:List (Addr × Obj)) (s:Shared) (σ:St) (H:Hp) (Q:Bool → Hp → Prop),Inv X pins σ H s → t σ H Q → wpAny (model X.prog X.w) X.A (isTrue e X.env (eval e X.env)) (TP X pins σ Q) X.xe s
def PW (X:Cx) (e:Expr) (t:TT):Prop :=
  ∀ (whole:Sem Value) (pins:List (Addr × Obj)) (s:Shared) (σ:St) (H:Hp) (Q:Bool → Hp → Prop),Inv X pins σ H s → t σ H Q → wpAny (model X.prog X.w) X.A (isTrue e X.env whole) (TP X pins σ Q) X.xe s
theorem PW.pt {X:Cx} {e:Expr} {t:TT} (h:PW X e t):PT X e t:=h _
def PA (X:Cx) (es:List Expr) (t:TA):Prop :=
  ∀ (pos:Pos) (pins:List (Addr × Obj)) (s:Shared) (σ:St) (H:Hp) (Q:List V → Hp → Prop),Inv X pins σ H s → t σ H Q → wpAny (model X.prog X.w) X.A (spliced (backTo pos (starEach es X.env))) (AP X pins σ Q) X.xe s
def PS (X:Cx) (st:Stmt) (t:TS):Prop :=
  ∀ (pins:List (Addr × Obj)) (s:Shared) (σ:St) (H:Hp) (D:Ends),Inv X pins σ H s → t D σ H → wpAny (model X.prog X.w) X.A (exec st X.env) (SP X pins D) X.xe s
def PSs (X:Cx) (st:List Stmt) (t:TS):Prop :=
  ∀ (pins:List (Addr × Obj)) (s:Shared) (σ:St) (H:Hp) (D:Ends),Inv X pins σ H s → t D σ H → wpAny (model X.prog X.w) X.A (execs st X.env) (SP X pins D) X.xe s
theorem thn {α:Type} {t:Sem α} {Q Q':α → Shared → Prop} {M:Model} {A:Around} {E:Value → Shared → Prop} {s:Shared} (h:wpAny M A t Q E s) (hQ:∀ a s,Q a s → Q' a s):wpAny M A t Q' E s:=wpAny_mono h hQ fun _ _ x => x
end L2
namespace L2
open PySem PySem.Spec PyProof.Rows
section
variable {X:Cx}
theorem bin {a b:Expr} {ta tb:TE} (ha:PE X a ta) (hb:PE X b tb) {pins:List (Addr × Obj)} {s:Shared} {σ:St} {H:Hp} {R:V → V → Hp → Prop} (I:Inv X pins σ H s) (h:ta σ H fun x H1 => tb σ H1 fun y H2 => R x y H2)
    {α:Type} {Q:α → Shared → Prop} {f:Value → Value → Sem α}
    (hf:∀ v u s2 x y H2,Inv X pins σ H2 s2 → RelV x v → RelV y u → R x y H2 → wpAny (model X.prog X.w) X.A (f v u) Q X.xe s2) :
    wpAny (model X.prog X.w) X.A (eval a X.env) (fun v s₁ => wpAny (model X.prog X.w) X.A (eval b X.env) (fun u s₂ => wpAny (model X.prog X.w) X.A (f v u) Q X.xe s₂) X.xe s₁) X.xe s:=by
  refine thn (ha pins s σ H _ I h) fun v s1 ⟨x,H1,I1,r1,q1⟩ => ?_
  refine thn (hb pins s1 σ H1 _ I1 q1) fun u s2 ⟨y,H2,I2,r2,q2⟩ => ?_
  exact hf v u s2 x y H2 I2 r1 r2 q2
def tVar (i:Nat):TE:=fun σ H Q => ∃ v,σ[i]? = some (some v) ∧ Q v H
def tC (v:V):TE:=fun _ H Q => Q v H
theorem pe_var {i:Nat} {x:Str} {pos:Pos} (hN:X.N[i]? = some x) (hv:Vis X.env.scope x) (hd:(x == ("__debug__" : Str)) = false:=by decide) (hcd:(x == ("__classdict__" : Str)) = false:=by decide):PE X (.Name x pos) (tVar i):=by
  intro pins s σ H Q I h
  obtain ⟨v,e,h⟩:=h
  obtain ⟨m,hn,hl⟩:=I.loc
  obtain ⟨u,r,l⟩:=hl i x v hN e hv
  have fin:EP X pins σ Q u s:=⟨v,H,I,r,h⟩
  rcases l with ⟨hk,hm⟩ | ⟨hk,c,hc,hcell⟩
  · exact wpAny_Name (wpAny_loadName_local I.ok.kind hk hn hm fin) hd
  · rcases hk with hk | hk
    · exact wpAny_Name (wpAny_loadName_cell I.ok.kind hk hc hcell fin) hd
    · exact wpAny_Name (wpAny_loadName_free I.ok.kind hk hc hcell fin hcd) hd
theorem pe_int {i j pos}:PE X (.Constant (.int i) j pos) (tC (.int i)):=fun _ _ _ H _ I h => wpAny_Constant_int ⟨.int i,H,I.tok _,⟨_,rfl⟩,h⟩
theorem pe_bl {b j pos}:PE X (.Constant (.bool b) j pos) (tC (.bl b)):=fun _ _ _ H _ I h => Constant_bool ⟨.bl b,H,I,rfl,h⟩
theorem pe_non {j pos}:PE X (.Constant .none j pos) (tC .non):=fun _ _ _ H _ I h => Constant_none ⟨.non,H,I,rfl,h⟩
theorem pe_str {x j pos}:PE X (.Constant (.str x) j pos) (tC (.str x)):=fun _ _ _ H _ I h => Calls.Constant_str ⟨.str x,H,I.tok _,⟨_,rfl⟩,h⟩
def Gl (X:Cx) (x:Str):Prop:=X.env.kindOf x = some .globalImplicit
theorem ld_glob {E:Value → Shared → Prop} {pins:List (Addr × Obj)} {s:Shared} {σ:St} {H:Hp} {x:Str} {u:Value} {pos:Pos} {Q:Value → Shared → Prop} (I:Inv X pins σ H s) (hg:Gl X x) (hm:X.mg x = some u) (h:Q u s)
    (hd:(x == ("__debug__" : Str)) = false:=by decide):wpAny (model X.prog X.w) X.A (eval (.Name x pos) X.env) Q E s :=
  Calls.Name_function_global I.ok.kind hg (Calls.loadGlobal_global (by rw [I.ok.glob]; exact I.mod.glob.keeps I.bk) hm h) hd
theorem ld_blt {E:Value → Shared → Prop} {pins:List (Addr × Obj)} {s:Shared} {σ:St} {H:Hp} {x:Str} {u:Value} {pos:Pos} {Q:Value → Shared → Prop} (I:Inv X pins σ H s) (hg:Gl X x) (hm:X.mg x = none) (hv:bootBuiltins x = some u) (h:Q u s)
    (hn:x ≠ "__name__" := by decide) (hd:(x == ("__debug__" : Str)) = false:=by decide):wpAny (model X.prog X.w) X.A (eval (.Name x pos) X.env) Q E s:=by
  obtain ⟨mb,h1,h2⟩:=I.mod.blt
  exact Calls.Name_function_global I.ok.kind hg (Calls.loadGlobal_builtin (by rw [I.ok.glob]; exact I.mod.glob.keeps I.bk) hm (by rw [I.ok.blt]; exact h1.keeps I.bk) ((h2 x hn).trans hv) h) hd
theorem pe_glob {x:Str} {v:V} {u:Value} {pos:Pos} (hg:Gl X x) (hm:X.mg x = some u) (r:RelV v u) (hd:(x == ("__debug__" : Str)) = false:=by decide):PE X (.Name x pos) (tC v) :=
  fun _ _ _ H _ I h => ld_glob I hg hm ⟨v,H,I,r,h⟩ hd
theorem pe_bltn {x:Str} {v:V} {u:Value} {pos:Pos} (hg:Gl X x) (hm:X.mg x = none) (hv:bootBuiltins x = some u) (r:RelV v u) (hn:x ≠ "__name__" := by decide) (hd:(x == ("__debug__" : Str)) = false:=by decide):PE X (.Name x pos) (tC v) :=
  fun _ _ _ H _ I h => ld_blt I hg hm hv ⟨v,H,I,r,h⟩ hn hd
variable {a b:Expr} {ta tb:TE} {pos:Pos}
variable {tA tB':TT} {rest:List Expr}
def tAnd (t u:TT):TT:=fun σ H Q => t σ H fun c H1 => if c = true then u σ H1 Q else Q false H1
def tOr (t u:TT):TT:=fun σ H Q => t σ H fun c H1 => if c = true then Q true H1 else u σ H1 Q
def tNot (t:TT):TT:=fun σ H Q => t σ H fun c H1 => Q (!c) H1
theorem pw_and1 (ha:PT X a tA):PW X (.BoolOp .And [a] pos) tA:=by
  intro wh pins s σ H Q I h
  refine isTrue_and (thn (ha pins s σ H Q I h) fun c s1 e => ?_)
  cases c with
  | true => exact isTrue_and_nil e
  | false => exact e
theorem pw_or1 (ha:PT X a tA):PW X (.BoolOp .Or [a] pos) tA:=by
  intro wh pins s σ H Q I h
  refine isTrue_or (thn (ha pins s σ H Q I h) fun c s1 e => ?_)
  cases c with
  | false => exact isTrue_or_nil e
  | true => exact e
theorem pw_and (ha:PT X a tA) (hb:PW X (.BoolOp .And (b :: rest) pos) tB'):PW X (.BoolOp .And (a :: b :: rest) pos) (tAnd tA tB'):=by
  intro wh pins s σ H Q I h
  refine isTrue_and (thn (ha pins s σ H _ I h) fun c s1 ⟨H1,I1,q1⟩ => ?_)
  cases c with
  | true => exact hb wh pins s1 σ H1 Q I1 q1
  | false => exact ⟨H1,I1,q1⟩
theorem pw_or (ha:PT X a tA) (hb:PW X (.BoolOp .Or (b :: rest) pos) tB'):PW X (.BoolOp .Or (a :: b :: rest) pos) (tOr tA tB'):=by
  intro wh pins s σ H Q I h
  refine isTrue_or (thn (ha pins s σ H _ I h) fun c s1 ⟨H1,I1,q1⟩ => ?_)
  cases c with
  | true => exact ⟨H1,I1,q1⟩
  | false => exact hb wh pins s1 σ H1 Q I1 q1
theorem pt_not (ha:PT X a tA):PT X (.UnaryOp .Not a pos) (tNot tA):=by
  intro pins s σ H Q I h
  exact isTrue_not (ha pins s σ H (fun c H1 => Q (!c) H1) I h)
theorem pe_one {op} {t:TE} (h:PE X a t):PE X (.BoolOp op [a] pos) t:=fun pins s σ H Q I hw => BoolOp_one (h pins s σ H Q I hw)
end
end L2
namespace L2
open PySem PySem.Spec PyProof.Rows
def SqL (K:PySem.W.Frag) (H:Hp) (a:Addr) (xs:List V):Prop :=
  Rd H a (.lst xs) ∨
    ∃ (o:Obj) (its:Array Value) (n:Nat),K.lookup a = some o ∧ o.cls = .type "list" ∧ o.dict = none ∧ o.data = .seq its n ∧ its.size ≤ sizeLine ∧ Vals xs its.toList
def SqT (K:PySem.W.Frag) (H:Hp) (a:Addr) (xs:List V):Prop :=
  Rd H a (.tup xs) ∨
    ∃ (o:Obj) (its:Array Value) (n:Nat),K.lookup a = some o ∧ o.cls = .type "tuple" ∧ o.data = .seq its n ∧ its.size ≤ sizeLine ∧ Vals xs its.toList
def absV:Value → Option V
  | .none => some .non
  | .bool b => some (.bl b)
  | .int i _ => some (.int i)
  | .str x _ => some (.str x)
  | .bytes b _ => some (.byt b)
  | .float b _ => some (.flt b)
  | .ref a => some (.ref a)
  | .type n => some (.ty n)
  | _ => none
theorem RelV.abs {x:V} {u:Value} (r:RelV x u):absV u = some x:=by
  cases x with
  | non => cases r; rfl
  | bl _ => cases r; rfl
  | int _ => obtain ⟨t,rfl⟩:=r; rfl
  | str _ => obtain ⟨t,rfl⟩:=r; rfl
  | byt _ => obtain ⟨t,rfl⟩:=r; rfl
  | flt _ => obtain ⟨t,rfl⟩:=r; rfl
  | ref _ => cases r; rfl
  | ty _ => cases r; rfl
theorem RelV.inj {x y:V} {u:Value} (r:RelV x u) (q:RelV y u):x = y:=Option.some.inj (r.abs.symm.trans q.abs)
theorem Vals.inj:∀ {xs ys:List V} {us:List Value},Vals xs us → Vals ys us → xs = ys
  | _,_,_,.nil,.nil => rfl
  | _,_,_,.cons r t,.cons r' t' => by rw [r.inj r',Vals.inj t t']
section
variable {X:Cx} {pins:List (Addr × Obj)} {σ:St} {H:Hp} {s:Shared} {a:Addr} {xs ys:List V}
theorem SqL.of {K:PySem.W.Frag} (h:H a = some (.lst xs)):SqL K H a xs:=.inl (.inl h)
theorem SqT.of {K:PySem.W.Frag} (h:H a = some (.tup xs)):SqT K H a xs:=.inl (.inl h)
theorem Inv.list (I:Inv X pins σ H s) (h:SqL X.K H a xs):∃ its:List Value,Vals xs its ∧ PlainL s.heap a its.toArray ∧ xs.length ≤ sizeLine:=by
  rcases h with h | ⟨o,its,n,hk,hc,hd,hs,hz,r⟩
  · obtain ⟨z,its,n,r,e⟩:=h.ok I.hok
    exact ⟨its,r,⟨_,n,e,rfl,rfl,rfl⟩,z⟩
  · refine ⟨its.toList,r,⟨o,n,I.kIn a o hk,hc,hd,by simpa using hs⟩,?_⟩
    have e:=r.length
    simp only [Array.length_toList] at e
    omega
theorem Inv.tuple (I:Inv X pins σ H s) (h:SqT X.K H a xs):∃ its:List Value,Vals xs its ∧ IsTup s.heap a its.toArray ∧ xs.length ≤ sizeLine:=by
  rcases h with h | ⟨o,its,n,hk,hc,hs,hz,r⟩
  · obtain ⟨z,its,r,p⟩:=h.ok I.hok
    exact ⟨its,r,p,z⟩
  · refine ⟨its.toList,r,⟨o,I.kIn a o hk,hc,n,by simpa using hs⟩,?_⟩
    have e:=r.length
    simp only [Array.length_toList] at e
    omega
theorem Inv.list_inj (I:Inv X pins σ H s) (h:SqL X.K H a xs) (h':SqL X.K H a ys):xs = ys:=by
  obtain ⟨its,r,⟨o,n,e,_,_,d⟩,_⟩:=I.list h
  obtain ⟨its',r',⟨o',n',e',_,_,d'⟩,_⟩:=I.list h'
  rw [e] at e'; cases e'
  rw [d] at d'
  injection d' with d1 _
  have:its = its':=by simpa using congrArg Array.toList d1
  subst this
  exact r.inj r'
end
abbrev Cx.wish (X:Cx) (E:Value → Shared → Prop):Cx:={ X with xe:=E }
abbrev Cx.nox (X:Cx):Cx:=X.wish fun _ _ => False
theorem Cx.Ok.wish {X:Cx} (ok:X.Ok) (E:Value → Shared → Prop):(X.wish E).Ok :=
  ⟨ok.mod,ok.kind,ok.glob,ok.blt,ok.above,ok.inj,ok.has,ok.cab,ok.hd,ok.frames,ok.stk,ok.exf,ok.bs,ok.bsz,ok.noex,ok.exfs,ok.funs,ok.frf⟩
theorem Cx.Ok.unwish {X:Cx} {E:Value → Shared → Prop} (ok:(X.wish E).Ok):X.Ok :=
  ⟨ok.mod,ok.kind,ok.glob,ok.blt,ok.above,ok.inj,ok.has,ok.cab,ok.hd,ok.frames,ok.stk,ok.exf,ok.bs,ok.bsz,ok.noex,ok.exfs,ok.funs,ok.frf⟩
section
variable {X:Cx} {pins:List (Addr × Obj)} {σ:St} {H:Hp} {s:Shared} {E:Value → Shared → Prop}
theorem Inv.wish (I:Inv X pins σ H s) (E:Value → Shared → Prop):Inv (X.wish E) pins σ H s:=⟨I.ok.wish E,I.os,I.bare,I.base,I.loc,I.cell,I.free,I.freeC,I.pin,I.hok,I.len⟩
theorem Inv.unwish (I:Inv (X.wish E) pins σ H s):Inv X pins σ H s:=⟨I.ok.unwish,I.os,I.bare,I.base,I.loc,I.cell,I.free,I.freeC,I.pin,I.hok,I.len⟩
theorem SP.unwish {D:Ends} {f:Flow} {s':Shared} (h:SP (X.wish E) pins D f s'):SP X pins D f s':=by
  cases f with
  | next => obtain ⟨σ',H',I,q⟩:=h; exact ⟨σ',H',I.unwish,q⟩
  | brk => obtain ⟨σ',H',I,q⟩:=h; exact ⟨σ',H',I.unwish,q⟩
  | cont => obtain ⟨σ',H',I,q⟩:=h; exact ⟨σ',H',I.unwish,q⟩
  | ret u => obtain ⟨v,σ',H',I,r,q⟩:=h; exact ⟨v,σ',H',I.unwish,r,q⟩
theorem PE.nox {e:Expr} {t:TE} (h:PE X.nox e t):PE X e t:=fun pins s σ H Q I hw =>
  wpAny_mono (h pins s σ H Q (I.wish _) hw) (fun _ _ ⟨v,H',I',r,q⟩ => ⟨v,H',I'.unwish,r,q⟩) fun _ _ z => False.elim z
theorem PT.nox {e:Expr} {t:TT} (h:PT X.nox e t):PT X e t:=fun pins s σ H Q I hw =>
  wpAny_mono (h pins s σ H Q (I.wish _) hw) (fun _ _ ⟨H',I',q⟩ => ⟨H',I'.unwish,q⟩) fun _ _ z => False.elim z
theorem PSs.nox {st:List Stmt} {t:TS} (h:PSs X.nox st t):PSs X st t:=fun pins s σ H D I hw =>
  wpAny_mono (h pins s σ H D (I.wish _) hw) (fun _ _ q => q.unwish) fun _ _ z => False.elim z
end
section
variable {X:Cx} {st:Stmt} {rest:List Stmt} {t u:TS} {e:Expr} {te:TE} {pos:Pos}
def tNext:TS:=fun D σ H => D.nx σ H
def tSeq (t u:TS):TS:=fun D σ H => t { D with nx:=u D } σ H
theorem pss_nil:PSs X [] tNext:=fun _ _ σ H _ I h => wpAny_execs_nil ⟨σ,H,I,h⟩
theorem pss_cons (h1:PS X st t) (h2:PSs X rest u):PSs X (st :: rest) (tSeq t u):=by
  intro pins s σ H D I h
  refine wpAny_execs_cons (thn (h1 pins s σ H { D with nx:=u D } I h) fun f s1 q => ?_)
  cases f with
  | next =>
    obtain ⟨σ',H',I',q⟩:=q
    exact h2 pins s1 σ' H' D I' q
  | ret v => exact q
  | brk => exact q
  | cont => exact q
theorem pss_one (h1:PS X st t):PSs X [st] t:=by
  intro pins s σ H D I h
  refine wpAny_execs_cons (thn (h1 pins s σ H D I h) fun f s1 q => ?_)
  cases f with
  | next => exact wpAny_execs_nil q
  | ret v => exact q
  | brk => exact q
  | cont => exact q
theorem Inv.quiet {pins:List (Addr × Obj)} {σ:St} {H:Hp} {s:Shared} (I:Inv X pins σ H s):interactive X.env = false:=by simp [interactive,I.ok.kind]
def tDrop (te:TE):TS:=fun D σ H => te σ H fun _ H1 => D.nx σ H1
theorem ps_expr (he:PE X e te) (hs:swapsWith e none pos.line X.env = pure false:=by rfl):PS X (.Expr e pos) (tDrop te):=by
  intro pins s σ H D I h
  exact wpAny_Expr_any (thn (he pins s σ H _ I h) fun v s1 ⟨x,H1,I1,r1,q1⟩ => ⟨σ,H1,I1,q1⟩) I.quiet hs
def tRet (te:TE):TS:=fun D σ H => te σ H D.rt
theorem ps_ret (he:PE X e te):PS X (.Return (some e) pos) (tRet te):=by
  intro pins s σ H D I h
  exact wpAny_Return_some (thn (he pins s σ H _ I h) fun v s1 ⟨x,H1,I1,r1,q1⟩ => ⟨x,σ,H1,I1,r1,q1⟩)
def tIfS (c:TT) (t u:TS):TS:=fun D σ H => c σ H fun b H1 => if b = true then t D σ H1 else u D σ H1
theorem ps_if {c:Expr} {a b:List Stmt} {tc:TT} (hc:PT X c tc) (ha:PSs X a t) (hb:PSs X b u):PS X (.If c a b pos) (tIfS tc t u):=by
  intro pins s σ H D I h
  refine wpAny_If (thn (hc pins s σ H _ I h) fun d s1 ⟨H1,I1,q1⟩ => ?_)
  cases d with
  | true => exact ha pins s1 σ H1 D I1 q1
  | false => exact hb pins s1 σ H1 D I1 q1
def tNever:TS:=fun _ _ _ => False
theorem ps_never:PS X st tNever:=fun _ _ _ _ _ _ h => h.elim
end
abbrev TG:=V → St → Hp → (St → Hp → Prop) → Prop
abbrev TGs:=List V → St → Hp → (St → Hp → Prop) → Prop
def PG (X:Cx) (target:Expr) (t:TG):Prop :=
  ∀ (pins:List (Addr × Obj)) (s:Shared) (σ:St) (H:Hp) (v:V) (u:Value) (Q:St → Hp → Prop),Inv X pins σ H s → RelV v u → t v σ H Q →
    wpAny (model X.prog X.w) X.A (assign target X.env u) (fun _ s' => ∃ σ' H',Inv X pins σ' H' s' ∧ Q σ' H') X.xe s
def PGs (X:Cx) (ts:List Expr) (t:TGs):Prop :=
  ∀ (pins:List (Addr × Obj)) (s:Shared) (σ:St) (H:Hp) (vs:List V) (us:List Value) (Q:St → Hp → Prop),Inv X pins σ H s → Vals vs us → t vs σ H Q →
    wpAny (model X.prog X.w) X.A (assignInOrder ((assignEach ts X.env).map (·.2)) us) (fun _ s' => ∃ σ' H',Inv X pins σ' H' s' ∧ Q σ' H') X.xe s
abbrev TSet:=V → V → V → Hp → (Hp → Prop) → Prop
def PSet (X:Cx) (t:TSet):Prop :=
  ∀ (pins:List (Addr × Obj)) (s:Shared) (σ:St) (H:Hp) (o i v:V) (ov iv u:Value) (Q:Hp → Prop),Inv X pins σ H s → RelV o ov → RelV i iv → RelV v u → t o i v H Q →
    wpAny (model X.prog X.w) X.A (setItem ov iv u) (fun _ s' => ∃ H',Inv X pins σ H' s' ∧ Q H') X.xe s
section
variable {X:Cx} {pos:Pos}
def gName (i:Nat):TG:=fun v σ H Q => Q (σ.set i (some v)) H
theorem pg_name {i:Nat} {x:Str} (hN:X.N.Nodup) (hi:X.N[i]? = some x) (hx:Loc X.env.scope x) (hf:X.fn x = true ∨ X.env.scope.names.lookup x = some .local:=by first | exact .inl rfl | exact .inr rfl | assumption):PG X (.Name x pos) (gName i):=by
  intro pins s σ H v u Q I r h
  exact wpAny_assign_Name (store_ok I hN hi hx r (fun s' I' => ⟨_,H,I',h⟩) hf)
def gNil:TGs:=fun vs σ H Q => vs = [] ∧ Q σ H
def gCons (t:TG) (u:TGs):TGs:=fun vs σ H Q => ∃ v r,vs = v :: r ∧ t v σ H fun σ' H' => u r σ' H' Q
theorem pgs_nil:PGs X [] gNil:=by
  intro pins s σ H vs us Q I r h
  obtain ⟨e,h⟩:=h
  subst e
  cases r
  exact assignInOrder_nil ⟨σ,H,I,h⟩
theorem pgs_cons {e:Expr} {es:List Expr} {t:TG} {u:TGs} (h1:PG X e t) (h2:PGs X es u)
    (hs:(assignEach (e :: es) X.env).map (·.2) = assign e X.env :: (assignEach es X.env).map (·.2):=by rfl):PGs X (e :: es) (gCons t u):=by
  intro pins s σ H vs us Q I r h
  obtain ⟨v,vr,e1,h⟩:=h
  subst e1
  cases r with
  | cons r rr =>
    rw [hs]
    refine assignInOrder_cons (thn (h1 pins s σ H _ _ _ I r h) fun _ s1 ⟨σ1,H1,I1,q1⟩ => ?_)
    exact h2 pins s1 σ1 H1 _ _ Q I1 rr q1
def gTup (K:PySem.W.Frag) (n:Nat) (t:TGs):TG:=fun v σ H Q => ∃ a xs,v = .ref a ∧ SqT K H a xs ∧ xs.length = n ∧ t xs σ H Q
theorem pg_tup {es:List Expr} {k:Nat} {t:TGs} {n:Nat} (hc:X.calm = true) (h:PGs X es t)
    (hn:(assignEach es X.env).length = n:=by rfl) (hst:(assignEach es X.env).findIdx? (·.1) = none:=by rfl):PG X (.Tuple es k pos) (gTup X.K n t):=by
  intro pins s σ H v u Q I r hw
  obtain ⟨a,xs,e1,hq,hl,hw⟩:=hw
  subst e1
  cases r
  obtain ⟨its,rv,ht,hz⟩:=I.tuple hq
  refine assign_Tuple_tuple (I.ok.hd hc) ht (by simp [hn,← hl,rv.length]) hst fun h' hx => ?_
  have I1:Inv X pins σ H { s with heap:=h' }:=I.kept (t':=s.toks) fun b o e => hx b o (Nat.ne_of_lt (Heap.lt_size e)) e
  exact h pins _ σ H xs _ Q I1 (by simpa using rv) hw
def gSub (to ti:TE) (t:TSet):TG:=fun v σ H Q => to σ H fun o H1 => ti σ H1 fun i H2 => t o i v H2 fun H3 => Q σ H3
theorem pg_sub {o i:Expr} {to ti:TE} {t:TSet} (ho:PE X o to) (hi:PE X i ti) (hs:PSet X t)
    (ha:∀ v,assign (.Subscript o i pos) X.env v = (do
      let ov ← holding [v] (eval o X.env)
      let iv ← holding [v,ov] (eval i X.env)
      standAt pos
      holding [v,ov,iv] (setItem ov iv v)
      release [v,ov,iv] []):=by intro _; rfl):PG X (.Subscript o i pos) (gSub to ti t):=by
  intro pins s σ H v u Q I r h
  rw [ha]
  refine wpAny_bind (wpAny_holding (thn (ho pins s σ H _ I h) fun ov s1 ⟨x,H1,I1,r1,q1⟩ => ?_))
  refine wpAny_bind (wpAny_holding (thn (hi pins s1 σ H1 _ I1 q1) fun iv s2 ⟨y,H2,I2,r2,q2⟩ => ?_))
  refine wpAny_bind (wpAny_standAt (wpAny_bind (wpAny_holding (thn (hs pins s2 σ H2 x y v ov iv u _ I2 r1 r2 r q2) fun _ s3 ⟨H3,I3,q3⟩ => ?_))))
  exact wpAny_release ⟨σ,H3,I3,q3⟩
def tAsg (te:TE) (g:TG):TS:=fun D σ H => te σ H fun x H1 => g x σ H1 D.nx
theorem ps_asg {tg e:Expr} {te:TE} {g:TG} (he:PE X e te) (hg:PG X tg g) (hs:swapsWithSole [tg] e pos.line X.env = pure false:=by rfl) (hw:swappedStores [tg] e X.env = pure none:=by rfl)
    (h1:(assignEach [tg] X.env).map (·.2) = [assign tg X.env]:=by rfl):PS X (.Assign [tg] e pos) (tAsg te g):=by
  intro pins s σ H D I h
  refine wpAny_Assign_stores (thn (he pins s σ H _ I h) fun v s1 ⟨x,H1,I1,r1,q1⟩ => ?_) hs hw
  rw [h1]
  exact thn (hg pins s1 σ H1 x v _ I1 r1 q1) fun _ s2 q => q
theorem ps_set {i:Nat} {x:Str} {e:Expr} {te:TE} {pos':Pos} (hN:X.N.Nodup) (hi:X.N[i]? = some x) (hx:Loc X.env.scope x) (he:PE X e te) (hs:swapsWith e (some (.Name x pos')) pos.line X.env = pure false:=by rfl) (hf:X.fn x = true ∨ X.env.scope.names.lookup x = some .local:=by first | exact .inl rfl | exact .inr rfl | assumption) :
    PS X (.Assign [.Name x pos'] e pos) (tAsg te (gName i)):=by
  intro pins s σ H D I h
  refine wpAny_Assign_Name (thn (he pins s σ H _ I h) fun v s1 ⟨y,H1,I1,r1,q1⟩ => ?_) hs
  exact store_ok I1 hN hi hx r1 (fun s2 I2 => ⟨_,H1,I2,q1⟩) hf
end
section
variable {X:Cx} {pos:Pos}
def tWhile (c:TT) (tb:TS):TS:=fun D σ H => ∃ W:Nat → St → Hp → Prop,(∃ m,W m σ H) ∧ ∀ m σ H,W m σ H →
  c σ H fun b H1 => if b = true then ∃ N:St → Hp → Prop,(∀ σ' H',N σ' H' → ∃ m',m' < m ∧ W m' σ' H') ∧ tb { D with nx:=N,ct:=N,bk:=D.nx } σ H1 else D.nx σ H1
theorem ps_while {c:Expr} {body:List Stmt} {tc:TT} {tb:TS} (hp:PassesOwn (model X.prog X.w) X.A X.env X.xe) (hc:PT X c tc) (hb:PSs X body tb):PS X (.While c body [] pos) (tWhile tc tb):=by
  intro pins s σ H D I h
  obtain ⟨W,⟨m0,w0⟩,turn⟩:=h
  refine wpAny_While (codeAny_whileLoop (fun n s' => ∃ σ' H',Inv X pins σ' H' s' ∧ W n σ' H') ?_ m0 ⟨σ,H,I,w0⟩)
  rintro n s1 ⟨σ1,H1,I1,w1⟩
  refine wpAny_passesOwn hp (thn (hc pins s1 σ1 H1 _ I1 (turn n σ1 H1 w1)) fun b s2 ⟨H2,I2,q2⟩ => ?_)
  cases b with
  | true =>
    obtain ⟨N,hN,q2⟩:=q2
    rw [if_pos rfl]
    refine wpAny_passesOwn hp (thn (hb pins s2 σ1 H2 _ I2 q2) fun f s3 q3 => ?_)
    cases f with
    | next =>
      obtain ⟨σ3,H3,I3,n3⟩:=q3
      obtain ⟨m',hm,w3⟩:=hN σ3 H3 n3
      exact ⟨m',hm,σ3,H3,I3,w3⟩
    | cont =>
      obtain ⟨σ3,H3,I3,n3⟩:=q3
      obtain ⟨m',hm,w3⟩:=hN σ3 H3 n3
      exact ⟨m',hm,σ3,H3,I3,w3⟩
    | brk => exact q3
    | ret v => exact q3
  | false =>
    rw [if_neg Bool.false_ne_true]
    exact wpAny_execs_nil ⟨σ1,H2,I2,q2⟩
end
structure It where
  go:Nat → Hp → Prop
  yld:Nat → Hp → V → Hp → Prop
  stop:Nat → Hp → Prop
def FpOk (X:Cx) (pins:List (Addr × Obj)) (H:Hp) (b:Addr):Prop :=
  H b = none ∧ b ≠ X.env.locals ∧ b ∉ X.fs ∧ (b ∈ X.ex ∨ X.s₀.heap.objs.size ≤ b) ∧ (∀ x c,X.env.cells.lookup x = some c → c ≠ b) ∧ ∀ p ∈ X.pn ++ pins,p.1 ≠ b
theorem Inv.fpOk {X:Cx} {pins:List (Addr × Obj)} {σ:St} {H H':Hp} {s:Shared} {b:Addr} (I:Inv X pins σ H s) (hb:s.heap.objs.size ≤ b) (hn:H' b = none):FpOk X pins H' b:=by
  refine ⟨hn,Nat.ne_of_gt (Nat.lt_of_lt_of_le I.lt hb),I.nofs hb,.inr (Nat.le_trans I.sz hb),fun x c e z => ?_,fun p hp z => ?_⟩
  · obtain ⟨v,q⟩:=I.cell x c e
    exact absurd (Nat.lt_of_lt_of_le q.lt (by rw [z]; exact hb)) (Nat.lt_irrefl _)
  · exact absurd (Nat.lt_of_lt_of_le (Heap.lt_size (I.pin p hp).1) (by rw [z]; exact hb)) (Nat.lt_irrefl _)
structure Turn (P:Program) (w:World) (K:PySem.W.Frag) (tg:Expr) (J:It) (fp:List Addr) (it:Addr) (tn:Nat → Heap → Prop):Prop where
  mem:it ∈ fp
  obj:∀ i h,tn i h → ∀ b ∈ fp,∃ o,h.get? b = some o ∧ ∀ v,o.data ≠ .cell v
  keep:∀ i h h',tn i h → (∀ b ∈ fp,∀ o,h.get? b = some o → h'.get? b = some o) → tn i h'
  item:∀ (X:Cx),X.prog = P → X.w = w → X.K = K → X.calm = true → ∀ (i:Nat) (pins:List (Addr × Obj)) (s:Shared) (σ:St) (H:Hp) (E:Value → Shared → Prop),Inv X pins σ H s → (∀ b ∈ fp,FpOk X pins H b) → tn i s.heap → J.go i H →
    wpAny (model P w) X.A (pyNext (.ref it)) (fun r s1 => ∃ u,r = some u ∧
      wpAny (model P w) X.A (letOwnedTupleGo tg (.ref it) u) (fun _ s2 => ∃ x H',Inv X pins σ H' s2 ∧ RelV x u ∧ J.yld i H x H' ∧ tn (i + 1) s2.heap ∧ ∀ b ∈ fp,H' b = none) E s1) E s
  done:∀ (X:Cx),X.prog = P → X.w = w → X.K = K → X.calm = true → ∀ (i:Nat) (pins:List (Addr × Obj)) (s:Shared) (σ:St) (H:Hp) (E:Value → Shared → Prop),Inv X pins σ H s → (∀ b ∈ fp,FpOk X pins H b) → tn i s.heap → J.stop i H →
    wpAny (model P w) X.A (pyNext (.ref it)) (fun r s1 => r = none ∧ Inv X pins σ H s1) E s
  self:∀ (A:Around) (i:Nat) (s:Shared) (Q:Value → Shared → Prop) (E:Value → Shared → Prop),tn i s.heap → Q (.ref it) s → wpAny (model P w) A (pyIter (.ref it)) Q E s
abbrev TI:=St → Hp → (It → Hp → Prop) → Prop
def PIE (X:Cx) (pins:List (Addr × Obj)) (σ:St) (tg:Expr) (R:It → Hp → Prop) (itv:Value) (s2:Shared):Prop :=
  ∃ (it:Addr) (fp:List Addr) (tn:Nat → Heap → Prop) (J:It) (H':Hp),itv = .ref it ∧ Inv X pins σ H' s2 ∧ Turn X.prog X.w X.K tg J fp it tn ∧ tn 0 s2.heap ∧ (∀ b ∈ fp,FpOk X pins H' b) ∧ R J H'
def PI (X:Cx) (tg iter:Expr) (wi:TI):Prop :=
  ∀ (pins:List (Addr × Obj)) (s:Shared) (σ:St) (H:Hp) (R:It → Hp → Prop),Inv X pins σ H s → wi σ H R →
    wpAny (model X.prog X.w) X.A (eval iter X.env) (fun v s1 => wpAny (model X.prog X.w) X.A (pyIter v) (PIE X pins σ tg R) X.xe s1) X.xe s
theorem go_of {M:Model} {A:Around} {E:Value → Shared → Prop} {s:Shared} {tg:Expr} {it:Addr} {u:Value} {o:Obj} {n:String} {vs:Array Value} {Q:Unit → Shared → Prop} (ho:s.heap.get? it = some o) (hc:o.cls = .type n) (hd:o.data = .fields vs)
    (hn:["enumerate", "zip", "dict_itemiterator", "dict_reverseitemiterator", "odict_iterator", "itertools.zip_longest", "itertools.pairwise"].contains n = false) (hQ:Q () s):wpAny M A (letOwnedTupleGo tg (.ref it) u) Q E s:=by
  unfold letOwnedTupleGo
  cases tg <;> first
    | exact wpAny_pure hQ
    | (cases u <;> first
        | exact wpAny_pure hQ
        | (refine wpAny_bind (wpAny_load ho ?_)
           rw [hc,hd]
           show wpAny M A (if (["enumerate", "zip", "dict_itemiterator", "dict_reverseitemiterator", "odict_iterator", "itertools.zip_longest", "itertools.pairwise"].contains n && vs[0]? == some (rawInt _)) = true then _ else _) Q E s
           rw [if_neg (by intro h; rw [hn,Bool.false_and] at h; cases h)]
           exact wpAny_pure hQ))
def Itl (K:PySem.W.Frag) (a:Addr):It :=
  ⟨fun i H => ∃ xs x,SqL K H a xs ∧ xs[i]? = some x,fun i H x H' => H' = H ∧ ∀ xs,SqL K H a xs → xs[i]? = some x,fun i H => ∃ xs,SqL K H a xs ∧ xs.length ≤ i⟩
def Itr (lo:Int) (n:Nat):It:=⟨fun i _ => i < n,fun i H x H' => H' = H ∧ x = .int (lo + i),fun i _ => n ≤ i⟩
theorem turn_list {P:Program} {w:World} {K:PySem.W.Frag} {tg:Expr} (a it:Addr):Turn P w K tg (Itl K a) [it] it (fun i h => h.IsListIter it a i) where
  mem:=by simp
  obj:=fun i h st b hb => by
    have e:b = it:=by simpa using hb
    subst e
    obtain ⟨o,e,c,d⟩:=st
    exact ⟨o,e,fun v z => by rw [d] at z; cases z⟩
  keep:=fun i h h' st k => st.at fun o e => k it (by simp) o e
  item:=by
    intro X hP hw hK hc i pins s σ H E I hf st hg
    subst hP hw hK
    obtain ⟨xs,x,hq,hx⟩:=hg
    obtain ⟨its,rv,p,hz⟩:=I.list hq
    obtain ⟨u,hu,ru⟩:=rv.get hx
    obtain ⟨f0,f1,f2,f3,f4,f5⟩:=hf it (by simp)
    refine wpAny_pyNext_list_item st p.isList (x:=u) (by simpa using hu) fun h' st' sb => ?_
    have I1:Inv X pins σ H { s with heap:=h' }:=I.turned (t':=s.toks) (fun b o hb e => (sb.2 b hb).trans e) f0 f1 f3 f4 f5
    obtain ⟨o,e,c,d⟩:=id st'
    exact ⟨u,rfl,go_of (s:={ s with heap:=h' }) e c d (by decide) ⟨x,H,I1,ru,⟨rfl,fun ys hy => by rw [I.list_inj hy hq]; exact hx⟩,st',fun b hb => (hf b hb).1⟩⟩
  done:=by
    intro X hP hw hK hc i pins s σ H E I hf st hg
    subst hP hw hK
    obtain ⟨xs,hq,hx⟩:=hg
    obtain ⟨its,rv,p,hz⟩:=I.list hq
    obtain ⟨f0,f1,f2,f3,f4,f5⟩:=hf it (by simp)
    have hl:=rv.length
    exact wpAny_pyNext_list_end (I.ok.hd hc) st p.isList (by simp; omega) fun h' eb => ⟨rfl,I.turned (t':=s.toks) (fun b o hb e => eb b o hb e) f0 f1 f3 f4 f5⟩
  self:=fun _ _ _ _ _ st h => wpAny_pyIter_listiter st h
theorem turn_range {P:Program} {w:World} {K:PySem.W.Frag} {tg:Expr} (it:Addr) (lo:Int) (n:Nat):Turn P w K tg (Itr lo n) [it] it (fun i h => IsRangeIter h it (lo + (i:Nat) * 1) ((n:Int) - (i:Nat)) 1) where
  mem:=by simp
  obj:=fun i h st b hb => by
    have e:b = it:=by simpa using hb
    subst e
    exact ⟨_,st,fun v z => by
      have z':Data.fields _ = Data.cell v:=z
      cases z'⟩
  keep:=fun i h h' st k => k it (by simp) _ st
  item:=by
    intro X hP hw hK hc i pins s σ H E I hf st hg
    subst hP hw hK
    obtain ⟨f0,f1,f2,f3,f4,f5⟩:=hf it (by simp)
    have W:=Walks.range (prog:=X.prog) (w:=X.w) (I.ok.hd hc) it lo 1 n
    refine W.item i s _ _ hg st fun v h' tk hv st' kk => ?_
    obtain ⟨t,rfl⟩:=hv
    have I1:Inv X pins σ H { s with heap:=h',toks:=tk }:=I.turned (fun b o hb e => kk b o (by simpa using hb) e) f0 f1 f3 f4 f5
    refine ⟨_,rfl,go_of (s:={ s with heap:=h',toks:=tk }) (n := "range_iterator") st' rfl rfl (by decide) ⟨.int (lo + i),H,I1,⟨t,?_⟩,⟨rfl,rfl⟩,st',fun b hb => (hf b hb).1⟩⟩
    rw [Int.mul_one]
  done:=by
    intro X hP hw hK hc i pins s σ H E I hf st hg
    subst hP hw hK
    obtain ⟨f0,f1,f2,f3,f4,f5⟩:=hf it (by simp)
    exact wpAny_pyNext_range_end (I.ok.hd hc) st (by have:n ≤ i:=hg; omega) fun h' eb => ⟨rfl,I.turned (t':=s.toks) (fun b o hb e => eb b o hb e) f0 f1 f3 f4 f5⟩
  self:=fun _ _ _ _ _ st h => wpAny_pyIter_rangeiter st h
end L2
namespace L2
open PySem PySem.Spec PyProof.Rows
section
variable {X:Cx} {tg:Expr}
theorem range_it {pins:List (Addr × Obj)} {σ:St} {H:Hp} {s:Shared} {R:It → Hp → Prop} {E:Value → Shared → Prop} {lo hi:Int} {t u v:Tok} {tk:Nat} (I:Inv X pins σ H s) (h1:-(2 ^ 62) ≤ lo) (h2:lo < 2 ^ 62) (h3:-(2 ^ 62) ≤ hi) (h4:hi < 2 ^ 62)
    (q:R (Itr lo (hi - lo).toNat) H):wpAny (model X.prog X.w) X.A (pyIter (.ref s.heap.objs.size)) (PIE X pins σ tg R) E { s with heap:=s.heap.push { cls:=.type "range",data:=.fields #[.int lo t,.int hi u,.int 1 v] },toks:=tk }:=by
  refine wpAny_pyIter_range (IsRange.new ..) (small_one h1 h2 h3 h4) ?_
  have I1:Inv X pins σ H { s with heap:=s.heap.push { cls:=.type "range",data:=.fields #[.int lo t,.int hi u,.int 1 v] },toks:=tk }:=I.kept fun b o e => Heap.get?_push_of_some _ e
  refine ⟨(s.heap.push { cls:=.type "range",data:=.fields #[.int lo t,.int hi u,.int 1 v] }).objs.size,[(s.heap.push { cls:=.type "range",data:=.fields #[.int lo t,.int hi u,.int 1 v] }).objs.size],_,_,H,rfl,
    I1.kept (t':=tk) fun b o e => Heap.get?_push_of_some _ e,turn_range _ lo (hi - lo).toNat,?_,fun b hb => ?_,q⟩
  · have e1:lo + ((0:Nat):Int) * 1 = lo:=by simp
    have e2:(((hi - lo).toNat:Nat):Int) - ((0:Nat):Int) = Builtin.Range.rangeSize lo hi 1:=by rw [rangeSize_one]; split <;> omega
    show IsRangeIter _ _ (lo + ((0:Nat):Int) * 1) ((((hi - lo).toNat:Nat):Int) - ((0:Nat):Int)) 1
    rw [e1,e2]
    exact Heap.get?_push_size _ rfl
  · have e:b = (s.heap.push { cls:=.type "range",data:=.fields #[.int lo t,.int hi u,.int 1 v] }).objs.size:=by simpa using hb
    subst e
    exact I1.fpOk (Nat.le_refl _) (I1.hok.fresh (Nat.le_refl _))
def tFor (wi:TI) (g:TG) (tb:TS):TS:=fun D σ H => wi σ H fun J H1 => ∃ W:Nat → Nat → St → Hp → Prop,(∃ m,W 0 m σ H1) ∧ ∀ i m σ H,W i m σ H →
  (J.stop i H ∧ D.nx σ H) ∨ (J.go i H ∧ ∃ N:St → Hp → Prop,(∀ σ' H',N σ' H' → ∃ m',m' < m ∧ W (i + 1) m' σ' H') ∧ ∀ x H',J.yld i H x H' → g x σ H' fun σ2 H2 => tb { D with nx:=N,ct:=N,bk:=D.nx } σ2 H2)
def pinsAt (fp:List Addr) (h:Heap):List (Addr × Obj):=fp.filterMap fun b => (h.get? b).map fun o => (b,o)
theorem mem_pinsAt {fp:List Addr} {h:Heap} {b:Addr} {o:Obj} (hb:b ∈ fp) (e:h.get? b = some o):(b,o) ∈ pinsAt fp h:=List.mem_filterMap.mpr ⟨b,hb,by rw [e]; rfl⟩
theorem of_pinsAt {fp:List Addr} {h:Heap} {p:Addr × Obj} (hp:p ∈ pinsAt fp h):p.1 ∈ fp ∧ h.get? p.1 = some p.2:=by
  obtain ⟨b,hb,e⟩:=List.mem_filterMap.mp hp
  cases q:h.get? b with
  | none => rw [q] at e; cases e
  | some o =>
    rw [q] at e
    have e':(b,o) = p:=Option.some.inj e
    subst e'
    exact ⟨hb,q⟩
theorem Inv.pinned {pins:List (Addr × Obj)} {σ:St} {H:Hp} {s:Shared} {fp:List Addr} (I:Inv X pins σ H s) (hf:∀ b ∈ fp,FpOk X pins H b) (ho:∀ b ∈ fp,∃ o,s.heap.get? b = some o ∧ ∀ v,o.data ≠ .cell v):Inv X (pins ++ pinsAt fp s.heap) σ H s :=
  I.pins_of fun p hp => (List.mem_append.mp hp).elim (fun z => I.pin p (List.mem_append_right _ z)) fun z => by
    obtain ⟨hb,e⟩:=of_pinsAt z
    obtain ⟨f0,f1,f2,_⟩:=hf p.1 hb
    obtain ⟨o,e',d⟩:=ho p.1 hb
    rw [e] at e'; cases e'
    exact ⟨e,f0,f1,f2,d⟩
theorem Inv.unpinned {pins pl:List (Addr × Obj)} {σ:St} {H:Hp} {s:Shared} (I:Inv X (pins ++ pl) σ H s):Inv X pins σ H s:=I.pins_of fun p hp => I.pin p (List.mem_append_right _ (List.mem_append_left _ hp))
theorem ps_for {iter:Expr} {body:List Stmt} {wi:TI} {g:TG} {tb:TS} {pos:Pos} (hp:PassesOwn (model X.prog X.w) X.A X.env X.xe) (hc:X.calm = true) (hi:PI X tg iter wi) (hg:PG X tg g) (hb:PSs X body tb)
    (hs:∀ x,foldedSetIterable iter X.env x = pure x:=by intro _; rfl):PS X (.For tg iter body [] pos) (tFor wi g tb):=by
  intro pins s σ H D I h
  refine wpAny_For (thn (hi pins s σ H _ I h) fun v s1 h1 => thn h1 fun itv s2 h2 => ?_) hs
  obtain ⟨it,fp,tn,J,H2,e,I2,T,st2,f2,W,⟨m0,w0⟩,turn⟩:=h2
  subst e
  -- what stays true of the iterator's objects through the loop
  have stat:∀ {H':Hp},(∀ b ∈ fp,H' b = none) → ∀ b ∈ fp,FpOk X pins H' b:=fun hn b hb => ⟨hn b hb,(f2 b hb).2⟩
  refine codeAny_forLoop_any (fun n s' => ∃ i σ' H',Inv X pins σ' H' s' ∧ tn i s'.heap ∧ (∀ b ∈ fp,H' b = none) ∧ W i n σ' H') ?_ m0 ⟨0,σ,H2,I2,st2,fun b hb => (f2 b hb).1,w0⟩
  rintro n s3 ⟨i,σ3,H3,I3,st3,fr3,w3⟩
  rcases turn i n σ3 H3 w3 with ⟨stop,qn⟩ | ⟨go,N,hN,step⟩
  · refine wpAny_passesOwn hp (thn (T.done X rfl rfl rfl hc i pins s3 σ3 H3 X.xe I3 (stat fr3) st3 stop) fun r s4 ⟨hr,I4⟩ => ?_)
    subst hr
    exact wpAny_execs_nil ⟨σ3,H3,I4,qn⟩
  · refine wpAny_passesOwn hp (thn (T.item X rfl rfl rfl hc i pins s3 σ3 H3 X.xe I3 (stat fr3) st3 go) fun r s4 ⟨u,hr,h4⟩ => ?_)
    subst hr
    refine wpAny_passesOwn hp (thn h4 fun _ s5 ⟨x,H5,I5,r5,y5,st5,fr5⟩ => ?_)
    have I5':=I5.pinned (stat fr5) (T.obj _ _ st5)
    refine wpAny_passesOwn hp (thn (hg _ s5 σ3 H5 x u _ I5' r5 (step x H5 y5)) fun _ s6 ⟨σ6,H6,I6,q6⟩ => ?_)
    refine wpAny_passesOwn hp (thn (hb _ s6 σ6 H6 _ I6 q6) fun f s7 q7 => ?_)
    have again:∀ {σ7:St} {H7:Hp},Inv X (pins ++ pinsAt fp s5.heap) σ7 H7 s7 → N σ7 H7 → ∃ m,m < n ∧ ∃ i σ' H',Inv X pins σ' H' s7 ∧ tn i s7.heap ∧ (∀ b ∈ fp,H' b = none) ∧ W i m σ' H':=fun {σ7 H7} I7 n7 => by
      obtain ⟨m',hm,w7⟩:=hN σ7 H7 n7
      refine ⟨m',hm,i + 1,σ7,H7,I7.unpinned,T.keep _ _ _ st5 fun b hb o e => (I7.pin (b,o) (List.mem_append_right _ (List.mem_append_right _ (mem_pinsAt hb e)))).1,fun b hb => ?_,w7⟩
      obtain ⟨o,e,d⟩:=T.obj _ _ st5 b hb
      exact (I7.pin (b,o) (List.mem_append_right _ (List.mem_append_right _ (mem_pinsAt hb e)))).2.1
    cases f with
    | next => obtain ⟨σ7,H7,I7,n7⟩:=q7; exact again I7 n7
    | cont => obtain ⟨σ7,H7,I7,n7⟩:=q7; exact again I7 n7
    | brk => obtain ⟨σ7,H7,I7,q7⟩:=q7; exact ⟨σ7,H7,I7.unpinned,q7⟩
    | ret v => obtain ⟨x7,σ7,H7,I7,r7,q7⟩:=q7; exact ⟨x7,σ7,H7,I7.unpinned,r7,q7⟩
end
theorem for_list {K:PySem.W.Frag} {a:Addr} {xs:List V} {g:TG} {tb:TS} {D:Ends} {σ:St} {H:Hp} (Pv:Nat → St → Hp → Prop) (h0:Pv 0 σ H) (hl:∀ i σ H,i ≤ xs.length → Pv i σ H → SqL K H a xs)
    (hs:∀ i x σ H,xs[i]? = some x → Pv i σ H → g x σ H fun σ2 H2 => tb { D with nx:=Pv (i + 1),ct:=Pv (i + 1),bk:=D.nx } σ2 H2) (hd:∀ σ H,Pv xs.length σ H → D.nx σ H) :
    ∃ W:Nat → Nat → St → Hp → Prop,(∃ m,W 0 m σ H) ∧ ∀ i m σ H,W i m σ H →
      ((Itl K a).stop i H ∧ D.nx σ H) ∨ ((Itl K a).go i H ∧ ∃ N:St → Hp → Prop,(∀ σ' H',N σ' H' → ∃ m',m' < m ∧ W (i + 1) m' σ' H') ∧ ∀ x H',(Itl K a).yld i H x H' → g x σ H' fun σ2 H2 => tb { D with nx:=N,ct:=N,bk:=D.nx } σ2 H2):=by
  refine ⟨fun i m σ H => m = xs.length - i ∧ i ≤ xs.length ∧ Pv i σ H,⟨xs.length,by simp,Nat.zero_le _,h0⟩,?_⟩
  rintro i m σ H ⟨rfl,hi,p⟩
  have q:=hl i σ H hi p
  by_cases hlt:i < xs.length
  · refine .inr ⟨⟨xs,xs[i],q,by simp [hlt]⟩,Pv (i + 1),fun σ' H' p' => ⟨xs.length - (i + 1),by omega,rfl,hlt,p'⟩,fun x H' y => ?_⟩
    obtain ⟨e,y⟩:=y
    subst e
    exact hs i x σ _ (y xs q) p
  · have e:i = xs.length:=by omega
    subst e
    exact .inl ⟨⟨xs,q,Nat.le_refl _⟩,hd σ H p⟩
theorem for_range {lo:Int} {n:Nat} {g:TG} {tb:TS} {D:Ends} {σ:St} {H:Hp} (Pv:Nat → St → Hp → Prop) (h0:Pv 0 σ H)
    (hs:∀ i σ H,i < n → Pv i σ H → g (.int (lo + i)) σ H fun σ2 H2 => tb { D with nx:=Pv (i + 1),ct:=Pv (i + 1),bk:=D.nx } σ2 H2) (hd:∀ σ H,Pv n σ H → D.nx σ H) :
    ∃ W:Nat → Nat → St → Hp → Prop,(∃ m,W 0 m σ H) ∧ ∀ i m σ H,W i m σ H →
      ((Itr lo n).stop i H ∧ D.nx σ H) ∨ ((Itr lo n).go i H ∧ ∃ N:St → Hp → Prop,(∀ σ' H',N σ' H' → ∃ m',m' < m ∧ W (i + 1) m' σ' H') ∧ ∀ x H',(Itr lo n).yld i H x H' → g x σ H' fun σ2 H2 => tb { D with nx:=N,ct:=N,bk:=D.nx } σ2 H2):=by
  refine ⟨fun i m σ H => m = n - i ∧ i ≤ n ∧ Pv i σ H,⟨n,by simp,Nat.zero_le _,h0⟩,?_⟩
  rintro i m σ H ⟨rfl,hi,p⟩
  by_cases hlt:i < n
  · refine .inr ⟨hlt,Pv (i + 1),fun σ' H' p' => ⟨n - (i + 1),by omega,rfl,hlt,p'⟩,fun x H' y => ?_⟩
    obtain ⟨e,y⟩:=y
    subst e y
    exact hs i σ _ hlt p
  · have e:i = n:=by omega
    subst e
    exact .inl ⟨Nat.le_refl _,hd σ H p⟩
end L2
namespace L2
open PySem PySem.Spec PyProof.Rows
abbrev R2:=V → V → Hp → VK → Prop
def OpR (X:Cx) (f:Value → Value → Sem Value) (r:R2):Prop :=
  ∀ (pins:List (Addr × Obj)) (s:Shared) (σ:St) (H:Hp) (x y:V) (v u:Value) (Q:VK),Inv X pins σ H s → RelV x v → RelV y u → r x y H Q →
    wpAny (model X.prog X.w) X.A (f v u) (EP X pins σ Q) X.xe s
def UnR (X:Cx) (f:Value → Sem Value) (r:V → Hp → VK → Prop):Prop :=
  ∀ (pins:List (Addr × Obj)) (s:Shared) (σ:St) (H:Hp) (x:V) (v:Value) (Q:VK),Inv X pins σ H s → RelV x v → r x H Q →
    wpAny (model X.prog X.w) X.A (f v) (EP X pins σ Q) X.xe s
def CallR (X:Cx) (f:Value) (r:List V → Hp → VK → Prop):Prop :=
  ∀ (pins:List (Addr × Obj)) (s:Shared) (σ:St) (H:Hp) (xs:List V) (us:List Value) (Q:VK),Inv X pins σ H s → Vals xs us → r xs H Q →
    wpAny (model X.prog X.w) X.A (call f us) (EP X pins σ Q) X.xe s
def TruR (X:Cx) (r:V → Hp → (Bool → Hp → Prop) → Prop):Prop :=
  ∀ (pins:List (Addr × Obj)) (s:Shared) (σ:St) (H:Hp) (x:V) (v:Value) (Q:Bool → Hp → Prop),Inv X pins σ H s → RelV x v → r x H Q →
    wpAny (model X.prog X.w) X.A (truthy v) (TP X pins σ Q) X.xe s
def tOp (r:R2) (ta tb:TE):TE:=fun σ H Q => ta σ H fun x H1 => tb σ H1 fun y H2 => r x y H2 Q
def tUn (r:V → Hp → VK → Prop) (ta:TE):TE:=fun σ H Q => ta σ H fun x H1 => r x H1 Q
def rI (C:Int → Int → Prop) (g:Int → Int → V):R2:=fun x y H Q => ∃ i j,x = .int i ∧ y = .int j ∧ C i j ∧ Q (g i j) H
def rI0 (g:Int → Int → V):R2:=fun x y H Q => ∃ i j,x = .int i ∧ y = .int j ∧ Q (g i j) H
def rU (g:Int → V):V → Hp → VK → Prop:=fun x H Q => ∃ i,x = .int i ∧ Q (g i) H
section
variable {X:Cx} {a b c:Expr} {ta tb tc:TE} {pos:Pos}
theorem binT (ha:PE X a ta) (hb:PE X b tb) {pins:List (Addr × Obj)} {s:Shared} {σ:St} {H:Hp} {R:V → V → Hp → Prop} (I:Inv X pins σ H s)
    (h:ta σ H fun x H1 => tb σ H1 fun y H2 => R x y H2) {Q:Value → Shared → Prop} {f:Value → Value → Sem Value}
    (hf:∀ v u s2 x y H2,Inv X pins σ H2 s2 → RelV x v → RelV y u → R x y H2 → wpAny (model X.prog X.w) X.A (f v u) Q X.xe s2) :
    wpAny (model X.prog X.w) X.A (eval a X.env) (fun v s₁ => wpAny (model X.prog X.w) X.A (eval b X.env) (fun u s₂ => wpAny (model X.prog X.w) X.A (f v u) Q X.xe s₂) X.xe s₁) X.xe s:=by
  refine thn (ha pins s σ H _ I h) fun v s1 ⟨x,H1,I1,r1,q1⟩ => ?_
  refine thn (hb pins s1 σ H1 _ I1 q1) fun u s2 ⟨y,H2,I2,r2,q2⟩ => ?_
  exact hf v u s2 x y H2 I2 r1 r2 q2
theorem pe_op {op:Operator} {r:R2} (ho:OpR X (binaryOp op) r) (ha:PE X a ta) (hb:PE X b tb):PE X (.BinOp a op b pos) (tOp r ta tb):=by
  intro pins s σ H Q I h
  exact wpAny_BinOp (binT ha hb I h fun v u s2 x y H2 I2 rx ry q => ho pins s2 σ H2 x y v u Q I2 rx ry q)
theorem pe_un {op:UnaryOp} {r:V → Hp → VK → Prop} (ho:UnR X (unaryOp op) r) (ha:PE X a ta):PE X (.UnaryOp op a pos) (tUn r ta):=by
  intro pins s σ H Q I h
  exact UnaryOp_ (thn (ha pins s σ H _ I h) fun v s1 ⟨x,H1,I1,r1,q1⟩ => ho pins s1 σ H1 x v Q I1 r1 q1)
theorem opI {f:Value → Value → Sem Value} {C:Int → Int → Prop} {g:Int → Int → Int}
    (rule:∀ (i j:Int) (t u:Tok) (s:Shared) (Q:Value → Shared → Prop) (E:Value → Shared → Prop),C i j → Q (.int (g i j) s.toks) { s with toks:=s.toks + 1 } → wpAny (model X.prog X.w) X.A (f (.int i t) (.int j u)) Q E s) :
    OpR X f (rI C fun i j => .int (g i j)):=by
  intro pins s σ H x y v u Q I rx ry h
  obtain ⟨i,j,rfl,rfl,hc,q⟩:=h
  obtain ⟨t,rfl⟩:=rx
  obtain ⟨t',rfl⟩:=ry
  exact rule i j t t' s _ _ hc ⟨.int (g i j),H,I.tok _,⟨_,rfl⟩,q⟩
theorem opI0 {f:Value → Value → Sem Value} {g:Int → Int → Int}
    (rule:∀ (i j:Int) (t u:Tok) (s:Shared) (Q:Value → Shared → Prop) (E:Value → Shared → Prop),Q (.int (g i j) s.toks) { s with toks:=s.toks + 1 } → wpAny (model X.prog X.w) X.A (f (.int i t) (.int j u)) Q E s) :
    OpR X f (rI0 fun i j => .int (g i j)):=by
  intro pins s σ H x y v u Q I rx ry h
  obtain ⟨i,j,rfl,rfl,q⟩:=h
  obtain ⟨t,rfl⟩:=rx
  obtain ⟨t',rfl⟩:=ry
  exact rule i j t t' s _ _ ⟨.int (g i j),H,I.tok _,⟨_,rfl⟩,q⟩
theorem opB0 {f:Value → Value → Sem Value} {g:Int → Int → Bool}
    (rule:∀ (i j:Int) (t u:Tok) (s:Shared) (Q:Value → Shared → Prop) (E:Value → Shared → Prop),Q (.bool (g i j)) s → wpAny (model X.prog X.w) X.A (f (.int i t) (.int j u)) Q E s) :
    OpR X f (rI0 fun i j => .bl (g i j)):=by
  intro pins s σ H x y v u Q I rx ry h
  obtain ⟨i,j,rfl,rfl,q⟩:=h
  obtain ⟨t,rfl⟩:=rx
  obtain ⟨t',rfl⟩:=ry
  exact rule i j t t' s _ _ ⟨.bl (g i j),H,I,rfl,q⟩
def CDiv (i j:Int):Prop:=0 < j ∧ j < 1073741824
def CPow (i j:Int):Prop:=0 ≤ j ∧ j ≤ 1000000 ∧ i.natAbs < 2 ^ 64
def CMul (i j:Int):Prop:=(-(2 ^ 64) < i ∧ i < 2 ^ 64) ∨ (-(2 ^ 64) < j ∧ j < 2 ^ 64)
theorem CMul.ok {i j:Int} (h:CMul i j):IntMulOk i j:=by
  rcases h with ⟨h1,h2⟩ | ⟨h1,h2⟩
  · exact .of_left (intBits_le_64 h1 h2)
  · exact .of_right (intBits_le_64 h1 h2)
theorem op_add:OpR X (binaryOp .Add) (rI0 fun i j => .int (i + j)):=opI0 fun _ _ _ _ _ _ _ q => add_int q
theorem op_sub:OpR X (binaryOp .Sub) (rI0 fun i j => .int (i - j)):=opI0 fun _ _ _ _ _ _ _ q => sub_int q
theorem op_mul:OpR X (binaryOp .Mult) (rI CMul fun i j => .int (i * j)):=opI fun _ _ _ _ _ _ _ hc q => mul_int q hc.ok
theorem op_fdiv:OpR X (binaryOp .FloorDiv) (rI CDiv fun i j => .int (i / j)):=opI fun i j _ _ _ _ _ hc q => by
  have h1:(0:Int) < j:=hc.1
  have h2:j < 1073741824:=hc.2
  exact floordiv_int (by omega) (by rw [Int.fdiv_eq_ediv_of_nonneg i (by omega)]; exact q) (.inl (PyProof.noPylong_small (by omega)))
theorem op_mod:OpR X (binaryOp .Mod) (rI (fun _ j => 0 < j) fun i j => .int (i % j)):=opI fun i j _ _ _ _ _ hc q => by
  have h1:(0:Int) < j:=hc
  exact mod_int' (by omega) (by rw [Int.fmod_eq_emod_of_nonneg i (by omega)]; exact q)
theorem op_pow:OpR X (binaryOp .Pow) (rI CPow fun i j => .int (i ^ j.toNat)):=opI fun _ _ _ _ _ _ _ hc q => pow_int_small hc.1 hc.2.1 hc.2.2 q
theorem unI {f:Value → Sem Value} {g:Int → Int}
    (rule:∀ (i:Int) (t:Tok) (s:Shared) (Q:Value → Shared → Prop) (E:Value → Shared → Prop),Q (.int (g i) s.toks) { s with toks:=s.toks + 1 } → wpAny (model X.prog X.w) X.A (f (.int i t)) Q E s) :
    UnR X f (rU fun i => .int (g i)):=by
  intro pins s σ H x v Q I rx h
  obtain ⟨i,rfl,q⟩:=h
  obtain ⟨t,rfl⟩:=rx
  exact rule i t s _ _ ⟨.int (g i),H,I.tok _,⟨_,rfl⟩,q⟩
theorem un_neg:UnR X (unaryOp .USub) (rU fun i => .int (-i)):=unI fun _ _ _ _ _ q => neg_int q
end
def scal:V → V → Bool
  | .non,.non => true | .non,.int _ => true | .int _,.non => true | .non,.bl _ => true | .bl _,.non => true | .non,.str _ => true | .str _,.non => true
  | .int _,.int _ => true | .bl _,.bl _ => true | .str _,.str _ => true | .byt _,.byt _ => true
  | .int _,.str _ => true | .str _,.int _ => true | .bl _,.str _ => true | .str _,.bl _ => true
  | _,_ => false
def rEq:R2:=fun x y H Q => scal x y = true ∧ Q (.bl (decide (x = y))) H
def rNe:R2:=fun x y H Q => scal x y = true ∧ Q (.bl (!decide (x = y))) H
theorem dec_int {i j:Int}:decide (V.int i = V.int j) = (i == j):=by
  rw [Bool.eq_iff_iff]
  simp
theorem dec_bl {i j:Bool}:decide (V.bl i = V.bl j) = (i == j):=by
  rw [Bool.eq_iff_iff]
  simp
theorem dec_str {i j:Str}:decide (V.str i = V.str j) = (i == j):=by
  rw [Bool.eq_iff_iff]
  simp
theorem dec_byt {i j:Array UInt8}:decide (V.byt i = V.byt j) = (i.toList == j.toList):=by
  rw [Bool.eq_iff_iff]
  cases i
  cases j
  simp
section
variable {X:Cx} {a b c:Expr} {ta tb tc:TE} {pos:Pos}
theorem fin_bl {pins:List (Addr × Obj)} {σ:St} {H:Hp} {s:Shared} {Q:VK} {k k':Bool} (I:Inv X pins σ H s) (q:Q (.bl k) H) (e:k = k'):EP X pins σ Q (.bool k') s:=by
  subst e
  exact ⟨.bl k,H,I,rfl,q⟩
theorem op_eq:OpR X (compareOp .Eq) rEq:=by
  intro pins s σ H x y v u Q I rx ry h
  obtain ⟨hs,q⟩:=h
  cases x with
  | non =>
    cases rx
    cases y with
    | non => cases ry; exact PySem.EqNone.eq_none_none (fin_bl I q (by simp))
    | bl j => cases ry; exact PySem.EqNone.eq_none_bool (fin_bl I q (by simp))
    | int j => obtain ⟨t',rfl⟩:=ry; exact PySem.EqNone.eq_none_int (fin_bl I q (by simp))
    | str j => obtain ⟨t',rfl⟩:=ry; exact PySem.EqNone.eq_none_str (fin_bl I q (by simp))
    | _ => exact absurd (show false = true from hs) Bool.false_ne_true
  | bl i =>
    cases rx
    cases y with
    | non => cases ry; exact PySem.EqNone.eq_bool_none (fin_bl I q (by simp))
    | bl j => cases ry; exact eq_bool (fin_bl I q dec_bl)
    | str j => obtain ⟨t',rfl⟩:=ry; exact PySem.EqMixed.eq_bool_str (fin_bl I q (by simp))
    | _ => exact absurd (show false = true from hs) Bool.false_ne_true
  | int i =>
    obtain ⟨t,rfl⟩:=rx
    cases y with
    | non => cases ry; exact PySem.EqNone.eq_int_none (fin_bl I q (by simp))
    | int j => obtain ⟨t',rfl⟩:=ry; exact eq_int (fin_bl I q dec_int)
    | str j => obtain ⟨t',rfl⟩:=ry; exact PySem.EqMixed.eq_int_str (fin_bl I q (by simp))
    | _ => exact absurd (show false = true from hs) Bool.false_ne_true
  | str i =>
    obtain ⟨t,rfl⟩:=rx
    cases y with
    | non => cases ry; exact PySem.EqNone.eq_str_none (fin_bl I q (by simp))
    | bl j => cases ry; exact PySem.EqMixed.eq_str_bool (fin_bl I q (by simp))
    | int j => obtain ⟨t',rfl⟩:=ry; exact PySem.EqMixed.eq_str_int (fin_bl I q (by simp))
    | str j => obtain ⟨t',rfl⟩:=ry; exact eq_str (fin_bl I q dec_str)
    | _ => exact absurd (show false = true from hs) Bool.false_ne_true
  | byt i =>
    obtain ⟨t,rfl⟩:=rx
    cases y with
    | byt j => obtain ⟨t',rfl⟩:=ry; exact PySem.W.eq_bytes (fin_bl I q dec_byt)
    | _ => exact absurd (show false = true from hs) Bool.false_ne_true
  | _ => cases y <;> exact absurd (show false = true from hs) Bool.false_ne_true
theorem op_ne:OpR X (compareOp .NotEq) rNe:=by
  intro pins s σ H x y v u Q I rx ry h
  obtain ⟨hs,q⟩:=h
  cases x with
  | non =>
    cases rx
    cases y with
    | non => cases ry; exact PySem.EqNone.ne_none_none (fin_bl I q (by simp))
    | bl j => cases ry; exact PySem.EqNone.ne_none_bool (fin_bl I q (by simp))
    | int j => obtain ⟨t',rfl⟩:=ry; exact PySem.EqNone.ne_none_int (fin_bl I q (by simp))
    | str j => obtain ⟨t',rfl⟩:=ry; exact PySem.EqNone.ne_none_str (fin_bl I q (by simp))
    | _ => exact absurd (show false = true from hs) Bool.false_ne_true
  | bl i =>
    cases rx
    cases y with
    | non => cases ry; exact PySem.EqNone.ne_bool_none (fin_bl I q (by simp))
    | bl j => cases ry; exact ne_bool (fin_bl I q (congrArg not dec_bl))
    | str j => obtain ⟨t',rfl⟩:=ry; exact PySem.EqMixed.ne_bool_str (fin_bl I q (by simp))
    | _ => exact absurd (show false = true from hs) Bool.false_ne_true
  | int i =>
    obtain ⟨t,rfl⟩:=rx
    cases y with
    | non => cases ry; exact PySem.EqNone.ne_int_none (fin_bl I q (by simp))
    | int j => obtain ⟨t',rfl⟩:=ry; exact ne_int (fin_bl I q (congrArg not dec_int))
    | str j => obtain ⟨t',rfl⟩:=ry; exact PySem.EqMixed.ne_int_str (fin_bl I q (by simp))
    | _ => exact absurd (show false = true from hs) Bool.false_ne_true
  | str i =>
    obtain ⟨t,rfl⟩:=rx
    cases y with
    | non => cases ry; exact PySem.EqNone.ne_str_none (fin_bl I q (by simp))
    | bl j => cases ry; exact PySem.EqMixed.ne_str_bool (fin_bl I q (by simp))
    | int j => obtain ⟨t',rfl⟩:=ry; exact PySem.EqMixed.ne_str_int (fin_bl I q (by simp))
    | str j => obtain ⟨t',rfl⟩:=ry; exact ne_str (fin_bl I q (congrArg not dec_str))
    | _ => exact absurd (show false = true from hs) Bool.false_ne_true
  | byt i =>
    obtain ⟨t,rfl⟩:=rx
    cases y with
    | byt j => obtain ⟨t',rfl⟩:=ry; exact PySem.W.ne_bytes (fin_bl I q (congrArg not dec_byt))
    | _ => exact absurd (show false = true from hs) Bool.false_ne_true
  | _ => cases y <;> exact absurd (show false = true from hs) Bool.false_ne_true
theorem op_lt:OpR X (compareOp .Lt) (rI0 fun i j => .bl (decide (i < j))):=opB0 fun _ _ _ _ _ _ _ q => lt_int q
theorem op_le:OpR X (compareOp .LtE) (rI0 fun i j => .bl (decide (i ≤ j))):=opB0 fun _ _ _ _ _ _ _ q => le_int q
theorem op_gt:OpR X (compareOp .Gt) (rI0 fun i j => .bl (decide (j < i))):=opB0 fun _ _ _ _ _ _ _ q => gt_int q
theorem op_ge:OpR X (compareOp .GtE) (rI0 fun i j => .bl (decide (j ≤ i))):=opB0 fun _ _ _ _ _ _ _ q => ge_int q
theorem op_in_str:OpR X (compareOp .In) (fun x y H Q => ∃ i j,x = .str i ∧ y = .str j ∧ Q (.bl (!(Builtin.Str.occurrences j i 0 j.length 1).isEmpty)) H):=by
  intro pins s σ H x y v u Q I rx ry h
  obtain ⟨i,j,rfl,rfl,q⟩:=h
  obtain ⟨t,rfl⟩:=rx
  obtain ⟨t',rfl⟩:=ry
  exact in_str (fin_bl I q rfl)
theorem op_isN:OpR X (compareOp .Is) (fun x y H Q => y = .non ∧ Q (.bl (decide (x = .non))) H):=by
  intro pins s σ H x y v u Q I rx ry h
  obtain ⟨rfl,q⟩:=h
  cases ry
  refine is_none_gen (fin_bl I q ?_)
  cases x <;> first
    | (cases rx; rfl)
    | (obtain ⟨t,rfl⟩:=rx; rfl)
theorem op_notN:OpR X (compareOp .IsNot) (fun x y H Q => y = .non ∧ Q (.bl (!decide (x = .non))) H):=by
  intro pins s σ H x y v u Q I rx ry h
  obtain ⟨rfl,q⟩:=h
  cases ry
  refine isnot_none_gen (fin_bl I q ?_)
  cases x <;> first
    | (cases rx; rfl)
    | (obtain ⟨t,rfl⟩:=rx; rfl)
theorem OpR.or {f:Value → Value → Sem Value} {r r':R2} (h:OpR X f r) (h':OpR X f r'):OpR X f (fun x y H Q => r x y H Q ∨ r' x y H Q):=by
  intro pins s σ H x y v u Q I rx ry q
  rcases q with q | q
  · exact h pins s σ H x y v u Q I rx ry q
  · exact h' pins s σ H x y v u Q I rx ry q
theorem nomark (b:Expr) {op:CmpOp} (h:op ≠ .In:=by decide) (h2:op ≠ .NotIn:=by decide):behindInMarks op b = false:=by
  have e1:(op == CmpOp.In) = false:=by cases op <;> first | rfl | exact absurd rfl h
  have e2:(op == CmpOp.NotIn) = false:=by cases op <;> first | rfl | exact absurd rfl h2
  cases b <;> simp [behindInMarks,e1,e2]
theorem pe_cmpR {op:CmpOp} {r:R2} (ho:OpR X (compareOp op) r) (ha:PE X a ta) (hb:PE X b tb) (hm:behindInMarks op b = false):PE X (.Compare a [op] [b] pos) (tOp r ta tb):=by
  intro pins s σ H Q I h
  exact wpAny_Compare1 (binT ha hb I h fun v u s2 x y H2 I2 rx ry q => ho pins s2 σ H2 x y v u Q I2 rx ry q) hm
def TruV (K:PySem.W.Frag) (x:V) (H:Hp) (k:Bool):Prop :=
  match x with
  | .non => k = false
  | .bl b => k = b
  | .int i => k = (i != 0)
  | .str y => y.length ≤ sizeLine ∧ k = ((y.length:Int) != 0)
  | .byt y => y.size ≤ sizeLine ∧ k = ((y.size:Int) != 0)
  | .ref p => (∃ xs,SqL K H p xs ∧ k = !xs.isEmpty) ∨ (∃ xs,SqT K H p xs ∧ k = !xs.isEmpty) ∨ ∃ kvs,H p = some (.dK kvs) ∧ k = !kvs.isEmpty
  | _ => False
theorem isEmpty_kv {κ:Type} {kvs:List (κ × V)} {vs:List (κ × Value)} (r:KV kvs vs):(!vs.isEmpty) = !kvs.isEmpty:=by
  cases r <;> rfl
theorem isEmpty_of {xs:List V} {its:List Value} (r:Vals xs its):(!its.toArray.isEmpty) = !xs.isEmpty:=by
  cases r <;> simp
theorem line63:(sizeLine:Nat) < 2 ^ 63:=by rw [sizeLine_eq]; decide
theorem tru_ok:TruR X (fun x H Q => ∃ k,TruV X.K x H k ∧ Q k H):=by
  intro pins s σ H x v Q I rx h
  obtain ⟨k,e,q⟩:=h
  have hl:=line63
  have hs:sizeLine = 16777216:=sizeLine_eq
  cases x with
  | non =>
    cases rx
    have e':k = false:=e
    subst e'
    exact truthy_none ⟨H,I,q⟩
  | bl b =>
    cases rx
    have e':k = b:=e
    subst e'
    exact wpAny_truthy_bool ⟨H,I,q⟩
  | int i =>
    obtain ⟨t,rfl⟩:=rx
    have e':k = (i != 0):=e
    subst e'
    exact PySem.P.truthy_int ⟨H,I,q⟩
  | str y =>
    obtain ⟨t,rfl⟩:=rx
    obtain ⟨hy,e'⟩:y.length ≤ sizeLine ∧ k = ((y.length:Int) != 0):=e
    subst e'
    exact PySem.P.truthy_str (by omega) ⟨H,I.tok _,q⟩
  | byt y =>
    obtain ⟨t,rfl⟩:=rx
    obtain ⟨hy,e'⟩:y.size ≤ sizeLine ∧ k = ((y.size:Int) != 0):=e
    subst e'
    exact PySem.W.truthy_bytes (by omega) ⟨H,I.tok _,q⟩
  | ref p =>
    cases rx
    have e':(∃ xs,SqL X.K H p xs ∧ k = !xs.isEmpty) ∨ (∃ xs,SqT X.K H p xs ∧ k = !xs.isEmpty) ∨ ∃ kvs,H p = some (.dK kvs) ∧ k = !kvs.isEmpty:=e
    rcases e' with ⟨xs,hx,e'⟩ | ⟨xs,hx,e'⟩ | ⟨kvs,hx,e'⟩
    · subst e'
      obtain ⟨its,r,pl,hz⟩:=I.list hx
      have hlen:=r.length
      exact wpAny_truthy_list pl.isList (by simp only [List.size_toArray]; omega) ⟨H,I.tok _,by rw [isEmpty_of r]; exact q⟩
    · subst e'
      obtain ⟨its,r,pl,hz⟩:=I.tuple hx
      have hlen:=r.length
      exact truthy_tuple pl (by simp only [List.size_toArray]; omega) ⟨H,I.tok _,by rw [isEmpty_of r]; exact q⟩
    · subst e'
      obtain ⟨hz,hS,vs,r,m⟩:kvs.length ≤ sizeLine ∧ (p == sysModules) = false ∧ ∃ vs,KV kvs vs ∧ s.heap.DictOf (mixKind X.prog X.w) p vs:=I.hok p _ hx
      have hlen:kvs.length = vs.length:=Paired.length r
      exact wpAny_truthy_dict hS m (by omega) ⟨H,I.tok _,by rw [isEmpty_kv r]; exact q⟩
  | _ => exact (show False from e).elim
theorem op_add_str:OpR X (binaryOp .Add) (fun x y H Q => ∃ i j,x = .str i ∧ y = .str j ∧ i.length + j.length ≤ sizeLine ∧ Q (.str (i ++ j)) H):=by
  intro pins s σ H x y v u Q I rx ry h
  obtain ⟨i,j,rfl,rfl,hz,q⟩:=h
  obtain ⟨t,rfl⟩:=rx
  obtain ⟨t',rfl⟩:=ry
  exact add_str (fun t' tk => ⟨.str (i ++ j),H,I.tok _,⟨_,rfl⟩,q⟩) hz
theorem vals1 {x:V} {us:List Value} (r:Vals [x] us):∃ u,us = [u] ∧ RelV x u:=by
  cases r with
  | cons r1 r2 => cases r2; exact ⟨_,rfl,r1⟩
theorem vals2 {x y:V} {us:List Value} (r:Vals [x,y] us):∃ u w',us = [u,w'] ∧ RelV x u ∧ RelV y w':=by
  cases r with
  | cons r1 r2 =>
    cases r2 with
    | cons r3 r4 => cases r4; exact ⟨_,_,rfl,r1,r3⟩
def LenV (K:PySem.W.Frag) (x:V) (H:Hp) (n:Nat):Prop :=
  match x with
  | .str y => y.length ≤ sizeLine ∧ n = y.length
  | .byt y => y.size ≤ sizeLine ∧ n = y.size
  | .ref p => (∃ xs,SqL K H p xs ∧ n = xs.length) ∨ ∃ xs,SqT K H p xs ∧ n = xs.length
  | _ => False
theorem call_len:CallR X (.builtin "len") (fun xs H Q => ∃ x n,xs = [x] ∧ LenV X.K x H n ∧ Q (.int n) H):=by
  intro pins s σ H xs us Q I r h
  obtain ⟨x,n,rfl,e,q⟩:=h
  obtain ⟨u,rfl,rx⟩:=vals1 r
  have hl:=line63
  have hs:sizeLine = 16777216:=sizeLine_eq
  cases x with
  | str y =>
    obtain ⟨t,rfl⟩:=rx
    obtain ⟨hy,e'⟩:y.length ≤ sizeLine ∧ n = y.length:=e
    subst e'
    exact len_str (by omega) ⟨.int _,H,I.tok _,⟨_,rfl⟩,q⟩
  | byt y =>
    obtain ⟨t,rfl⟩:=rx
    obtain ⟨hy,e'⟩:y.size ≤ sizeLine ∧ n = y.size:=e
    subst e'
    exact PySem.W.len_bytes (by omega) ⟨.int _,H,I.tok _,⟨_,rfl⟩,q⟩
  | ref p =>
    cases rx
    have e':(∃ xs,SqL X.K H p xs ∧ n = xs.length) ∨ ∃ xs,SqT X.K H p xs ∧ n = xs.length:=e
    rcases e' with ⟨xs,hx,e'⟩ | ⟨xs,hx,e'⟩
    · subst e'
      obtain ⟨its,r',pl,hz⟩:=I.list hx
      have hlen:=r'.length
      exact Calls.call_len_list pl.isList (by simp only [List.size_toArray]; omega) ⟨.int xs.length,H,I.tok _,⟨_,by simp only [List.size_toArray]; rw [hlen]⟩,q⟩
    · subst e'
      obtain ⟨its,r',pl,hz⟩:=I.tuple hx
      have hlen:=r'.length
      exact len_tuple pl (by simp only [List.size_toArray]; omega) ⟨.int xs.length,H,I.tok _,⟨_,by simp only [List.size_toArray]; rw [hlen]⟩,q⟩
  | _ => exact (show False from e).elim
end
end L2
namespace L2
open PySem PySem.Spec PyProof.Rows
structure ObjM (h:Heap) (x dx C:Addr) (mA:Str → Option Value):Prop where
  obj:h.get? x = some (PySem.W.instObj C dx)
  ns:h.Ns1 dx mA
  ne:dx ≠ x
theorem lookIn_ns {h:Heap} {dx:Addr} {mA:Str → Option Value} (n:h.Ns1 dx mA):∃ od,h.get? dx = some od ∧ ∀ name,PySem.W.lookIn name od = some (mA name):=by
  obtain ⟨o,es,ep,ho,hd,hk,_,hm⟩:=n
  refine ⟨o,ho,fun name => ?_⟩
  have e:=hm name
  unfold nsFind findBy at e
  rw [← Array.find?_toList] at e
  unfold PySem.W.lookIn
  rw [hd]
  dsimp only
  split
  · rename_i y q
    rw [q] at e
    exact congrArg some e
  · rename_i q
    rw [q] at e
    have a:es.toList.any (·.refKey) = false:=by
      rw [List.any_eq_false]
      intro y hy
      obtain ⟨z,t,hkey⟩:=hk y (Array.mem_toList_iff.mp hy)
      simp [DictEntry.refKey,hkey]
    have a':¬ es.toList.any (·.refKey) = true:=by rw [a]; exact Bool.false_ne_true
    rw [if_neg a']
    exact congrArg some e
theorem ObjM.look {h:Heap} {x dx C:Addr} {mA:Str → Option Value} (I:ObjM h x dx C mA):∃ od,PySem.W.InstAt h x (PySem.W.instObj C dx) C (some od) ∧ ∀ name,PySem.W.lookIn name od = some (mA name) :=
  let ⟨od,ho,hl⟩:=lookIn_ns I.ns
  ⟨od,⟨I.obj,rfl,rfl,ho⟩,hl⟩
section
variable {prog:Program} {w:World} {A:Around} {E:Value → Shared → Prop} {s:Shared} {K:PySem.W.Frag} {x dx C f:Addr} {mA:Str → Option Value} {name:Str} {v:Value}
end
theorem RelO.some_of {v:V} {o:Option Value} (r:RelO (some v) o):∃ u,o = some u ∧ RelV v u:=by
  cases o with
  | none => exact (show False from r).elim
  | some u => exact ⟨u,rfl,r⟩
theorem RelO.none_of {o:Option Value} (r:RelO none o):o = none:=by
  cases o with
  | none => rfl
  | some u => exact (show False from r).elim
section
variable {P:Program} {w:World} {H H':Hp} {h h':Heap} {a C dx:Addr} {fs fs':List (Str × V)}
theorem ins_get (hok:HOk P w H h) (e:H a = some (.ins C dx fs)):∃ mA,ObjM h a dx C mA ∧ (∀ f,RelO (fs.lookup f) (mA f)) ∧ PySem.Within mA (fs.map (·.1)) ∧ fs.length ≤ 1000 ∧ H dx = some (.own a):=by
  obtain ⟨d,z,ne,ob,mA,n,r,q⟩:=(show ObjOk P w H h a (.ins C dx fs) from hok a _ e)
  exact ⟨mA,⟨ob,n,ne⟩,r,q,z,d⟩
end
structure Cls (K:PySem.W.Frag) (C:Addr):Prop where
  pg:PySem.W.plainGet K C Str.empty = true
  hd:PySem.W.hasDictIn K C = true
  po:PySem.W.plainOver K C = true
  sa:PySem.W.findIn K (.ref C) "__setattr__" = some (some (.builtin "object.__setattr__"))
theorem Cls.get {K:PySem.W.Frag} {C:Addr} (c:Cls K C) (f:Str):PySem.W.plainGet K C f = true:=c.pg
section
variable {X:Cx} {pins:List (Addr × Obj)} {σ:St} {H:Hp} {s:Shared} {a C dx:Addr} {fs:List (Str × V)} {f:Str} {v:V} {A:Around} {E:Value → Shared → Prop}
theorem Inv.made (I:Inv X pins σ H s):Inv X pins σ (upd (upd H s.heap.objs.size (.own (s.heap.objs.size + 1))) (s.heap.objs.size + 1) (.ins C s.heap.objs.size []))
    { s with heap:=(s.heap.push PySem.W.emptyDict).push (PySem.W.instObj C s.heap.objs.size) }:=by
  have e1:(s.heap.push PySem.W.emptyDict).get? s.heap.objs.size = some PySem.W.emptyDict:=Heap.get?_push_size s.heap rfl
  have e2:((s.heap.push PySem.W.emptyDict).push (PySem.W.instObj C s.heap.objs.size)).get? (s.heap.objs.size + 1) = some (PySem.W.instObj C s.heap.objs.size):=by
    have:=Heap.get?_push_size (s.heap.push PySem.W.emptyDict) (o:=PySem.W.instObj C s.heap.objs.size) rfl
    rwa [Heap.size_push] at this
  have e3:(s.heap.push PySem.W.emptyDict).Ns s.heap.objs.size (fun _ => none):=⟨PySem.W.emptyDict,#[],_,e1,rfl,(fun e he => absurd he (by simp)),fun _ => rfl⟩
  have I1:=I.laid (a:=s.heap.objs.size) (o:=.own (s.heap.objs.size + 1)) (h':=s.heap.push PySem.W.emptyDict) (t':=s.toks) (fun b u q => Heap.get?_push_of_some _ q) (Nat.le_refl _) ⟨_,e1⟩
  refine I1.laid (a:=s.heap.objs.size + 1) (o:=.ins C s.heap.objs.size []) (t':=s.toks) (fun b u q => Heap.get?_push_of_some _ q) (Nat.le_of_eq (Heap.size_push _ _)) ?_
  have ne:s.heap.objs.size ≠ s.heap.objs.size + 1:=Nat.ne_of_lt (Nat.lt_succ_self _)
  refine ⟨by rw [upd_ne ne,upd_same],Nat.zero_le _,ne,e2,fun _ => none,(Heap.Ns1.of_empty e3).at fun o q => Heap.get?_push_of_some _ q,fun _ => True.intro,fun y hy => absurd rfl hy⟩
end
section
variable {X:Cx} {o e value:Expr} {f:Str} {pos pos' tpos:Pos} {ta tv:TE}
end
section
variable {X:Cx} {pins:List (Addr × Obj)} {σ:St} {H:Hp} {s:Shared} {A:Around} {E:Value → Shared → Prop} {Q:Value → Shared → Prop} {c:Value} {b:Bool}
inductive TyOf (K:PySem.W.Frag) (H:Hp):V → Value → Prop where
  | non:TyOf K H .non (.type "NoneType")
  | bl (x:Bool):TyOf K H (.bl x) (.type "bool")
  | int (i:Int):TyOf K H (.int i) (.type "int")
  | str (x:Str):TyOf K H (.str x) (.type "str")
  | flt (x:UInt64):TyOf K H (.flt x) (.type "float")
  | lst {a:Addr} {xs:List V} (e:H a = some (.lst xs)):TyOf K H (.ref a) (.type "list")
  | frz {a:Addr} {o:Obj} {xs:List V} (e:H a = some (.frz o (.lst xs))):TyOf K H (.ref a) (.type "list")
  | tup {a:Addr} {xs:List V} (e:H a = some (.tup xs)):TyOf K H (.ref a) (.type "tuple")
  | dK {a:Addr} {kvs:List (Key × V)} (e:H a = some (.dK kvs)):TyOf K H (.ref a) (.type "dict")
  | dT {a:Addr} {kvs:List (List Key × V)} (e:H a = some (.dT kvs)):TyOf K H (.ref a) (.type "dict")
  | ins {a C dx:Addr} {fs:List (Str × V)} (e:H a = some (.ins C dx fs)) (cl:Cls K C) (ha:PySem.W.findIn K (.ref C) "__class__" = some (some (.builtin "object.__class__")))
      (hn:PySem.W.specialIn K (.builtin "object.__class__") "__get__" = some (some (.builtin "getset_descriptor.__get__"))) (htk:PySem.W.takesIn K (.builtin "object.__class__") = some true)
      (hm:PySem.W.mroIn K C (.type "object") = some true):TyOf K H (.ref a) (.ref C)
theorem isinst_ok {x:V} {u t:Value} (I:Inv X pins σ H s) (rx:RelV x u) (ty:TyOf X.K H x t) (e:PySem.W.kitOne X.K t c = some b) (h:∀ tk,Q (.bool b) { s with toks:=tk }) :
    wpAny (model X.prog X.w) A (call (.builtin "isinstance") [u,c]) Q E s:=by
  cases ty with
  | non => cases (show u = Value.none from rx); exact PySem.W.kia_one PySem.W.kitx_none I.kIn True.intro e (fun z => nomatch z) h
  | bl y => cases (show u = Value.bool y from rx); exact PySem.W.kia_one PySem.W.kitx_bool I.kIn True.intro e (fun z => nomatch z) h
  | int i => obtain ⟨t,q⟩:=(show ∃ t,u = Value.int i t from rx); cases q; exact PySem.W.kia_one PySem.W.kitx_int I.kIn True.intro e (fun z => nomatch z) h
  | str y => obtain ⟨t,q⟩:=(show ∃ t,u = Value.str y t from rx); cases q; exact PySem.W.kia_one PySem.W.kitx_str I.kIn True.intro e (fun z => nomatch z) h
  | flt y => obtain ⟨t,q⟩:=(show ∃ t,u = Value.float y t from rx); cases q; exact PySem.W.kia_one PySem.W.kitx_float I.kIn True.intro e (fun z => nomatch z) h
  | @lst a xs ea =>
    cases (show u = Value.ref a from rx)
    obtain ⟨_,_,n,_,h1⟩:=(show ObjOk X.prog X.w H s.heap a (.lst xs) from I.hok a _ ea)
    exact PySem.W.kia_one PySem.W.kitx_list I.kIn ⟨_,h1,rfl⟩ e (fun z => nomatch z) h
  | @frz a ob xs ea =>
    cases (show u = Value.ref a from rx)
    obtain ⟨_,_,_,n,_,h1⟩:=(show ObjOk X.prog X.w H s.heap a (.frz ob (.lst xs)) from I.hok a _ ea)
    exact PySem.W.kia_one PySem.W.kitx_list I.kIn ⟨_,h1,rfl⟩ e (fun z => nomatch z) h
  | @tup a xs ea =>
    cases (show u = Value.ref a from rx)
    obtain ⟨_,_,_,p⟩:=(show ObjOk X.prog X.w H s.heap a (.tup xs) from I.hok a _ ea)
    obtain ⟨o,h1,h2,_⟩:=p
    exact PySem.W.kia_one PySem.W.kitx_tuple I.kIn ⟨o,h1,h2⟩ e (fun z => nomatch z) h
  | @dK a kvs ea =>
    cases (show u = Value.ref a from rx)
    obtain ⟨_,_,vs,_,p⟩:=(show ObjOk X.prog X.w H s.heap a (.dK kvs) from I.hok a _ ea)
    obtain ⟨o,es,ep,h1,h2,_⟩:=p
    exact PySem.W.kia_one PySem.W.kitx_dict I.kIn ⟨o,h1,h2.1⟩ e (fun z => nomatch z) h
  | @dT a kvs ea =>
    cases (show u = Value.ref a from rx)
    obtain ⟨_,_,xs,_,o,es,ep,h1,h2,_⟩:=(show ObjOk X.prog X.w H s.heap a (.dT kvs) from I.hok a _ ea)
    exact PySem.W.kia_one PySem.W.kitx_dict I.kIn ⟨o,h1,h2.1⟩ e (fun z => nomatch z) h
  | @ins a C dx fs ea cl ha hn htk hm =>
    cases (show u = Value.ref a from rx)
    obtain ⟨mA,O,_⟩:=ins_get I.hok ea
    obtain ⟨od,J,_⟩:=O.look
    exact PySem.W.kia_one (PySem.W.kitx_own (cl.get _) cl.hd ha hn htk hm) I.kIn J e (fun z => nomatch z) h
end
end L2
namespace L2
open PySem PySem.Spec PyProof.Rows
structure Room (k:Nat) (A:Around):Prop where
  hd:A.handled = none
  dp:A.depth + 3 * k + 5 < recursionLimit
  un:A.units + 16 * k + 200 < cLine
theorem Room.mono {j k:Nat} {A:Around} (r:Room k A) (h:j ≤ k):Room j A:=⟨r.hd,by have:=r.dp; omega,by have:=r.un; omega⟩
theorem Room.deeper {k:Nat} {A:Around} (r:Room (k + 1) A) (env:Env):Room k (A.deeper env) :=
  ⟨r.hd,by have:=r.dp; show A.depth + 1 + 3 * k + 5 < _; omega,by have:=r.un; show A.units + 3 + 16 * k + 200 < _; omega⟩
theorem Room.in1 {k:Nat} {A:Around} (r:Room (k + 1) A):Room k A.in1 :=
  ⟨r.hd,by have:=r.dp; show A.depth + 3 * k + 5 < _; omega,by have:=r.un; show A.units + 1 + 16 * k + 200 < _; omega⟩
theorem make_depth {A:Around} {C:Addr} {us:List Value} {kw:List (Str × Value)}:(A.under (.builtin "type.__call__" ⟨.ref C :: us,kw⟩)).depth = A.depth + 1:=by
  first | rfl | simp [Around.under,Code.weight,Code.isCreation,Code.isGuard,Code.isCaller,Code.frames,Code.isFrame,guardIds]
theorem make_units {A:Around} {C:Addr} {us:List Value} {kw:List (Str × Value)}:(A.under (.builtin "type.__call__" ⟨.ref C :: us,kw⟩)).units = A.units + 1:=by
  first | rfl | simp [Around.under,Code.cUnits,Code.frames,Code.isFrame]
theorem Room.make {k:Nat} {A:Around} (r:Room (k + 1) A) (C:Addr) (us:List Value) (kw:List (Str × Value)):Room k (A.under (.builtin "type.__call__" ⟨.ref C :: us,kw⟩)) :=
  ⟨r.hd,by have:=r.dp; rw [make_depth]; omega,by have:=r.un; rw [make_units]; omega⟩
theorem Room.depth {k:Nat} {A:Around} (r:Room k A):A.depth < recursionLimit:=by have:=r.dp; omega
theorem Room.units {k:Nat} {A:Around} (r:Room k A):A.units + 64 < cLine:=by have:=r.un; omega
theorem Room.units0 {k:Nat} {A:Around} (r:Room k A):A.units < cLine:=by have:=r.un; omega
def tNil:TA:=fun _ H Q => Q [] H
def tCons (ta:TE) (tr:TA):TA:=fun σ H Q => ta σ H fun x H1 => tr σ H1 fun xs H2 => Q (x :: xs) H2
section
variable {X:Cx} {e:Expr} {es:List Expr} {te:TE} {t:TA} {pos:Pos}
theorem pa_nil:PA X [] tNil:=fun _ _ _ _ H Q I h => Calls.spliced_nil ⟨[],H,I,.nil,h⟩
theorem pa_cons (ha:PE X e te) (hr:PA X es t) (hs:starEach (e :: es) X.env = (false,eval e X.env) :: starEach es X.env:=by rfl):PA X (e :: es) (tCons te t):=by
  intro pos pins s σ H Q I h
  rw [hs]
  show wpAny _ _ (spliced ((false,eval e X.env) :: backTo pos (starEach es X.env))) _ _ s
  refine Calls.spliced_cons (thn (ha pins s σ H _ I h) fun u s1 ⟨x,H1,I1,r1,q1⟩ => ?_)
  exact thn (hr pos pins s1 σ H1 _ I1 q1) fun us s2 ⟨xs,H2,I2,r2,q2⟩ => ⟨x :: xs,H2,I2,.cons r1 r2,q2⟩
def tTup (t:TA):TE:=fun σ H Q => t σ H fun xs H1 => xs.length ≤ sizeLine ∧ ∀ p,H1 p = none → Q (.ref p) (upd H1 p (.tup xs))
def tLst (t:TA):TE:=fun σ H Q => t σ H fun xs H1 => xs.length ≤ sizeLine ∧ ∀ p,H1 p = none → Q (.ref p) (upd H1 p (.lst xs))
theorem pe_tup {x1} (h:PA X es t):PE X (.Tuple es x1 pos) (tTup t):=by
  intro pins s σ H Q I hq
  refine wpAny_Tuple_spliced (thn (h pos pins s σ H _ I hq) fun us s1 ⟨xs,H1,I1,r,z,q⟩ => ⟨by rw [← r.length]; exact z,?_⟩)
  have hf:H1 s1.heap.objs.size = none:=I1.hok.fresh (Nat.le_refl _)
  refine ⟨.ref s1.heap.objs.size,upd H1 s1.heap.objs.size (.tup xs),I1.laid (t':=s1.toks) (fun b u e => Heap.get?_push_of_some _ e) (Nat.le_refl _) ?_,rfl,q _ hf⟩
  exact ⟨z,us,r,⟨_,Heap.get?_push_size _ rfl,rfl,_,rfl⟩⟩
theorem pe_lst (h:PA X es t):PE X (.List es pos) (tLst t):=by
  intro pins s σ H Q I hq
  refine wpAny_List_spliced (thn (h pos pins s σ H _ I hq) fun us s1 ⟨xs,H1,I1,r,z,q⟩ => ⟨by rw [← r.length]; exact z,?_⟩)
  have hf:H1 s1.heap.objs.size = none:=I1.hok.fresh (Nat.le_refl _)
  refine ⟨.ref s1.heap.objs.size,upd H1 s1.heap.objs.size (.lst xs),I1.laid (t':=s1.toks) (fun b u e => Heap.get?_push_of_some _ e) (Nat.le_refl _) ?_,rfl,q _ hf⟩
  exact ⟨z,us,0,r,Heap.get?_push_size _ rfl⟩
end
abbrev Sp:=List V → Hp → VK → XK → Prop
abbrev CXT:=List Env → Hp → Shared → XK → Value → Shared → Prop
structure Env0 (P:Program) (w:World) (K:PySem.W.Frag) (mg:Str → Option Value) (base:Heap) (A:Around) (outer:List Env) (s:Shared) (H:Hp):Prop where
  frames:A.frames = some outer
  mod:Mod K mg base
  bs:∀ b o,base.get? b = some o → s.heap.get? b = some o ∧ H b = none
  bsz:base.objs.size ≤ s.heap.objs.size
  funs:s.heap.FunFrames base outer
  frf:∀ b ∈ frs outer,H b = none
  hok:HOk P w H s.heap
  bare:AllBare s.gens
def CE (outer:List Env) (P:Program) (w:World) (H:Hp) (s:Shared) (Q:VK) (u:Value) (s':Shared):Prop :=
  ∃ v H',s'.os = s.os ∧ AllBare s'.gens ∧ Un (frs outer) [] H H' s.heap s'.heap ∧ HOk P w H' s'.heap ∧ RelV v u ∧ Q v H'
def CR (CX:CXT) (outer:List Env) (P:Program) (w:World) (H:Hp) (s:Shared) (Q:VK) (E:XK) (r:Result) (s':Shared):Prop :=
  match r with
  | .ok (.ret u) => CE outer P w H s Q u s'
  | .ok _ => False
  | .error e => CX outer H s E e s'
structure FnOk (P:Program) (w:World) (K:PySem.W.Frag) (mg:Str → Option Value) (base:Heap) (CX:CXT) (k:Nat) (f:Addr) (fd:FuncData) (ps:List Str) (sp:Sp):Prop where
  len:∀ vs H Q E,sp vs H Q E → vs.length = ps.length
  run:∀ (A:Around) (outer:List Env) (s:Shared) (H:Hp) (args:Args) (us:List Value) (vs:List V) (Q:VK) (E:XK),Room k A → Env0 P w K mg base A outer s H → BindsTo s fd args (ps.zip us) → Vals vs us → sp vs H Q E →
    codeAny (model P w) A (.call (.ref f) args) (CR CX outer P w H s Q E) s
theorem FnOk.mono {P:Program} {w:World} {K:PySem.W.Frag} {mg:Str → Option Value} {base:Heap} {CX:CXT} {j k:Nat} {f:Addr} {fd:FuncData} {ps:List Str} {sp:Sp} (F:FnOk P w K mg base CX j f fd ps sp) (h:j ≤ k) :
    FnOk P w K mg base CX k f fd ps sp:=⟨F.len,fun A outer s H args us vs Q E hr => F.run A outer s H args us vs Q E (hr.mono h)⟩
theorem FnOk.imp {P:Program} {w:World} {K:PySem.W.Frag} {mg:Str → Option Value} {base:Heap} {CX:CXT} {k:Nat} {f:Addr} {fd:FuncData} {ps:List Str} {sp sp':Sp} (F:FnOk P w K mg base CX k f fd ps sp)
    (h:∀ vs H Q E,sp' vs H Q E → sp vs H Q E):FnOk P w K mg base CX k f fd ps sp' :=
  ⟨fun vs H Q E q => F.len vs H Q E (h _ _ _ _ q),fun A outer s H args us vs Q E hr he hb hv hs => F.run A outer s H args us vs Q E hr he hb hv (h _ _ _ _ hs)⟩
theorem Env0.make {P:Program} {w:World} {K:PySem.W.Frag} {mg:Str → Option Value} {base:Heap} {A:Around} {outer:List Env} {s:Shared} {H:Hp} (e:Env0 P w K mg base A outer s H) (C:Addr) (us:List Value) (kw:List (Str × Value)) :
    Env0 P w K mg base (A.under (.builtin "type.__call__" ⟨.ref C :: us,kw⟩)) outer s H:=⟨by first | exact e.frames | (simpa [Around.under,Code.envs,Code.isFrame,pushEnvs] using e.frames),e.mod,e.bs,e.bsz,e.funs,e.frf,e.hok,e.bare⟩
theorem Env0.in1 {P:Program} {w:World} {K:PySem.W.Frag} {mg:Str → Option Value} {base:Heap} {A:Around} {outer:List Env} {s:Shared} {H:Hp} (e:Env0 P w K mg base A outer s H) :
    Env0 P w K mg base A.in1 outer s H:=⟨e.frames,e.mod,e.bs,e.bsz,e.funs,e.frf,e.hok,e.bare⟩
section
variable {X:Cx} {pins:List (Addr × Obj)} {σ:St} {H:Hp} {s s':Shared}
theorem Inv.env0 (I:Inv X pins σ H s):Env0 X.prog X.w X.K X.mg X.base X.A X.stack s H :=
  ⟨I.ok.frames,I.ok.mod,I.bs,Nat.le_trans I.ok.bsz I.sz,I.stack,I.stkFree,I.hok,I.bare⟩
theorem Inv.after {Q:VK} {u:Value} (I:Inv X pins σ H s) (h:CE X.stack X.prog X.w H s Q u s'):EP X pins σ Q u s':=by
  obtain ⟨v,H',os,bare,un,hok,r,q⟩:=h
  obtain ⟨hh,g,d,t,os'⟩:=s'
  obtain rfl:os' = s.os:=os
  exact ⟨v,H',I.call (h':=hh) (g':=g) (d':=d) (t':=t) (ch:=[]) un hok bare (fun b z => absurd z (by simp)),r,q⟩
end
def tCall (sp:Sp) (dvs:List V) (E:XK) (t:TA):TE:=fun σ H Q => t σ H fun vs H1 => sp (vs ++ dvs) H1 Q E
def Binds (K:PySem.W.Frag) (fd:FuncData) (ps:List Str) (ds:List Value):Prop :=
  ∀ (s:Shared) (us:List Value),K.In s.heap → (us ++ ds).length = ps.length → BindsTo s fd ⟨us,[]⟩ (ps.zip (us ++ ds))
theorem Binds.all {K:PySem.W.Frag} {fd:FuncData} {ps:List Str} (h:∀ us:List Value,us.length = ps.length → bindArgs fd ⟨us,[]⟩ = pure (ps.zip us)):Binds K fd ps []:=fun s us _ hl => by
  rw [List.append_nil] at hl ⊢
  exact .of_eq (h us hl)
def Passes (CX:CXT) (X:Cx) (E:XK):Prop:=∀ (pins:List (Addr × Obj)) (σ:St) (H:Hp) (s:Shared) (e:Value) (s':Shared),Inv X pins σ H s → CX X.stack H s E e s' → X.xe e s'
section
variable {X:Cx} {CX:CXT} {k:Nat} {f C:Addr} {fd:FuncData} {ps:List Str} {sp:Sp} {dvs:List V} {ds:List Value} {E:XK} {x m:Str} {p pos apos:Pos} {e o:Expr} {es:List Expr} {ta:TE} {t:TA}
theorem run_fn {pins:List (Addr × Obj)} {σ:St} {H:Hp} {s:Shared} {Q:VK} {us:List Value} {vs:List V} (F:FnOk X.prog X.w X.K X.mg X.base CX k f fd ps sp) (hr:Room k X.A) (hb:Binds X.K fd ps ds) (hd:Vals dvs ds) (hx:Passes CX X E)
    (I:Inv X pins σ H s) (r:Vals vs us) (h:sp (vs ++ dvs) H Q E):wpAny (model X.prog X.w) X.A (call (.ref f) us) (EP X pins σ Q) X.xe s:=by
  have r2:Vals (vs ++ dvs) (us ++ ds):=r.append hd
  have hl:(us ++ ds).length = ps.length:=by rw [← r2.length]; exact F.len _ _ _ _ h
  refine wpAny_call (codeAny_mono (F.run X.A X.stack s H ⟨us,[]⟩ (us ++ ds) (vs ++ dvs) Q E hr I.env0 (hb s us I.kIn hl) r2 h) fun r s' hq => ?_)
  cases r with
  | error e => exact hx pins σ H s e s' I hq
  | ok fl =>
    cases fl with
    | ret u => exact I.after hq
    | next => exact False.elim hq
    | brk => exact False.elim hq
    | cont => exact False.elim hq
theorem pe_call (F:FnOk X.prog X.w X.K X.mg X.base CX k f fd ps sp) (hr:Room k X.A) (hg:Gl X x) (hm:X.mg x = some (.ref f)) (hk:PySem.W.keepIn X.K (.ref f) = true) (hb:Binds X.K fd ps ds) (hd:Vals dvs ds) (hx:Passes CX X E)
    (ha:PA X (e :: es) t) (hdb:(x == ("__debug__" : Str)) = false:=by decide) (he:starEach (e :: es) X.env = (false,eval e X.env) :: starEach es X.env:=by rfl) (hpl:(backTo pos (starEach es X.env)).any (·.1) = false:=by rfl) :
    PE X (.Call (.Name x p) (e :: es) [] pos) (tCall sp dvs E t):=by
  intro pins s σ H Q I h
  refine wpAny_Call_Name_kw (ld_glob I hg hm ?_ hdb)
  refine PySem.W.callWith_K (h₀:=X.base) I.ok.mod.kin hk (thn (ha pos pins s σ H _ I h) fun us s1 ⟨vs,H1,I1,r,q⟩ => ⟨I1.kIn,?_⟩) he hpl
  exact run_fn F hr hb hd hx I1 r q
end
def PK (X:Cx) (kws:List Keyword) (t:TA):Prop :=
  ∀ (pos:Pos) (pins:List (Addr × Obj)) (s:Shared) (σ:St) (H:Hp) (Q:List V → Hp → Prop),Inv X pins σ H s → t σ H Q → wpAny (model X.prog X.w) X.A (evalAll ((backToKw pos (keywordEach kws X.env)).map (·.2))) (AP X pins σ Q) X.xe s
section
variable {X:Cx} {CX:CXT} {k:Nat} {f C:Addr} {fd:FuncData} {ps ks:List Str} {sp:Sp} {E:XK} {x m:Str} {p pos apos kpos:Pos} {e o:Expr} {es:List Expr} {kws:List Keyword} {te ta:TE} {t tk:TA} {nm:Option Str}
theorem pk_nil:PK X [] tNil:=fun _ _ _ _ H Q I h => wpAny_evalAll_nil ⟨[],H,I,.nil,h⟩
theorem pk_cons (ha:PE X e te) (hr:PK X kws t):PK X (⟨nm,e,kpos⟩ :: kws) (tCons te t):=by
  intro pos pins s σ H Q I h
  show wpAny _ _ (evalAll ((do let v ← eval e X.env; standAt pos; pure v) :: (backToKw pos (keywordEach kws X.env)).map (·.2))) _ _ s
  refine wpAny_evalAll_cons (wpAny_bind (thn (ha pins s σ H _ I h) fun u s1 ⟨x,H1,I1,r1,q1⟩ => wpAny_bind (wpAny_standAt (wpAny_pure ?_))))
  exact thn (hr pos pins s1 σ H1 _ I1 q1) fun us s2 ⟨xs,H2,I2,r2,q2⟩ => ⟨x :: xs,H2,I2,.cons r1 r2,q2⟩
variable {g:List Value → List Value → List Value} {gV:List V → List V → List V}
end
structure FnScope (N P:List Str) (sc:Scope):Prop where
  kind:sc.kind = .function
  co:sc.isCoroutine = false
  gen:sc.isGenerator = false
  nd:N.Nodup
  pre:N.take P.length = P
  par:∀ x ∈ P,sc.names.lookup x = some .local ∨ sc.names.lookup x = some .cell
  nofree:∀ y ∈ sc.names,y.2 ≠ .free
theorem bindL_out {kindOf:Str → Option NameKind} {x:Str}:∀ {binds:List (Str × Value)} {m:Str → Option Value},(∀ v,(x,v) ∉ binds) → bindL kindOf binds m x = m x
  | [],_,_ => rfl
  | (n,v) :: r,m,h => by
    unfold bindL
    rw [bindL_out fun w hw => h w (List.mem_cons_of_mem _ hw)]
    split
    · have:x ≠ n:=by rintro rfl; exact h v List.mem_cons_self
      simp [this]
    · rfl
theorem bindC_out {kindOf:Str → Option NameKind} {x:Str}:∀ {binds:List (Str × Value)} {m:Str → Option Value},(∀ v,(x,v) ∉ binds) → bindC kindOf binds m x = m x
  | [],_,_ => rfl
  | (n,v) :: r,m,h => by
    unfold bindC
    rw [bindC_out fun w hw => h w (List.mem_cons_of_mem _ hw)]
    split
    · rfl
    · have:x ≠ n:=by rintro rfl; exact h v List.mem_cons_self
      simp [this]
theorem bindL_get {kindOf:Str → Option NameKind} {x:Str} {v:Value}:∀ {P:List Str} {vs:List Value} {i:Nat} {m:Str → Option Value},P.Nodup → P[i]? = some x → vs[i]? = some v → kindOf x = some .local →
    bindL kindOf (P.zip vs) m x = some v
  | [],_,_,_,_,h,_,_ => by simp at h
  | _ :: _,[],_,_,_,_,h,_ => by simp at h
  | p :: P,w :: vs,0,m,nd,h1,h2,hk => by
    simp at h1 h2; subst h1; subst h2
    show bindL kindOf ((p,w) :: P.zip vs) m p = _
    unfold bindL
    rw [bindL_out fun v hv => (List.nodup_cons.mp nd).1 (List.of_mem_zip hv).1,if_pos hk]
    simp
  | p :: P,w :: vs,i + 1,m,nd,h1,h2,hk => by
    show bindL kindOf ((p,w) :: P.zip vs) m x = _
    unfold bindL
    exact bindL_get (i:=i) (List.nodup_cons.mp nd).2 (by simpa using h1) (by simpa using h2) hk
theorem bindC_get {kindOf:Str → Option NameKind} {x:Str} {v:Value}:∀ {P:List Str} {vs:List Value} {i:Nat} {m:Str → Option Value},P.Nodup → P[i]? = some x → vs[i]? = some v → kindOf x ≠ some .local →
    bindC kindOf (P.zip vs) m x = some v
  | [],_,_,_,_,h,_,_ => by simp at h
  | _ :: _,[],_,_,_,_,h,_ => by simp at h
  | p :: P,w :: vs,0,m,nd,h1,h2,hk => by
    simp at h1 h2; subst h1; subst h2
    show bindC kindOf ((p,w) :: P.zip vs) m p = _
    unfold bindC
    rw [bindC_out fun v hv => (List.nodup_cons.mp nd).1 (List.of_mem_zip hv).1,if_neg hk]
    simp
  | p :: P,w :: vs,i + 1,m,nd,h1,h2,hk => by
    show bindC kindOf ((p,w) :: P.zip vs) m x = _
    unfold bindC
    exact bindC_get (i:=i) (List.nodup_cons.mp nd).2 (by simpa using h1) (by simpa using h2) hk
def start (N:List Str) (vs:List V):St:=vs.map some ++ List.replicate (N.length - vs.length) none
def cxOf (CX:CXT) (P:Program) (w:World) (K:PySem.W.Frag) (mg:Str → Option Value) (base:Heap) (N:List Str) (qual:Str) (scope:Scope) (f:Addr) (cd:Value) (A:Around) (outer:List Env) (s:Shared) (H:Hp) (E:XK):Cx where
  prog:=P
  w:=w
  K:=K
  mg:=mg
  base:=base
  A:=A.deeper (envOfC qual scope s.heap.objs.size f cd)
  N:=N
  s₀:=s
  H₀:=H
  env:=envOfC qual scope s.heap.objs.size f cd
  outer:=outer
  stack:=envOfC qual scope s.heap.objs.size f cd :: outer
  ex:=[]
  calm:=true
  fn:=fun _ => true
  pn:=[]
  xe:=fun e s' => wpAny (model P w) (A.deeper (envOfC qual scope s.heap.objs.size f cd)) (leaving (envOfC qual scope s.heap.objs.size f cd) e) (fun _ s'' => CX outer H s E e s'') (fun e' s'' => CX outer H s E e' s'') s'
theorem cell_has {sc:Scope} {n:Nat} {x:Str} (h:sc.names.lookup x = some .cell):∃ c,(cellsFrom n sc.names []).lookup x = some c:=by
  have q:=PySem.W.cellsFrom_some sc.names n [] (.inl h)
  exact Option.isSome_iff_exists.mp q
theorem inv_start {CX:CXT} {P:Program} {w:World} {K:PySem.W.Frag} {mg:Str → Option Value} {base:Heap} {N ps:List Str} {qual:Str} {scope:Scope} {f:Addr} {cd:Value} {A:Around} {outer:List Env} {s s1:Shared} {H:Hp} {E:XK} {us:List Value} {vs:List V}
    (S:FnScope N ps scope) (hd:A.handled = none) (e0:Env0 P w K mg base A outer s H) (hl:vs.length = ps.length) (r:Vals vs us)
    (x:InCallC s s.heap.objs.size (bindL (envOfC qual scope s.heap.objs.size f cd).kindOf (ps.zip us) fun _ => none) (cellsFrom (s.heap.objs.size + 1) scope.names []) (bindC (envOfC qual scope s.heap.objs.size f cd).kindOf (ps.zip us) fun _ => none) s1) :
    Inv (cxOf CX P w K mg base N qual scope f cd A outer s H E) [] (start N vs) H s1:=by
  have hpl:ps.length ≤ N.length:=by have:=congrArg List.length S.pre; rw [List.length_take] at this; omega
  obtain ⟨h1,tk,rfl,hk⟩:=x.done
  have noA:∀ b:Addr,b ∉ (cxOf CX P w K mg base N qual scope f cd A outer s H E).ex:=fun b z => absurd (show b ∈ ([]:List Addr) from z) (by simp)
  refine ⟨⟨e0.mod,S.kind,rfl,rfl,Nat.le_refl _,fun y z c h1 h2 => ?_,fun y hy => ?_,fun y c _ h => ?_,fun _ => hd,Around.frames_deeper e0.frames,.inr ⟨rfl,rfl⟩,fun b z => absurd z (noA b),e0.bs,e0.bsz,fun b _ _ => noA b,fun b z => absurd z (noA b),e0.funs,e0.frf⟩,
    rfl,e0.bare,Un.kept hk,⟨_,x.toInCall.ns,fun i y v h1 h2 h3 => ?_⟩,fun y c h => ⟨_,x.cell y c h⟩,e0.hok.fresh (Nat.le_refl _),fun y c h => ?_,fun p hp => absurd (show p ∈ ([]:List (Addr × Obj)) from hp) (by simp),e0.hok.kept hk,?_⟩
  · exact name_of_addr x.apart (PySem.mem_of_lookup h1) (PySem.mem_of_lookup h2)
  · have hy:scope.names.lookup y = some .cell ∨ scope.names.lookup y = some .free:=hy
    rcases hy with hy | hy
    · exact cell_has hy
    · exact absurd rfl (S.nofree _ (PySem.mem_of_lookup hy))
  · exact Nat.le_of_lt (x.above y c (PySem.mem_of_lookup h))
  · have hi:i < vs.length:=by
      unfold start at h2
      by_cases hi:i < vs.length
      · exact hi
      · rw [List.getElem?_append_right (by simpa using hi)] at h2
        rw [List.getElem?_replicate] at h2
        split at h2 <;> cases h2
    have ha:vs[i]? = some v:=by
      unfold start at h2
      rw [List.getElem?_append_left (by simpa using hi),List.getElem?_map] at h2
      cases e:vs[i]? with
      | none => rw [e] at h2; cases h2
      | some a => rw [e] at h2; cases h2; rfl
    obtain ⟨u,hu,rv⟩:=r.get ha
    have hp:ps[i]? = some y:=by
      rw [← S.pre,List.getElem?_take_of_lt (by omega)]; exact h1
    have ndP:ps.Nodup:=by rw [← S.pre]; exact S.nd.sublist (List.take_sublist _ _)
    refine ⟨u,rv,?_⟩
    rcases S.par y (List.mem_of_getElem? hp) with k | k
    · exact .inl ⟨k,bindL_get ndP hp hu k⟩
    · obtain ⟨c,e⟩:=cell_has (n:=s.heap.objs.size + 1) k
      refine .inr ⟨.inl k,c,e,?_⟩
      have q:=x.cell y c e
      rw [bindC_get ndP hp hu (by show scope.names.lookup y ≠ _; rw [k]; decide)] at q
      exact q
  · exact e0.hok.fresh (Nat.le_of_lt (x.above y c (PySem.mem_of_lookup h)))
  · unfold start
    show _ = N.length
    rw [List.length_append,List.length_map,List.length_replicate]
    omega
theorem fn_of {CX:CXT} {P:Program} {w:World} {K:PySem.W.Frag} {mg:Str → Option Value} {base:Heap} {k:Nat} {f:Addr} {name qual:Str} {params:Arguments} {body:List Stmt} {scope:Scope} {dV kV doc pm cdv ct oc:Value} {an od:Option Addr}
    {osl:Array (Option Value)} {N ps:List Str} {sp:Sp} (lk:K.lookup f = some ⟨oc,od,.func (PySem.W.fnOf name qual params body scope dV kV doc pm an cdv ct),osl⟩) (hcd:PySem.W.codeIn K cdv qual = true) (S:FnScope N ps scope)
    (len:∀ vs H Q E,sp vs H Q E → vs.length = ps.length)
    (hbody:∀ (A:Around) (outer:List Env) (s:Shared) (H:Hp) (vs:List V) (Q:VK) (E:XK),Room k (A.deeper (envOfC qual scope s.heap.objs.size f cdv)) → sp vs H Q E →
      ∃ t,PSs (cxOf CX P w K mg base N qual scope f cdv A outer s H E) body t ∧ t { nx:=fun _ H' => Q .non H',rt:=Q } (start N vs) H) :
    FnOk P w K mg base CX (k + 1) f (PySem.W.fnOf name qual params body scope dV kV doc pm an cdv ct) ps sp:=by
  refine ⟨len,fun A outer s H args us vs Q E hr e0 hb r hsp => ?_⟩
  have hl:=len _ _ _ _ hsp
  have KX:K.In s.heap:=e0.mod.kin.keeps fun b o e => (e0.bs b o e).1
  have lim:s.heap.NoLimit:=e0.mod.nolimit.keeps fun b o e => (e0.bs b o e).1
  have hkind:∀ y ∈ ps.zip us,scope.names.lookup y.1 = some .local ∨ (scope.names.lookup y.1 = some .cell ∧ ((cellsFrom (s.heap.objs.size + 1) scope.names []).lookup y.1).isSome = true):=fun ⟨n,v⟩ hy => by
    rcases S.par n (List.of_mem_zip hy).1 with q | q
    · exact .inl q
    · exact .inr ⟨q,PySem.W.cellsFrom_some _ _ _ (.inl q)⟩
  refine codeAny_call_function hr.depth (KX _ _ lk) rfl S.co S.gen rfl (PySem.W.codeRec_of KX hcd) (hb _ _ _ _ ?_)
  refine wpAny_newFunctionEnv_cells S.kind hkind fun env he s1 x => ?_
  subst he
  refine ⟨lim.keeps x.toInCall.keep,codeAny_func ?_⟩
  obtain ⟨t,ht,hq⟩:=hbody A outer s H vs Q E (hr.deeper _) hsp
  have I:Inv (cxOf CX P w K mg base N qual scope f cdv A outer s H E) [] (start N vs) H s1:=inv_start S hr.hd e0 hl r x
  refine wpAny_mono (ht [] s1 (start N vs) H _ I hq) (fun fl s' hs => ?_) fun e s' hs => hs
  have fin:∀ {σ':St} {H':Hp} {v:V} {u:Value},Inv (cxOf CX P w K mg base N qual scope f cdv A outer s H E) [] σ' H' s' → RelV v u → Q v H' → CE outer P w H s Q u s' :=
    fun {σ' H' v u} J rv q => ⟨v,H',J.os,J.bare,J.base,J.hok,rv,q⟩
  cases fl with
  | ret u =>
    obtain ⟨v,σ',H',J,rv,q⟩:=hs
    exact fin J rv q
  | next =>
    obtain ⟨σ',H',J,q⟩:=hs
    exact fin (v:=V.non) (u:=Value.none) J rfl q
  | brk =>
    obtain ⟨_,_,_,q⟩:=hs
    exact False.elim q
  | cont =>
    obtain ⟨_,_,_,q⟩:=hs
    exact False.elim q
end L2
namespace L2
open PySem PySem.Spec PyProof.Rows
section
variable {X:Cx} {x:Str} {p pos:Pos} {e:Expr} {es:List Expr} {t:TA} {id T:String} {r:List V → Hp → VK → Prop}
def tCB (r:List V → Hp → VK → Prop) (t:TA):TE:=fun σ H Q => t σ H fun vs H1 => r vs H1 Q
theorem pe_callB (hc:CallR X (.builtin id) r) (hg:Gl X x) (hm:X.mg x = none) (hv:bootBuiltins x = some (.builtin id)) (ha:PA X (e :: es) t) (hn:x ≠ "__name__" := by decide) (hdb:(x == ("__debug__" : Str)) = false:=by decide)
    (he:starEach (e :: es) X.env = (false,eval e X.env) :: starEach es X.env:=by rfl) (hpl:(backTo pos (starEach es X.env)).any (·.1) = false:=by rfl):PE X (.Call (.Name x p) (e :: es) [] pos) (tCB r t):=by
  intro pins s σ H Q I h
  refine wpAny_Call_Name_kw (ld_blt I hg hm hv ?_ hn hdb)
  exact PyProof.Rows.callWith_builtin1 (thn (ha pos pins s σ H _ I h) fun us s1 ⟨vs,H1,I1,r1,q1⟩ => hc pins s1 σ H1 vs us Q I1 r1 q1) he hpl
theorem pe_callTy (hc:CallR X (.type T) r) (hg:Gl X x) (hm:X.mg x = none) (hv:bootBuiltins x = some (.type T)) (ha:PA X (e :: es) t) (hn:x ≠ "__name__" := by decide) (hdb:(x == ("__debug__" : Str)) = false:=by decide)
    (he:starEach (e :: es) X.env = (false,eval e X.env) :: starEach es X.env:=by rfl) (hpl:(backTo pos (starEach es X.env)).any (·.1) = false:=by rfl):PE X (.Call (.Name x p) (e :: es) [] pos) (tCB r t):=by
  intro pins s σ H Q I h
  refine wpAny_Call_Name_kw (ld_blt I hg hm hv ?_ hn hdb)
  exact PyProof.Rows.callWith_type1 (thn (ha pos pins s σ H _ I h) fun us s1 ⟨vs,H1,I1,r1,q1⟩ => hc pins s1 σ H1 vs us Q I1 r1 q1) he hpl
end
end L2
namespace HT
open PySem PyProof.Rows
def lexLt:List Int → List Int → Bool
  | [],[] => false
  | [],_ :: _ => true
  | _ :: _,[] => false
  | x :: xs,y :: ys => if x = y then lexLt xs ys else decide (x < y)
theorem lexLt_cons (x y:Int) (xs ys:List Int):lexLt (x :: xs) (y :: ys) = if x = y then lexLt xs ys else decide (x < y):=rfl
theorem lexLt_nil_nil:lexLt [] [] = false:=rfl
theorem lexLt_nil_cons (y:Int) (ys:List Int):lexLt [] (y :: ys) = true:=rfl
theorem lexLt_cons_nil (x:Int) (xs:List Int):lexLt (x :: xs) [] = false:=rfl
theorem eqAt_int (A:Around) (s:Shared) (a:Int) (t:Tok) (c:Int) (u:Tok):∃ e,SeqAt.EqAt A s (.int a t) (.int c u) e ∧ (e = true ↔ a = c) :=
  ⟨(a == c),SeqAt.EqAt.int_int a t c u,by simp⟩
section
open PySem.SeqAt
open PySem.AutoSeq1 (wpAny_loadPart')
open PySem.MeetsSeq PySem.MeetsSeq2 PySem.MeetsSeq3
end
section
variable {prog:Program} {w:World} {A:Around} {E:Value → Shared → Prop} {s:Shared}
def sIx (n d:Nat):Option Int → Nat
  | none => d
  | some v => if v < 0 then (v + (n:Int)).toNat else min v.toNat n
end
end HT
namespace L2
open PySem PySem.Spec PyProof.Rows
abbrev TO:=St → Hp → (Option Int → Hp → Prop) → Prop
def PO (X:Cx) (e:Option Expr) (t:TO):Prop :=
  ∀ (pins:List (Addr × Obj)) (s:Shared) (σ:St) (H:Hp) (Q:Option Int → Hp → Prop),Inv X pins σ H s → t σ H Q →
    wpAny (model X.prog X.w) X.A (evalPart e X.env) (fun u s' => ∃ o H',Inv X pins σ H' s' ∧ IsPart u o ∧ Q o H') X.xe s
def tNoPart:TO:=fun _ H Q => Q none H
theorem intsAre_of {ns:List Int}:∀ {us:List Value},Vals (ns.map V.int) us → IntsAre us ns:=by
  induction ns with
  | nil => intro us r; rw [List.map_nil] at r; cases r; exact .nil
  | cons n ns ih =>
    intro us r
    rw [List.map_cons] at r
    cases r with
    | cons r1 r2 =>
      obtain ⟨t,e⟩:=r1
      subst e
      exact .cons n t (ih r2)
section
variable {X:Cx} {e:Expr} {te:TE} {lo hi:Option Expr} {tl th:TO} {pos p2:Pos}
theorem po_none:PO X none tNoPart:=by
  intro pins s σ H Q I h
  rw [evalPart_none]
  exact wpAny_pure ⟨none,H,I,.none,h⟩
def SlR (X:Cx) (r:V → Option Int → Option Int → Hp → VK → Prop):Prop :=
  ∀ (pins:List (Addr × Obj)) (s:Shared) (σ:St) (H:Hp) (x:V) (v vl vu:Value) (lo hi:Option Int) (sl:Addr) (Q:VK),Inv X pins σ H s → RelV x v → s.heap.IsSliceOf sl vl vu .none → IsPart vl lo → IsPart vu hi → r x lo hi H Q →
    ∃ T id,typeLookup (.type T) "__getitem__" = pure (some (.builtin id)) ∧ s.TypeIs v T ∧ wpAny (model X.prog X.w) X.A (getItem v (.ref sl)) (EP X pins σ Q) X.xe s
theorem SlR.or {r r':V → Option Int → Option Int → Hp → VK → Prop} (h:SlR X r) (h':SlR X r'):SlR X (fun x lo hi H Q => r x lo hi H Q ∨ r' x lo hi H Q):=by
  intro pins s σ H x v vl vu lo hi sl Q I rx hs pl pu q
  rcases q with q | q
  · exact h pins s σ H x v vl vu lo hi sl Q I rx hs pl pu q
  · exact h' pins s σ H x v vl vu lo hi sl Q I rx hs pl pu q
def tSl (r:V → Option Int → Option Int → Hp → VK → Prop) (te:TE) (tl th:TO):TE:=fun σ H Q => te σ H fun x H1 => tl σ H1 fun l H2 => th σ H2 fun u H3 => r x l u H3 Q
theorem pe_slice {r:V → Option Int → Option Int → Hp → VK → Prop} (hr:SlR X r) (he:PE X e te) (hl:PO X lo tl) (hu:PO X hi th):PE X (.Subscript e (.Slice lo hi none p2) pos) (tSl r te tl th):=by
  intro pins s σ H Q I h
  refine Subscript_ (thn (he pins s σ H _ I h) fun v s1 ⟨x,H1,I1,r1,q1⟩ => ?_)
  refine wpAny_Slice (thn (hl pins s1 σ H1 _ I1 q1) fun vl s2 ⟨l,H2,I2,pl,q2⟩ => thn (hu pins s2 σ H2 _ I2 q2) fun vu s3 ⟨u,H3,I3,pu,q3⟩ => ?_)
  rw [evalPart_none]
  refine wpAny_pure ?_
  have I4:Inv X pins σ H3 { s3 with heap:=s3.heap.push { cls:=.type "slice",data:=.fields #[vl,vu,.none] } }:=I3.kept (t':=s3.toks) fun b ob q => Heap.get?_push_of_some _ q
  obtain ⟨T,id,hT,ht,hg⟩:=hr pins { s3 with heap:=s3.heap.push { cls:=.type "slice",data:=.fields #[vl,vu,.none] } } σ H3 x v vl vu l u s3.heap.objs.size Q I4 r1 (Heap.IsSliceOf.new ..) pl pu q3
  show wpAny (model X.prog X.w) X.A (subscriptTail e (.Slice lo hi none p2) v (.ref s3.heap.objs.size)) (EP X pins σ Q) X.xe { s3 with heap:=s3.heap.push { cls:=.type "slice",data:=.fields #[vl,vu,.none] } }
  exact tail_any (ops:=[.ref s3.heap.objs.size,v]) ht hT hg (by with_unfolding_all rfl)
def cutV (xs:List V) (lo hi:Option Int):List V:=(xs.drop (HT.sIx xs.length 0 lo)).take (HT.sIx xs.length xs.length hi - HT.sIx xs.length 0 lo)
theorem cutV_length (xs:List V) (lo hi:Option Int):(cutV xs lo hi).length ≤ xs.length:=by
  unfold cutV
  rw [List.length_take,List.length_drop]
  omega
end
end L2
namespace L2
open PySem PySem.Spec PyProof.Rows
def ixN (n:Nat) (i:Int):Option Nat:=if 0 ≤ i then (if i < n then some i.toNat else none) else if -(n:Int) ≤ i then some (i + n).toNat else none
def atI {α:Type} (xs:List α) (i:Int):Option α:=(ixN xs.length i).bind fun j => xs[j]?
theorem ixN_seq {n:Nat} {i:Int} {j:Nat} (h:ixN n i = some j):seqIndex? i n = some j ∧ j < n ∧ -(n:Int) ≤ i ∧ i < n:=by
  unfold ixN at h
  by_cases h0:0 ≤ i
  · rw [if_pos h0] at h
    by_cases h1:i < n
    · rw [if_pos h1] at h
      have e:i.toNat = j:=Option.some.inj h
      exact ⟨by rw [seqIndex_of h0 h1,e],by omega,by omega,h1⟩
    · rw [if_neg h1] at h; cases h
  · rw [if_neg h0] at h
    by_cases h1:-(n:Int) ≤ i
    · rw [if_pos h1] at h
      have e:(i + n).toNat = j:=Option.some.inj h
      exact ⟨by rw [seqIndex_neg (by omega) h1,e],by omega,h1,by omega⟩
    · rw [if_neg h1] at h; cases h
theorem atI_get {α:Type} {xs:List α} {i:Int} {v:α} (h:atI xs i = some v):∃ j,seqIndex? i xs.length = some j ∧ xs[j]? = some v ∧ j < xs.length ∧ -(xs.length:Int) ≤ i ∧ i < xs.length:=by
  unfold atI at h
  cases e:ixN xs.length i with
  | none => rw [e] at h; cases h
  | some j =>
    rw [e] at h
    obtain ⟨h1,h2,h3,h4⟩:=ixN_seq e
    exact ⟨j,h1,h,h2,h3,h4⟩
theorem atI_nat {α:Type} {xs:List α} {j:Nat} {v:α} (h:xs[j]? = some v):atI xs (j:Int) = some v:=by
  have hj:j < xs.length:=(List.getElem?_eq_some_iff.mp h).1
  have e:ixN xs.length (j:Int) = some j:=by
    unfold ixN
    rw [if_pos (by omega),if_pos (by omega)]; simp
  unfold atI; rw [e]; exact h
def PlainIx (b:Expr):Prop:=∀ o i,subscripted b false o i = operate [o,i] (getItem o i)
def IxR (X:Cx) (r:R2):Prop :=
  ∀ (value slice:Expr) (pins:List (Addr × Obj)) (s:Shared) (σ:St) (H:Hp) (x y:V) (v u:Value) (Q:VK),Inv X pins σ H s → RelV x v → RelV y u → r x y H Q →
    subscripted slice false v u = operate [v,u] (getItem v u) → wpAny (model X.prog X.w) X.A (subscriptTail value slice v u) (EP X pins σ Q) X.xe s
def MtR (X:Cx) (id:String) (r:V → List V → Hp → VK → Prop):Prop :=
  ∀ (pins:List (Addr × Obj)) (s:Shared) (σ:St) (H:Hp) (x:V) (xs:List V) (v:Value) (us:List Value) (Q:VK),Inv X pins σ H s → RelV x v → Vals xs us → r x xs H Q →
    wpAny (model X.prog X.w) X.A (call (.builtin id) (v :: us)) (EP X pins σ Q) X.xe s
section
variable {X:Cx} {a b:Expr} {ta tb:TE} {pos:Pos}
theorem IxR.or {r r':R2} (h:IxR X r) (h':IxR X r'):IxR X (fun x y H Q => r x y H Q ∨ r' x y H Q):=by
  intro value slice pins s σ H x y v u Q I rx ry q hs
  rcases q with q | q
  · exact h value slice pins s σ H x y v u Q I rx ry q hs
  · exact h' value slice pins s σ H x y v u Q I rx ry q hs
theorem MtR.or {id:String} {r r':V → List V → Hp → VK → Prop} (h:MtR X id r) (h':MtR X id r'):MtR X id (fun x xs H Q => r x xs H Q ∨ r' x xs H Q):=by
  intro pins s σ H x xs v us Q I rx rs q
  rcases q with q | q
  · exact h pins s σ H x xs v us Q I rx rs q
  · exact h' pins s σ H x xs v us Q I rx rs q
theorem pe_ix {r:R2} (hr:IxR X r) (ha:PE X a ta) (hb:PE X b tb) (hs:PlainIx b):PE X (.Subscript a b pos) (tOp r ta tb):=by
  intro pins s σ H Q I h
  exact Subscript_ (binT ha hb I h fun v u s2 x y H2 I2 rx ry q => hr a b pins s2 σ H2 x y v u Q I2 rx ry q (hs _ _))
def rIxL (K:PySem.W.Frag):R2:=fun x y H Q => ∃ p xs i v,x = .ref p ∧ y = .int i ∧ SqL K H p xs ∧ atI xs i = some v ∧ Q v H
def rIxT (K:PySem.W.Frag):R2:=fun x y H Q => ∃ p xs i v,x = .ref p ∧ y = .int i ∧ SqT K H p xs ∧ atI xs i = some v ∧ Q v H
def rIxS:R2:=fun x y H Q => ∃ z i c,x = .str z ∧ y = .int i ∧ z.length ≤ sizeLine ∧ atI z.cps.toList i = some c ∧ Q (.str ⟨#[c]⟩) H
theorem ix_list:IxR X (rIxL X.K):=by
  intro value slice pins s σ H x y v u Q I rx ry h hs
  obtain ⟨p,xs,i,z,rfl,rfl,hq,he,q⟩:=h
  cases rx
  obtain ⟨t,rfl⟩:=ry
  obtain ⟨its,r,pl,hz⟩:=I.list hq
  obtain ⟨j,h1,h2,h3,h4,h5⟩:=atI_get he
  obtain ⟨w,ew,rw'⟩:=r.get h2
  have hl:=r.length
  have hn:=line63
  have fin:EP X pins σ Q w s:=⟨z,H,I,rw',q⟩
  by_cases h0:0 ≤ i
  · have hj:i.toNat = j:=by
      rw [seqIndex_of h0 h5] at h1
      exact Option.some.inj h1
    exact item_listR pl.isList h0 (by omega) (by rw [hj]; simpa using ew) fin hs
  · have hj:(i + (its.toArray.size:Int)).toNat = j:=by
      rw [seqIndex_neg (by omega) h4] at h1
      rw [List.size_toArray,← hl]
      exact Option.some.inj h1
    exact subscriptTail_builtinR (x:=w) pl.isList.typeIs slot_list_getitem.lookup
      (wpAny_getItem_list_neg (Q:=fun r s' => r = w ∧ EP X pins σ Q r s') pl.isList (by omega) (by rw [List.size_toArray] <;> omega) (by omega) (by rw [hj]; simpa using ew) ⟨rfl,fin⟩) hs
theorem ix_tup:IxR X (rIxT X.K):=by
  intro value slice pins s σ H x y v u Q I rx ry h hs
  obtain ⟨p,xs,i,z,rfl,rfl,hq,he,q⟩:=h
  cases rx
  obtain ⟨t,rfl⟩:=ry
  obtain ⟨its,r,pl,hz⟩:=I.tuple hq
  obtain ⟨j,h1,h2,h3,h4,h5⟩:=atI_get he
  obtain ⟨w,ew,rw'⟩:=r.get h2
  have hl:=r.length
  have hn:=line63
  have fin:EP X pins σ Q w s:=⟨z,H,I,rw',q⟩
  exact subscriptTail_builtinR (x:=w) pl.typeIs slot_tuple_getitem.lookup
    (getItem_tuple (j:=j) (Q:=fun r s' => r = w ∧ EP X pins σ Q r s') pl (by omega) (by omega) (by rw [List.size_toArray,← hl]; exact h1) (by simpa using ew) ⟨rfl,fin⟩) hs
theorem ix_str:IxR X rIxS:=by
  intro value slice pins s σ H x y v u Q I rx ry h hs
  obtain ⟨z,i,c,rfl,rfl,hz,he,q⟩:=h
  obtain ⟨t,rfl⟩:=rx
  obtain ⟨t',rfl⟩:=ry
  obtain ⟨j,h1,h2,h3,h4,h5⟩:=atI_get he
  have hl:z.cps.toList.length = z.length:=by simp [Str.length]
  rw [hl] at h1 h4 h5
  have hn:=line63
  exact tail_any (typeIs_str s z t) slot_str_getitem.lookup (getItem_str (c:=c) (by
    have e1:decide (i < -(2 ^ 63:Int)) = false:=decide_eq_false (by omega)
    have e2:decide (i ≥ 2 ^ 63) = false:=decide_eq_false (by omega)
    rw [e1,e2,Bool.or_false]) (by rw [h1]; simpa using h2) ⟨.str ⟨#[c]⟩,H,I.tok _,⟨_,rfl⟩,q⟩) hs
def rIx (K:PySem.W.Frag):R2:=fun x y H Q => rIxL K x y H Q ∨ rIxT K x y H Q ∨ rIxS x y H Q
theorem ix_seq:IxR X (rIx X.K):=ix_list.or (ix_tup.or ix_str)
theorem mapSeq_set (its:List Value) (n j:Nat) (u:Value):Obj.mapSeq (·.setIfInBounds j u) { cls:=.type "list",data:=.seq its.toArray n } = { cls:=.type "list",data:=.seq (its.set j u).toArray n }:=by
  simp [Obj.mapSeq]
theorem Inv.lst {pins:List (Addr × Obj)} {σ:St} {H:Hp} {s:Shared} {p:Addr} {xs:List V} (I:Inv X pins σ H s) (h:H p = some (.lst xs)) :
    ∃ (its:List Value) (n:Nat),Vals xs its ∧ s.heap.get? p = some { cls:=.type "list",data:=.seq its.toArray n } ∧ xs.length ≤ sizeLine:=by
  obtain ⟨z,its,n,r,e⟩:=I.hok p _ h
  exact ⟨its,n,r,e,z⟩
theorem Inv.lstUpd {pins:List (Addr × Obj)} {σ:St} {H:Hp} {s:Shared} {p:Addr} {xs ys:List V} {its its':List Value} {n n':Nat} {f:Obj → Obj} (I:Inv X pins σ H s) (h:H p = some (.lst xs))
    (ho:s.heap.get? p = some { cls:=.type "list",data:=.seq its.toArray n }) (hf:f { cls:=.type "list",data:=.seq its.toArray n } = { cls:=.type "list",data:=.seq its'.toArray n' }) (r:Vals ys its') (hz:ys.length ≤ sizeLine) (t:Nat) :
    Inv X pins σ (upd H p (.lst ys)) { s with heap:=s.heap.update p f,toks:=t }:=by
  have e:(s.heap.update p f).get? p = some { cls:=.type "list",data:=.seq its'.toArray n' }:=by
    rw [Heap.get?_update_self f ho (by rw [hf] <;> rfl),hf]
  refine I.write (x:=p) (e:=p) (by rw [h]; trivial) (.inl rfl) (fun b u hb q => (Heap.get?_update_other _ _ (Ne.symm hb)).trans q) ⟨_,e⟩ ?_
  exact ⟨hz,its',n',r,e⟩
def rSetL:V → V → V → Hp → (Hp → Prop) → Prop:=fun o i v H Q => ∃ p xs k j,o = .ref p ∧ i = .int k ∧ H p = some (.lst xs) ∧ ixN xs.length k = some j ∧ Q (upd H p (.lst (xs.set j v)))
theorem set_list:PSet X rSetL:=by
  intro pins s σ H o i v ov iv u Q I ro ri rv h
  obtain ⟨p,xs,k,j,rfl,rfl,hp,hj,q⟩:=h
  cases ro
  obtain ⟨t,rfl⟩:=ri
  obtain ⟨its,n,r,ho,hz⟩:=I.lst hp
  obtain ⟨h1,h2,h3,h4⟩:=ixN_seq hj
  have hl:=r.length
  have hn:=line63
  have I':Inv X pins σ (upd H p (.lst (xs.set j v))) { s with heap:=s.heap.update p (Obj.mapSeq (·.setIfInBounds j u)) } :=
    I.lstUpd hp ho (mapSeq_set its n j u) (r.set rv j) (by rw [List.length_set]; exact hz) s.toks
  by_cases h0:0 ≤ k
  · have hk:k.toNat = j:=by
      rw [seqIndex_of h0 h4] at h1
      exact Option.some.inj h1
    exact PySem.W.ki_setAt ho h0 (by omega) (by rw [List.size_toArray,← hl]; exact h4) (by rw [hk]; exact ⟨_,I',q⟩)
  · have hk:(k + (its.toArray.size:Int)).toNat = j:=by
      rw [seqIndex_neg (by omega) h3] at h1
      rw [List.size_toArray,← hl]
      exact Option.some.inj h1
    exact PySem.W.ki_setBack ho (by omega) (by rw [List.size_toArray,← hl]; exact h3) (by omega) (by rw [hk]; exact ⟨_,I',q⟩)
theorem slice_bounds (lo hi:Option Int) (n:Nat):(sliceBounds lo hi none n).1 = ((HT.sIx n 0 lo:Nat):Int) ∧ (sliceBounds lo hi none n).2.1 = ((HT.sIx n n hi:Nat):Int) ∧ (sliceBounds lo hi none n).2.2 = 1:=by
  refine ⟨?_,?_,rfl⟩
  · cases lo with
    | none => simp [sliceBounds,HT.sIx]
    | some i =>
      simp only [sliceBounds,HT.sIx,Option.getD_none,show (1:Int) > 0 by decide,if_true]
      by_cases h:i < 0
      · simp only [h,if_true] <;> omega
      · simp only [h,if_false] <;> omega
  · cases hi with
    | none => simp [sliceBounds,HT.sIx]
    | some i =>
      simp only [sliceBounds,HT.sIx,Option.getD_none,show (1:Int) > 0 by decide,if_true]
      by_cases h:i < 0
      · simp only [h,if_true] <;> omega
      · simp only [h,if_false] <;> omega
theorem slicePick_cut (its:List Value) (lo hi:Option Int):slicePick its.toArray lo hi none = ((its.drop (HT.sIx its.length 0 lo)).take (HT.sIx its.length its.length hi - HT.sIx its.length 0 lo)).toArray:=by
  obtain ⟨h1,h2,h3⟩:=slice_bounds lo hi its.toArray.size
  unfold slicePick
  rw [h1,h2,h3]
  simp only [sliceRange_one,pick_run,List.size_toArray] <;> rfl
def rSlL (K:PySem.W.Frag):V → Option Int → Option Int → Hp → VK → Prop:=fun x lo hi H Q => ∃ a xs,x = .ref a ∧ SqL K H a xs ∧ ∀ p,H p = none → Q (.ref p) (upd H p (.lst (cutV xs lo hi)))
theorem sl_list:SlR X (rSlL X.K):=by
  intro pins s σ H x v vl vu lo hi sl Q I rx hs pl pu h
  obtain ⟨a,xs,rfl,hx,q⟩:=h
  cases rx
  obtain ⟨its,r,ht,hz⟩:=I.list hx
  have hlen:=r.length
  refine ⟨"list",_,slot_list_getitem.lookup,ht.isList.typeIs,?_⟩
  refine wpAny_getItem_list_slice ht.isList hs pl pu .none (by simp) ?_ (by rw [List.size_toArray] <;> omega)
  rw [slicePick_cut,← hlen]
  refine ⟨.ref s.heap.objs.size,_,I.laid (t':=s.toks) (o:=.lst (cutV xs lo hi)) (fun b ob q => Heap.get?_push_of_some _ q) (Nat.le_refl _) ?_,rfl,q _ (I.hok.fresh (Nat.le_refl _))⟩
  exact ⟨Nat.le_trans (cutV_length xs lo hi) hz,_,0,(r.drop (HT.sIx xs.length 0 lo)).take (HT.sIx xs.length xs.length hi - HT.sIx xs.length 0 lo),Heap.get?_push_size _ rfl⟩
def flatV:V → Bool
  | .non => true
  | .bl _ => true
  | .int _ => true
  | .str _ => true
  | _ => false
def eqV:V → V → Bool
  | .non,.non => true
  | .bl a,.bl b => a == b
  | .bl a,.int b => (if a then 1 else 0) == b
  | .int a,.bl b => a == (if b then 1 else 0)
  | .int a,.int b => a == b
  | .str a,.str b => a == b
  | _,_ => false
theorem eqAt_V {A:Around} {s:Shared} {y x:V} {u v:Value} (ry:RelV y u) (rx:RelV x v) (fy:flatV y = true) (fx:flatV x = true):SeqAt.EqAt A s u v (eqV y x):=by
  cases y with
  | non =>
    cases ry
    cases x with
    | non => cases rx; exact SeqAt.EqAt.same _
    | bl b => cases rx; exact SeqAt.EqAt.none_bool b
    | int b => obtain ⟨t,rfl⟩:=rx; exact SeqAt.EqAt.none_int b t
    | str b => obtain ⟨t,rfl⟩:=rx; exact SeqAt.EqAt.none_str b t
    | _ => exact absurd (show false = true from fx) Bool.false_ne_true
  | bl a =>
    cases ry
    cases x with
    | non => cases rx; exact SeqAt.EqAt.bool_none a
    | bl b => cases rx; exact SeqAt.EqAt.bool_bool a b
    | int b => obtain ⟨t,rfl⟩:=rx; exact SeqAt.EqAt.bool_int a b t
    | str b => obtain ⟨t,rfl⟩:=rx; exact SeqAt.EqAt.bool_str a b t
    | _ => exact absurd (show false = true from fx) Bool.false_ne_true
  | int a =>
    obtain ⟨t',rfl⟩:=ry
    cases x with
    | non => cases rx; exact SeqAt.EqAt.int_none a t'
    | bl b => cases rx; exact SeqAt.EqAt.int_bool a t' b
    | int b => obtain ⟨t,rfl⟩:=rx; exact SeqAt.EqAt.int_int a t' b t
    | str b => obtain ⟨t,rfl⟩:=rx; exact SeqAt.EqAt.int_str a t' b t
    | _ => exact absurd (show false = true from fx) Bool.false_ne_true
  | str a =>
    obtain ⟨t',rfl⟩:=ry
    cases x with
    | non => cases rx; exact SeqAt.EqAt.str_none a t'
    | bl b => cases rx; exact SeqAt.EqAt.str_bool a t' b
    | int b => obtain ⟨t,rfl⟩:=rx; exact SeqAt.EqAt.str_int a t' b t
    | str b => obtain ⟨t,rfl⟩:=rx; exact SeqAt.EqAt.str_str a t' b t
    | _ => exact absurd (show false = true from fx) Bool.false_ne_true
  | _ => exact absurd (show false = true from fy) Bool.false_ne_true
def eqU (x:V) (u:Value):Bool:=match u with
  | .none => eqV .non x
  | .bool b => eqV (.bl b) x
  | .int i _ => eqV (.int i) x
  | .str z _ => eqV (.str z) x
  | _ => false
theorem eqU_of {x y:V} {u:Value} (r:RelV y u) (f:flatV y = true):eqU x u = eqV y x:=by
  cases y with
  | non => cases r; rfl
  | bl b => cases r; rfl
  | int i => obtain ⟨t,rfl⟩:=r; rfl
  | str z => obtain ⟨t,rfl⟩:=r; rfl
  | _ => exact absurd (show false = true from f) Bool.false_ne_true
theorem any_eqU {x:V}:∀ {xs:List V} {us:List Value},Vals xs us → xs.all flatV = true → us.any (eqU x) = xs.any fun y => eqV y x
  | _,_,.nil,_ => rfl
  | y :: xs,u :: us,.cons r t,f => by
    rw [List.all_cons,Bool.and_eq_true] at f
    rw [List.any_cons,List.any_cons,eqU_of r f.1,any_eqU t f.2]
theorem mem_eqAt {A:Around} {s:Shared} {x:V} {v:Value} (rx:RelV x v) (fx:flatV x = true):∀ {xs:List V} {us:List Value},Vals xs us → xs.all flatV = true → ∀ u ∈ us,SeqAt.EqAt A s u v (eqU x u)
  | _,_,.nil,_ => fun u hu => by cases hu
  | y :: xs,u :: us,.cons r t,f => fun u' hu => by
    rw [List.all_cons,Bool.and_eq_true] at f
    rcases List.mem_cons.mp hu with rfl | hu
    · rw [eqU_of r f.1]; exact eqAt_V r rx f.1 fx
    · exact mem_eqAt rx fx t f.2 u' hu
def inV (x:V) (xs:List V):Bool:=xs.any fun y => eqV y x
def rIn (K:PySem.W.Frag) (neg:Bool):R2:=fun x y H Q => ∃ p xs,y = .ref p ∧ (SqL K H p xs ∨ SqT K H p xs) ∧ flatV x = true ∧ xs.all flatV = true ∧ Q (.bl (if neg then !inV x xs else inV x xs)) H
theorem op_notIn_seq:OpR X (compareOp .NotIn) (rIn X.K true):=by
  intro pins s σ H x y v u Q I rx ry h
  obtain ⟨p,xs,rfl,hq,fx,fs,q⟩:=h
  cases ry
  rcases hq with hq | hq
  · obtain ⟨its,r,pl,hz⟩:=I.list hq
    refine SeqAt.notIn_listAt (eqU x) pl.isList (fun w hw => mem_eqAt rx fx r fs w (by simpa using hw)) ⟨.bl _,H,I,rfl,?_⟩
    rw [show its.toArray.any (eqU x) = its.any (eqU x) by simp,any_eqU r fs]
    exact q
  · obtain ⟨its,r,pl,hz⟩:=I.tuple hq
    refine SeqAt.notIn_tupleAt (eqU x) pl (fun w hw => mem_eqAt rx fx r fs w (by simpa using hw)) ⟨.bl _,H,I,rfl,?_⟩
    rw [show its.toArray.any (eqU x) = its.any (eqU x) by simp,any_eqU r fs]
    exact q
theorem call_len_seq:CallR X (.builtin "len") (fun xs H Q => ∃ p ys,xs = [.ref p] ∧ (SqL X.K H p ys ∨ SqT X.K H p ys) ∧ Q (.int ys.length) H):=by
  intro pins s σ H xs us Q I r h
  obtain ⟨p,ys,rfl,hq,q⟩:=h
  obtain ⟨u,rfl,rx⟩:=vals1 r
  cases rx
  have hn:=line63
  rcases hq with hq | hq
  · obtain ⟨its,r',pl,hz⟩:=I.list hq
    have hlen:=r'.length
    exact Calls.call_len_list pl.isList (by simp only [List.size_toArray] <;> omega) ⟨.int ys.length,H,I.tok _,⟨s.toks + 1,by rw [List.size_toArray,hlen]⟩,q⟩
  · obtain ⟨its,r',pl,hz⟩:=I.tuple hq
    have hlen:=r'.length
    exact len_tuple pl (by simp only [List.size_toArray] <;> omega) ⟨.int ys.length,H,I.tok _,⟨s.toks + 1,by rw [List.size_toArray,hlen]⟩,q⟩
theorem CallR.or {f:Value} {r r':List V → Hp → VK → Prop} (h:CallR X f r) (h':CallR X f r'):CallR X f (fun xs H Q => r xs H Q ∨ r' xs H Q):=by
  intro pins s σ H xs us Q I rs q
  rcases q with q | q
  · exact h pins s σ H xs us Q I rs q
  · exact h' pins s σ H xs us Q I rs q
theorem call_list_of:CallR X (.type "list") (fun xs H Q => ∃ p ys,xs = [.ref p] ∧ (SqL X.K H p ys ∨ SqT X.K H p ys) ∧ ∀ l,H l = none → Q (.ref l) (upd H l (.lst ys))):=by
  intro pins s σ H xs us Q I r h
  obtain ⟨p,ys,rfl,hq,q⟩:=h
  obtain ⟨u,rfl,rx⟩:=vals1 r
  cases rx
  have fin:∀ (its:List Value),Vals ys its → ys.length ≤ sizeLine → ∀ (h':Heap) (c':Nat),(∀ b o',s.heap.get? b = some o' → h'.get? b = some o') →
      h'.get? s.heap.objs.size = some { cls:=.type "list",dict:=none,data:=.seq its.toArray c',slots:=#[] } → EP X pins σ Q (.ref s.heap.objs.size) { s with heap:=h' }:=fun its r' hz h' c' kp e =>
    ⟨.ref s.heap.objs.size,_,I.laid (t':=s.toks) kp (Nat.le_refl _) (show ObjOk X.prog X.w _ h' _ (.lst ys) from ⟨hz,its,c',r',e⟩),rfl,q _ (I.hok.fresh (Nat.le_refl _))⟩
  rcases hq with hq | hq
  · obtain ⟨its,r',pl,hz⟩:=I.list hq
    have hlen:=r'.length
    obtain ⟨o,ho,hc,n,hd⟩:=pl.isList
    exact call_list_seq p (.inl rfl) ho hc hd (fun h' c' kp e => fin its r' hz h' c' kp e) (by simp only [List.size_toArray] <;> omega)
  · obtain ⟨its,r',pl,hz⟩:=I.tuple hq
    have hlen:=r'.length
    obtain ⟨o,ho,hc,n,hd⟩:=pl
    exact call_list_seq p (.inr rfl) ho hc hd (fun h' c' kp e => fin its r' hz h' c' kp e) (by simp only [List.size_toArray] <;> omega)
def tyV (K:PySem.W.Frag) (T:String) (x:V) (H:Hp):Prop:=match x with
  | .str _ => T = "str"
  | .int _ => T = "int"
  | .ref p => (T = "list" ∧ ∃ xs,SqL K H p xs) ∨ (T = "tuple" ∧ ∃ o,K.lookup p = some o ∧ o.cls = .type "tuple" ∧ o.dict = none) ∨
      (T = "dict" ∧ ((∃ kvs,H p = some (.dK kvs)) ∨ ∃ kvs,H p = some (.dT kvs))) ∨ (T = "set" ∧ ∃ S n,H p = some (.set S n))
  | _ => False
theorem tyV_is {pins:List (Addr × Obj)} {σ:St} {H:Hp} {s:Shared} {T:String} {x:V} {v:Value} (I:Inv X pins σ H s) (r:RelV x v) (ty:tyV X.K T x H) :
    s.TypeIs v T ∧ ∀ a,v = .ref a → ∃ ob,s.heap.get? a = some ob ∧ ob.dict = none:=by
  cases x with
  | str z =>
    obtain ⟨t,rfl⟩:=r
    cases (show T = "str" from ty)
    exact ⟨typeIs_str s z t,fun _ e => nomatch e⟩
  | int i =>
    obtain ⟨t,rfl⟩:=r
    cases (show T = "int" from ty)
    exact ⟨typeIs_int s i t,fun _ e => nomatch e⟩
  | ref p =>
    cases r
    rcases ty with ⟨rfl,xs,hq⟩ | ⟨rfl,o,hk,hc,hd⟩ | ⟨rfl,hk⟩ | ⟨rfl,S,n,hk⟩
    · obtain ⟨its,_,pl,_⟩:=I.list hq
      refine ⟨pl.isList.typeIs,fun a e => ?_⟩
      cases e
      obtain ⟨o,n,e,c,hd,_⟩:=pl
      exact ⟨o,e,hd⟩
    · refine ⟨⟨o,I.kIn p o hk,hc⟩,fun a e => ?_⟩
      cases e
      exact ⟨o,I.kIn _ o hk,hd⟩
    · have z:∃ o,s.heap.get? p = some o ∧ o.ExactDict:=by
        rcases hk with ⟨kvs,hk⟩ | ⟨kvs,hk⟩
        · obtain ⟨_,_,_,_,o,_,_,e,ex,_⟩:=I.hok p _ hk
          exact ⟨o,e,ex⟩
        · obtain ⟨_,_,_,_,o,_,_,e,ex,_⟩:=I.hok p _ hk
          exact ⟨o,e,ex⟩
      obtain ⟨o,e,ex⟩:=z
      refine ⟨⟨o,e,ex.1⟩,fun a e2 => ?_⟩
      cases e2
      exact ⟨o,e,ex.2.1⟩
    · obtain ⟨o,_,_,_,e,ex,_⟩:=I.hok p _ hk
      refine ⟨⟨o,e,ex.1⟩,fun a e2 => ?_⟩
      cases e2
      exact ⟨o,e,ex.2.1⟩
  | _ => exact False.elim ty
variable {o e:Expr} {es:List Expr} {to:TE} {t:TA} {name:Str} {apos cpos:Pos} {T id:String} {r:V → List V → Hp → VK → Prop}
end
end L2
namespace L2
open PySem PySem.Spec PyProof.Rows
def MtM (X:Cx) (id:String) (r:V → List V → Hp → VK → Prop):Prop :=
  ∀ (pins:List (Addr × Obj)) (s:Shared) (σ:St) (H:Hp) (x:V) (xs:List V) (v:Value) (us:List Value) (Q:VK),Inv X pins σ H s → RelV x v → Vals xs us → r x xs H Q →
    wpAny (model X.prog X.w) X.A (call (.builtin id) (v :: us)) (EP X pins σ Q) X.xe s
theorem Vals.one:∀ {x:V} {us:List Value},Vals [x] us → ∃ u,us = [u] ∧ RelV x u
  | _,_,.cons r .nil => ⟨_,rfl,r⟩
theorem Vals.two:∀ {x y:V} {us:List Value},Vals [x,y] us → ∃ u v,us = [u,v] ∧ RelV x u ∧ RelV y v
  | _,_,_,.cons r (.cons q .nil) => ⟨_,_,rfl,r,q⟩
theorem Vals.zero:∀ {us:List Value},Vals [] us → us = []
  | _,.nil => rfl
theorem Vals.reverse {xs:List V} {us:List Value} (h:Vals xs us):Vals xs.reverse us.reverse:=by
  induction h with
  | nil => exact .nil
  | cons r t ih => rw [List.reverse_cons,List.reverse_cons]; exact Vals.append ih (.cons r .nil)
theorem Vals.rep {xs:List V} {us:List Value} (h:Vals xs us):∀ k:Nat,Vals (List.replicate k xs).flatten (List.replicate k us).flatten
  | 0 => .nil
  | k + 1 => by
    rw [List.replicate_succ,List.replicate_succ,List.flatten_cons,List.flatten_cons]
    exact Vals.append h (Vals.rep h k)
theorem foldl_rep (its:List Value):∀ (k:Nat) (acc:List Value),
    List.foldl (fun x1 x2 => x1 ++ x2) acc.toArray (List.replicate k its.toArray) = (acc ++ (List.replicate k its).flatten).toArray
  | 0,acc => by simp
  | k + 1,acc => by
    have e:acc.toArray ++ its.toArray = (acc ++ its).toArray:=by simp
    have e2:(acc ++ its) ++ (List.replicate k its).flatten = acc ++ (List.replicate (k + 1) its).flatten:=by
      rw [List.replicate_succ,List.flatten_cons,List.append_assoc]
    rw [← e2,← foldl_rep its k (acc ++ its),← e,List.replicate_succ,List.foldl_cons]
section
variable {X:Cx} {pins:List (Addr × Obj)} {σ:St} {H:Hp} {s:Shared} {l b:Addr} {xs ys zs:List V}
theorem Inv.lset {its its':List Value} {n:Nat} {f:Array Value → Array Value} {t':Nat} (I:Inv X pins σ H s) (hH:H l = some (.lst xs))
    (e:s.heap.get? l = some { cls:=.type "list",data:=.seq its.toArray n }) (hf:f its.toArray = its'.toArray) (hv:Vals ys its') (hz:ys.length ≤ sizeLine) :
    Inv X pins σ (upd H l (.lst ys)) { s with heap:=s.heap.update l (Obj.mapSeq f),toks:=t' }:=by
  have q:=PySem.IsL.update e f
  rw [hf] at q
  refine I.write (x:=l) (e:=l) (by rw [hH]; exact trivial) (.inl rfl) (fun b' u hb hu => (Heap.get?_update_other s.heap (Obj.mapSeq f) (Ne.symm hb)).trans hu) ⟨_,q⟩ ?_
  exact ⟨hz,its',_,hv,q⟩
theorem Inv.lnew {its:List Value} {t':Nat} (I:Inv X pins σ H s) (hv:Vals ys its) (hz:ys.length ≤ sizeLine) :
    Inv X pins σ (upd H s.heap.objs.size (.lst ys)) { s with heap:=s.heap.push { cls:=.type "list",data:=.seq its.toArray },toks:=t' } :=
  I.laid (fun _ _ q => Heap.get?_push_of_some _ q) (Nat.le_refl _) ⟨hz,its,0,hv,Heap.get?_push_size _ rfl⟩
theorem Inv.fresh (I:Inv X pins σ H s):H s.heap.objs.size = none:=I.hok.fresh (Nat.le_refl _)
theorem Inv.lstM (I:Inv X pins σ H s) (hH:H l = some (.lst xs)):xs.length ≤ sizeLine ∧ ∃ (its:List Value) (n:Nat),Vals xs its ∧ xs.length = its.length ∧ s.heap.get? l = some { cls:=.type "list",data:=.seq its.toArray n }:=by
  obtain ⟨z,its,n,r,e⟩:=I.hok l _ hH
  exact ⟨z,its,n,r,r.length,e⟩
theorem notLongL {n:Nat} (h:n ≤ sizeLine):Builtin.List.listTooLong n = false:=by
  unfold Builtin.List.listTooLong
  exact decide_eq_false (by omega)
end
section
variable {X:Cx}
def rAppend:V → List V → Hp → VK → Prop:=fun x vs H Q => ∃ l xs y,x = .ref l ∧ vs = [y] ∧ H l = some (.lst xs) ∧ xs.length < sizeLine ∧ Q .non (upd H l (.lst (xs ++ [y])))
theorem mt_append:MtM X "list.append" rAppend:=by
  intro pins s σ H x vs v us Q I rx rv h
  obtain ⟨l,xs,y,rfl,rfl,hH,hz,q⟩:=h
  cases rx
  obtain ⟨u,rfl,ru⟩:=rv.one
  obtain ⟨z,its,n,r,hl,e⟩:=I.lstM hH
  refine call_meets F.slot_list_append ⟨_,e,rfl⟩ F.entry_list_append (F.args_list_append_2 _ _) (PySem.list_append l its.toArray n u (by rw [List.size_toArray]; omega)) ⟨e,?_⟩
  refine ⟨.non,_,I.lset (its':=its ++ [u]) hH e (by simp) (r.append (.cons ru .nil)) ?_,rfl,q⟩
  rw [List.length_append,List.length_singleton]
  omega
def rExtend:V → List V → Hp → VK → Prop:=fun x vs H Q => ∃ l b xs zs,x = .ref l ∧ vs = [.ref b] ∧ H l = some (.lst xs) ∧ H b = some (.lst zs) ∧ xs.length + zs.length ≤ sizeLine ∧ Q .non (upd H l (.lst (xs ++ zs)))
theorem mt_extend:MtM X "list.extend" rExtend:=by
  intro pins s σ H x vs v us Q I rx rv h
  obtain ⟨l,b,xs,zs,rfl,rfl,hH,hB,hz,q⟩:=h
  cases rx
  obtain ⟨u,rfl,ru⟩:=rv.one
  cases ru
  obtain ⟨z,its,n,r,hl,e⟩:=I.lstM hH
  obtain ⟨z2,its2,n2,r2,hl2,e2⟩:=I.lstM hB
  have hsz:its.toArray.size + its2.toArray.size ≤ sizeLine:=by rw [List.size_toArray,List.size_toArray]; omega
  have hlong:¬ (!its.toArray.isEmpty && Builtin.List.listTooLong (its.toArray.size + its2.toArray.size)) = true:=by
    rw [notLongL hsz,Bool.and_false]
    exact Bool.false_ne_true
  refine call_meets F.slot_list_extend ⟨_,e,rfl⟩ F.entry_list_extend (F.args_list_extend_2 _ _)
    (AutoSeq1.list_extend_list_list_0 l its.toArray n b its2.toArray n2 hlong (by rw [List.size_toArray]; omega) (by omega)) ⟨e,e2,?_⟩
  refine ⟨.non,_,I.lset (its':=its ++ its2) hH e (by simp) (r.append r2) ?_,rfl,q⟩
  rw [List.length_append]
  omega
def rCat:R2:=fun x y H Q => ∃ l b xs zs,x = .ref l ∧ y = .ref b ∧ H l = some (.lst xs) ∧ H b = some (.lst zs) ∧ xs.length + zs.length ≤ sizeLine ∧ ∀ p,H p = none → Q (.ref p) (upd H p (.lst (xs ++ zs)))
theorem op_cat:OpR X (binaryOp .Add) rCat:=by
  intro pins s σ H x y v u Q I rx ry h
  obtain ⟨l,b,xs,zs,rfl,rfl,hH,hB,hz,q⟩:=h
  cases rx
  cases ry
  obtain ⟨z,its,n,r,hl,e⟩:=I.lstM hH
  obtain ⟨z2,its2,n2,r2,hl2,e2⟩:=I.lstM hB
  refine PySem.P.add_list e e2 ?_ (by rw [List.size_toArray,List.size_toArray]; omega)
  have ea:its.toArray ++ its2.toArray = (its ++ its2).toArray:=by simp
  rw [ea]
  exact ⟨.ref _,_,I.lnew (t':=s.toks) (r.append r2) (by rw [List.length_append]; omega),rfl,q _ I.fresh⟩
def rRep:R2:=fun x y H Q => ∃ l k xs,x = .ref l ∧ y = .int k ∧ H l = some (.lst xs) ∧ -(2 ^ 63) ≤ k ∧ k < 2 ^ 63 ∧ xs.length * k.toNat ≤ sizeLine ∧
  ∀ p,H p = none → Q (.ref p) (upd H p (.lst (List.replicate k.toNat xs).flatten))
theorem len_rep {α:Type} (xs:List α) (k:Nat):(List.replicate k xs).flatten.length = k * xs.length:=by
  induction k with
  | zero => simp
  | succ k ih => rw [List.replicate_succ,List.flatten_cons,List.length_append,ih,Nat.succ_mul,Nat.add_comm]
theorem op_rep:OpR X (binaryOp .Mult) rRep:=by
  intro pins s σ H x y v u Q I rx ry h
  obtain ⟨l,k,xs,rfl,rfl,hH,h1,h2,hz,q⟩:=h
  cases rx
  obtain ⟨t,rfl⟩:=ry
  obtain ⟨z,its,n,r,hl,e⟩:=I.lstM hH
  have hlen:its.toArray.size * k.toNat ≤ sizeLine:=by rw [List.size_toArray,← hl]; exact hz
  have hcap:¬ its.toArray.size * k.toNat > (2 ^ 63 - 1) / 8:=by
    have:(sizeLine:Nat) ≤ (2 ^ 63 - 1) / 8:=by decide
    omega
  have hfit:¬ (!Builtin.List.listFitsIndex k) = true:=by
    rw [fitsIndex_both h1 h2]
    exact Bool.false_ne_true
  have hlong:¬ Builtin.List.listTooLong (its.toArray.size * k.toNat) = true:=by
    rw [notLongL hlen]
    exact Bool.false_ne_true
  have hnew:List.foldl (fun x1 x2 => x1 ++ x2) #[] (List.replicate (if its.toArray.isEmpty = true then 0 else k.toNat) its.toArray) = (List.replicate k.toNat its).flatten.toArray:=by
    have f0:∀ m:Nat,List.foldl (fun x1 x2 => x1 ++ x2) #[] (List.replicate m its.toArray) = (List.replicate m its).flatten.toArray:=fun m => by
      have:=foldl_rep its m []
      rw [List.nil_append] at this
      exact this
    rw [f0]
    cases its with
    | nil => simp
    | cons a r' => rw [if_neg (by simp)]
  refine wpAny_binaryOp_repeat_ref (T := "list") (U := "int") (by decide) ⟨_,e,rfl⟩ (fun s' => typeIs_int s' k t) noFill_list_mul F.fills_int_mul F.slot_int_rmul repeat_list F.slot_int_index.lookup
    (call_meets F.slot_int_rmul (typeIs_int s k t) F.entry_int_rmul (F.args_int_rmul_2 _ _) (int___rmul___int_list k t l its.toArray n)
      ⟨e,rfl,⟨_,e,rfl⟩,call_meets F.slot_list_mul ⟨_,e,rfl⟩ F.entry_list_mul (F.args_list_mul_2 _ _) (AutoListH.list___mul___list_int_3 l its.toArray n k t hfit hcap hlong) ⟨e,?_⟩⟩)
  rw [hnew]
  exact ⟨.ref _,_,I.lnew (t':=s.toks) (r.rep k.toNat) (by rw [len_rep,Nat.mul_comm]; exact hz),rfl,q _ I.fresh⟩
end
section
variable {prog:Program} {w:World} {A:Around} {E:Value → Shared → Prop} {s:Shared}
end
section
variable {X:Cx}
end
end L2
namespace Att
open PySem PySem.W PySem.Calls PyProof.Rows
theorem ints_of_wellAll {P:Params} {h:Heap}:∀ (ns:List Int) (vs:List Value),WellAll P h vs (ns.map WData.int) → IntsAre vs ns:=by
  intro ns
  induction ns with
  | nil =>
    intro vs w
    rw [List.map_nil] at w
    cases w
    exact .nil
  | cons n ns ih =>
    intro vs w
    rw [List.map_cons] at w
    cases w with
    | cons a b =>
      cases a
      exact .cons _ _ (ih _ b)
theorem script_of {l:OpenLaw} {n:Nat} (hn:l.most = some n) {P:Params} {h:Heap} {args:List WData} {vals:List Value}
    (hpre:l.row.toRowW.claim.pre args = true) (hwl:WellAll P h vals args) :
    ∃ a vs ns,vals = [Value.ref a] ∧ args = [WData.list (ns.map WData.int)] ∧ h.get? a = some { cls:=.type "list",data:=.seq vs.toArray } ∧ IntsAre vs ns ∧ ns.length ≤ n:=by
  have hsh:WShape.hasAll [] args [.list .int] = true:=(pre_splitW hpre).1
  have hc:l.pre.holds [] { args:=args } = true:=(pre_splitW hpre).2
  obtain ⟨d,r,rfl,h1,h2⟩:=hasAllW_cons hsh
  obtain rfl:=hasAllW_nil h2
  obtain ⟨xs,rfl,h3⟩:=hasW_list h1
  obtain ⟨ns,rfl⟩:=items_int h3
  have hlen:ns.length ≤ n:=by
    unfold OpenLaw.pre at hc
    have h4:(WTm.not (.lt (.lit (.int (n:Int))) (.len (.arg 0)))).holds [] { args:=[.list (ns.map .int)] } = true:=by
      have h4:=(holds_andW hc).1
      rw [hn] at h4
      exact h4
    have h5:=condW_of h4 (w_not (w_lt w_lit (w_len_list (w_arg rfl))))
    rw [List.length_map] at h5
    refine Nat.le_of_not_lt fun q => ?_
    have q':(n:Int) < ((ns.length:Nat):Int):=by omega
    first
      | (rw [decide_eq_true q'] at h5; exact absurd h5 (by decide))
      | (simp at h5; omega)
  cases hwl with
  | cons w1 w2 =>
    cases w2
    cases w1 with
    | list ho hall => exact ⟨_,_,ns,rfl,rfl,ho,ints_of_wellAll ns _ hall,hlen⟩
theorem post_true (l:OpenLaw) (args:List WData):l.row.toRowW.claim.post args (.bool true) args = true :=
  postW_of (r:=l.row.toRowW) (X:=(true == true))
    (show WShape.has [] (.bool true) .bool = true by first | rfl | decide | simp [WShape.has,WShape.arms,WShape.armsAll])
    (show (WTm.eq .res (.lit (.bool true))).value [] { args:=args,res:=some (.bool true),after:=args } = some (.bool (true == true)) from w_eq_bool (w_res rfl) w_lit) rfl
theorem attach_call {l:OpenLaw} {n:Nat} {q:Program} {loose:List Str} {XP:(Str → Option Value) → Heap → Prop} {YP:World → Heap → Prop} {d:DefRec}
    (hn:l.most = some n) (hdf:d.params.defaults = [])
    (call:∀ (w:World) (s₀ s₁:Shared) (mg mb:Str → Option Value) (fa:Addr) (o:Obj) (pm cd doc:Value) (a:Addr) (vs:List Value) (ns:List Int),
      Ground q loose [] XP w s₀ mg mb s₁.heap → YP w s₁.heap →
      s₁.heap.get? fa = some o → o.data = .func (docDef d.name d.params d.body d.scope pm cd doc) → s₁.heap.CodeRec cd d.name → mg d.name = some (.ref fa) →
      s₁.heap.get? a = some { cls:=.type "list",data:=.seq vs.toArray } → IntsAre vs ns → ns.length ≤ n → s₁.gens = #[] →
      codeAny (model l.prog w) callerA (.call (.ref fa) ⟨[.ref a],[]⟩) (fun r s' => r = .ok (.ret (.bool true)) ∧ OldK s₁.heap s'.heap ∧ s'.os = s₁.os ∧ AllBare s'.gens) s₁) :
    WalkO q loose XP YP l.row.toRowW d [] (fun f vs => PySem.call f vs):=by
  intro w s₀ s₁ mg mb G Y fa o pm cd doc dV kV ho hd hcd hD hmg hg args vals as hpre hlay hrd hwl hlo
  obtain rfl:dV = .none:=Dflts.none hD hdf
  obtain rfl:kV = .none:=Dflts.noKw hD
  obtain ⟨a,vs,ns,rfl,rfl,hobj,hints,hlen⟩:=script_of hn hpre hwl
  refine enter_call (codeAny_mono (call w s₀ s₁ mg mb fa o pm cd doc a vs ns G Y ho (fd_plain hd) hcd hmg hobj hints hlen hg) fun r s' hq => ?_)
  obtain ⟨rfl,h2,h3,h4⟩:=hq
  exact ⟨.inl ⟨.bool true,.bool true,[],rfl,fun _ => rfl,.bool true,post_true l _,fun _ => ⟨List.Pairwise.nil,fun _ hm => (nomatch hm)⟩⟩,h2,h3,h4⟩
section
variable {prog:Program} {w:World} {A:Around} {E:Value → Shared → Prop} {s:Shared} {K:Frag}
end
end Att
namespace L2
open PySem PySem.Spec PyProof.Rows
theorem vals_ints:∀ {vs:List Value} {ns:List Int},IntsAre vs ns → Vals (ns.map V.int) vs
  | _,_,.nil => .nil
  | _,_,.cons n t h => .cons ⟨t,rfl⟩ (vals_ints h)
end L2
namespace L2
open PySem PySem.Spec PyProof.Rows
end L2
namespace L2
open PySem PySem.Spec PyProof.Rows
def defArgs (s:Stmt):Arguments:=match s with
  | .FunctionDef _ a _ _ _ _ _ _ _ _ => a
  | _ => { posonlyargs:=[],args:=[],vararg:=none,kwonlyargs:=[],kw_defaults:=[],kwarg:=none,defaults:=[] }
def defBody (s:Stmt):List Stmt:=match s with
  | .FunctionDef _ _ b _ _ _ _ _ _ _ => b
  | _ => []
def defScope (s:Stmt):Scope:=match s with
  | .FunctionDef _ _ _ _ _ _ sc _ _ _ => sc
  | _ => { kind:=.function,names:=[],isGenerator:=false,isCoroutine:=false }
abbrev CX0:CXT:=fun _ _ _ _ _ _ => False
abbrev E0:XK:=fun _ _ _ => False
theorem pass0 {X:Cx}:Passes CX0 X E0:=fun _ _ _ _ _ _ _ h => h.elim
structure Fun (K:PySem.W.Frag) (x qual:Str) (st:Stmt) (f:Addr) (fd:FuncData):Prop where
  ex:∃ (oc:Value) (od:Option Addr) (kV doc pm:Value) (an:Option Addr) (cdv ct:Value) (osl:Array (Option Value)),
    fd = PySem.W.fnOf x qual (defArgs st) (defBody st) (defScope st) .none kV doc pm an cdv ct ∧ K.lookup f = some ⟨oc,od,.func fd,osl⟩ ∧ PySem.W.codeIn K cdv qual = true
  kp:PySem.W.keepIn K (.ref f) = true
section
variable {P:Program} {w:World} {K:PySem.W.Frag} {mg:Str → Option Value} {base:Heap}
theorem Fun.ok {x qual:Str} {st:Stmt} {f:Addr} {fd:FuncData} {N ps:List Str} {k:Nat} {sp:Sp} (F:Fun K x qual st f fd) (S:FnScope N ps (defScope st)) (len:∀ vs H Q E,sp vs H Q E → vs.length = ps.length)
    (hbody:∀ (cdv:Value) (A:Around) (outer:List Env) (s:Shared) (H:Hp) (vs:List V) (Q:VK) (E:XK),Room k (A.deeper (envOfC qual (defScope st) s.heap.objs.size f cdv)) → sp vs H Q E →
      ∃ t,PSs (cxOf CX0 P w K mg base N qual (defScope st) f cdv A outer s H E).nox (defBody st) t ∧ t { nx:=fun _ H' => Q .non H',rt:=Q } (start N vs) H):FnOk P w K mg base CX0 (k + 1) f fd ps sp:=by
  obtain ⟨oc,od,kV,doc,pm,an,cdv,ct,osl,rfl,lk,hcd⟩:=F.ex
  refine fn_of lk hcd S len fun A outer s H vs Q E hr hsp => ?_
  obtain ⟨t,h,q⟩:=hbody cdv A outer s H vs Q E hr hsp
  exact ⟨t,h.nox,q⟩
theorem Fun.binds {x qual:Str} {st:Stmt} {f:Addr} {fd:FuncData} {ps:List Str} (F:Fun K x qual st f fd)
    (h:∀ (kV doc pm:Value) (an:Option Addr) (cdv ct:Value) (us:List Value),us.length = ps.length → bindArgs (PySem.W.fnOf x qual (defArgs st) (defBody st) (defScope st) .none kV doc pm an cdv ct) ⟨us,[]⟩ = pure (ps.zip us)):Binds K fd ps []:=by
  obtain ⟨oc,od,kV,doc,pm,an,cdv,ct,osl,rfl,lk,hcd⟩:=F.ex
  exact .all (h kV doc pm an cdv ct)
theorem fun_mk {x qual:Str} {st:Stmt} {f:Addr} {oc:Value} {od an:Option Addr} {osl:Array (Option Value)} {kV doc pm cdv ct:Value} (l:K.lookup f = some ⟨oc,od,.func (PySem.W.fnOf x qual (defArgs st) (defBody st) (defScope st) .none kV doc pm an cdv ct),osl⟩)
    (c:PySem.W.codeIn K cdv qual = true) (k:PySem.W.keepIn K (.ref f) = true):Fun K x qual st f (PySem.W.fnOf x qual (defArgs st) (defBody st) (defScope st) .none kV doc pm an cdv ct):=⟨⟨oc,od,kV,doc,pm,an,cdv,ct,osl,rfl,l,c⟩,k⟩
end
section
variable {X:Cx}
theorem pv (i:Nat) {x:Str} {pos:Pos} (hN:X.N[i]? = some x:=by rfl) (hv:Vis X.env.scope x:=by first | exact Or.inl rfl | exact Or.inr (Or.inl rfl) | exact Or.inr (Or.inr rfl)) (hd:(x == ("__debug__" : Str)) = false:=by decide)
    (hcd:(x == ("__classdict__" : Str)) = false:=by decide):PE X (.Name x pos) (tVar i):=pe_var hN hv hd hcd
end
theorem iteF {A B:Prop} (h:B):if false = true then A else B:=by
  rw [if_neg Bool.false_ne_true]
  exact h
theorem iteT {A B:Prop} (h:A):if true = true then A else B:=by
  rw [if_pos rfl]
  exact h
theorem ite2 {c A B:Prop} [Decidable c] (h1:c → A) (h2:¬ c → B):if c then A else B:=by
  by_cases h:c
  · rw [if_pos h]
    exact h1 h
  · rw [if_neg h]
    exact h2 h
def Same (H H':Hp):Prop:=∀ b o,H b = some o → H' b = some o
theorem Same.refl (H:Hp):Same H H:=fun _ _ h => h
theorem Same.trans {H H1 H2:Hp} (a:Same H H1) (b:Same H1 H2):Same H H2:=fun c o h => b c o (a c o h)
theorem Same.free {H H':Hp} (e:Same H H') {l:Addr} (h:H' l = Option.none):H l = Option.none:=by
  cases q:H l with
  | none => rfl
  | some o =>
    rw [e l o q] at h
    cases h
theorem Same.seq {K:PySem.W.Frag} {H H':Hp} {a:Addr} {xs:List V} (e:Same H H') (h:SqL K H a xs):SqL K H' a xs:=by
  rcases h with (h | ⟨o,h⟩) | h
  · exact .inl (.inl (e _ _ h))
  · exact .inl (.inr ⟨o,e _ _ h⟩)
  · exact .inr h
end L2
set_option maxHeartbeats 4000000
namespace FlT
open PySem PySem.Spec PyProof.Rows
def sIx (n d:Nat):Option Int → Nat
  | none => d
  | some v => if v < 0 then (v + (n:Int)).toNat else min v.toNat n
theorem foldl_cat:∀ (ys:List Str) (acc:Array Nat),(ys.foldl (fun acc p => acc ++ (#[]:Array Nat) ++ p.cps) acc).toList = acc.toList ++ (ys.map fun y => y.cps.toList).flatten
  | [],acc => by simp
  | y :: r,acc => by
    rw [List.foldl_cons,foldl_cat r]
    simp
theorem join_cps (ys:List Str):(Txt.join ⟨#[]⟩ ys).cps.toList = (ys.map fun y => y.cps.toList).flatten:=by
  cases ys with
  | nil => rfl
  | cons y r =>
    have e:=foldl_cat r y.cps
    rw [List.map_cons,List.flatten_cons,← e]
    rfl
theorem app_cps (x y:Str):(x ++ y).cps.toList = x.cps.toList ++ y.cps.toList:=by
  show (x.cps ++ y.cps).toList = _
  simp
theorem str_ext {x y:Str} (h:x.cps.toList = y.cps.toList):x = y:=by
  obtain ⟨⟨x⟩⟩:=x
  obtain ⟨⟨y⟩⟩:=y
  cases h
  rfl
end FlT
set_option maxHeartbeats 4000000
namespace L2
open PySem PySem.Spec PyProof.Rows
theorem PE.imp {X:Cx} {e:Expr} {t t':TE} (h:PE X e t) (i:∀ σ H Q,t' σ H Q → t σ H Q):PE X e t':=fun pins s σ H Q I q => h pins s σ H Q I (i σ H Q q)
theorem PT.imp {X:Cx} {e:Expr} {t t':TT} (h:PT X e t) (i:∀ σ H Q,t' σ H Q → t σ H Q):PT X e t':=fun pins s σ H Q I q => h pins s σ H Q I (i σ H Q q)
theorem OpR.imp {X:Cx} {f:Value → Value → Sem Value} {r r':R2} (h:OpR X f r) (i:∀ x y H Q,r' x y H Q → r x y H Q):OpR X f r':=fun pins s σ H x y v u Q I rx ry q => h pins s σ H x y v u Q I rx ry (i x y H Q q)
theorem CallR.imp {X:Cx} {f:Value} {r r':List V → Hp → VK → Prop} (h:CallR X f r) (i:∀ xs H Q,r' xs H Q → r xs H Q):CallR X f r':=fun pins s σ H xs us Q I rx q => h pins s σ H xs us Q I rx (i xs H Q q)
theorem MtR.imp {X:Cx} {id:String} {r r':V → List V → Hp → VK → Prop} (h:MtR X id r) (i:∀ x xs H Q,r' x xs H Q → r x xs H Q):MtR X id r':=fun pins s σ H x xs v us Q I rx rs q => h pins s σ H x xs v us Q I rx rs (i x xs H Q q)
theorem IxR.imp {X:Cx} {r r':R2} (h:IxR X r) (i:∀ x y H Q,r' x y H Q → r x y H Q):IxR X r':=fun value slice pins s σ H x y v u Q I rx ry q hs => h value slice pins s σ H x y v u Q I rx ry (i x y H Q q) hs
theorem SlR.imp {X:Cx} {r r':V → Option Int → Option Int → Hp → VK → Prop} (h:SlR X r) (i:∀ x lo hi H Q,r' x lo hi H Q → r x lo hi H Q):SlR X r':=fun pins s σ H x v vl vu lo hi sl Q I rx hs pl pu q => h pins s σ H x v vl vu lo hi sl Q I rx hs pl pu (i x lo hi H Q q)
def Its (z:Str):It:=⟨fun i _ => i < z.cps.size,fun i H x H' => H' = H ∧ ∃ c,z.cps[i]? = some c ∧ x = .str ⟨#[c]⟩,fun i _ => z.cps.size ≤ i⟩
theorem turn_ascii {P:Program} {w:World} {K:PySem.W.Frag} {tg:Expr} (z:Str) (t:Tok) (it:Addr):Turn P w K tg (Its z) [it] it (fun i h => h.IsStrIter it "str_ascii_iterator" z t i) where
  mem:=by simp
  obj:=fun i h st b hb => by
    have e:b = it:=by simpa using hb
    subst e
    obtain ⟨o,e,c,d⟩:=st
    exact ⟨o,e,fun v z => by rw [d] at z; cases z⟩
  keep:=fun i h h' st k => let ⟨o,ho,r⟩:=st; ⟨o,k it (by simp) o ho,r⟩
  item:=by
    intro X hP hw hK hc i pins s σ H E I hf st hg
    subst hP hw hK
    obtain ⟨f0,f1,f2,f3,f4,f5⟩:=hf it (by simp)
    have hi:i < z.cps.size:=hg
    refine wpAny_pyNext_ascii_item st (c:=z.cps[i]) (by simp [hi]) fun h' st' sb => ?_
    have I1:Inv X pins σ H { s with heap:=h',toks:=s.toks + 1 }:=I.turned (fun b o hb e => (sb.2 b hb).trans e) f0 f1 f3 f4 f5
    obtain ⟨o,e,c,d⟩:=id st'
    exact ⟨_,rfl,go_of (s:={ s with heap:=h',toks:=s.toks + 1 }) e c d (by decide) ⟨.str ⟨#[z.cps[i]]⟩,H,I1,⟨_,rfl⟩,⟨rfl,_,by simp [hi],rfl⟩,st',fun b hb => (hf b hb).1⟩⟩
  done:=by
    intro X hP hw hK hc i pins s σ H E I hf st hg
    subst hP hw hK
    obtain ⟨f0,f1,f2,f3,f4,f5⟩:=hf it (by simp)
    have hi:z.cps.size ≤ i:=hg
    exact wpAny_pyNext_ascii_end (I.ok.hd hc) st (by simp [hi]) fun h' eb => ⟨rfl,I.turned (t':=s.toks) (fun b o hb e => eb b o hb e) f0 f1 f3 f4 f5⟩
  self:=fun _ _ _ _ _ st h => wpAny_pyIter_striter_ascii st h
theorem turn_wide {P:Program} {w:World} {K:PySem.W.Frag} {tg:Expr} (z:Str) (t:Tok) (it:Addr):Turn P w K tg (Its z) [it] it (fun i h => h.IsStrIter it "str_iterator" z t i) where
  mem:=by simp
  obj:=fun i h st b hb => by
    have e:b = it:=by simpa using hb
    subst e
    obtain ⟨o,e,c,d⟩:=st
    exact ⟨o,e,fun v z => by rw [d] at z; cases z⟩
  keep:=fun i h h' st k => let ⟨o,ho,r⟩:=st; ⟨o,k it (by simp) o ho,r⟩
  item:=by
    intro X hP hw hK hc i pins s σ H E I hf st hg
    subst hP hw hK
    obtain ⟨f0,f1,f2,f3,f4,f5⟩:=hf it (by simp)
    have hi:i < z.cps.size:=hg
    refine wpAny_pyNext_wide_item st (c:=z.cps[i]) (by simp [hi]) fun h' st' sb => ?_
    have I1:Inv X pins σ H { s with heap:=h',toks:=s.toks + 1 }:=I.turned (fun b o hb e => (sb.2 b hb).trans e) f0 f1 f3 f4 f5
    obtain ⟨o,e,c,d⟩:=id st'
    exact ⟨_,rfl,go_of (s:={ s with heap:=h',toks:=s.toks + 1 }) e c d (by decide) ⟨.str ⟨#[z.cps[i]]⟩,H,I1,⟨_,rfl⟩,⟨rfl,_,by simp [hi],rfl⟩,st',fun b hb => (hf b hb).1⟩⟩
  done:=by
    intro X hP hw hK hc i pins s σ H E I hf st hg
    subst hP hw hK
    obtain ⟨f0,f1,f2,f3,f4,f5⟩:=hf it (by simp)
    have hi:z.cps.size ≤ i:=hg
    exact wpAny_pyNext_wide_end (I.ok.hd hc) st (by simp [hi]) fun h' eb => ⟨rfl,I.turned (t':=s.toks) (fun b o hb e => eb b o hb e) f0 f1 f3 f4 f5⟩
  self:=fun _ _ _ _ _ st h => wpAny_pyIter_striter_wide st h
section
variable {X:Cx} {tg:Expr}
end
section
variable {X:Cx} {a b c:Expr} {ta tb tc:TE} {pos:Pos}
def rSlS:V → Option Int → Option Int → Hp → VK → Prop:=fun x lo hi H Q => ∃ z,x = .str z ∧ z.length ≤ sizeLine ∧ Q (.str (Txt.slice z lo hi)) H
theorem sl_str:SlR X rSlS:=by
  intro pins s σ H x v vl vu lo hi sl Q I rx hs pl pu h
  obtain ⟨z,rfl,hz,q⟩:=h
  obtain ⟨t,rfl⟩:=rx
  refine ⟨"str",_,PySem.F.slot_str_getitem.lookup,typeIs_str _ _ _,?_⟩
  cases pl with
  | none =>
    cases pu with
    | none => exact wpAny_getItem_str_slice (l:=none) (u:=none) (st:=none) hs rfl (post_val_or_str ⟨Nat.le_trans (Txt.slice_le z _ _) hz,fun t' k => ⟨.str (Txt.slice z none none),H,I.tok _,⟨_,rfl⟩,q⟩⟩)
    | int j uj => exact wpAny_getItem_str_slice (l:=none) (u:=some (j,uj)) (st:=none) hs rfl (post_val_or_str ⟨Nat.le_trans (Txt.slice_le z _ _) hz,fun t' k => ⟨.str (Txt.slice z none (some j)),H,I.tok _,⟨_,rfl⟩,q⟩⟩)
  | int i ui =>
    cases pu with
    | none => exact wpAny_getItem_str_slice (l:=some (i,ui)) (u:=none) (st:=none) hs rfl (post_val_or_str ⟨Nat.le_trans (Txt.slice_le z _ _) hz,fun t' k => ⟨.str (Txt.slice z (some i) none),H,I.tok _,⟨_,rfl⟩,q⟩⟩)
    | int j uj => exact wpAny_getItem_str_slice (l:=some (i,ui)) (u:=some (j,uj)) (st:=none) hs rfl (post_val_or_str ⟨Nat.le_trans (Txt.slice_le z _ _) hz,fun t' k => ⟨.str (Txt.slice z (some i) (some j)),H,I.tok _,⟨_,rfl⟩,q⟩⟩)
theorem strsAre_of {ys:List Str}:∀ {us:List Value},Vals (ys.map V.str) us → StrsAre us ys:=by
  induction ys with
  | nil => intro us r; rw [List.map_nil] at r; cases r; exact .nil
  | cons n ns ih =>
    intro us r
    rw [List.map_cons] at r
    cases r with
    | cons r1 r2 =>
      obtain ⟨t,e⟩:=r1
      subst e
      exact .cons n t (ih r2)
def rJoin (K:PySem.W.Frag):V → List V → Hp → VK → Prop:=fun x vs H Q => ∃ z p ys,x = .str z ∧ vs = [.ref p] ∧ SqL K H p (ys.map V.str) ∧ (ys.map (·.length)).sum + ys.length * z.length ≤ 16777216 ∧ Q (.str (Txt.join z ys)) H
theorem mt_join:MtR X "str.join" (rJoin X.K):=by
  intro pins s σ H x vs v us Q I rx rv h
  obtain ⟨z,p,ys,rfl,rfl,hp,hz,q⟩:=h
  obtain ⟨t,rfl⟩:=rx
  obtain ⟨u,rfl,ru⟩:=rv.one
  cases ru
  obtain ⟨its,r,pl,_⟩:=I.list hp
  exact join_list pl.isList (by simpa using strsAre_of r) hz fun t' k => ⟨.str (Txt.join z ys),H,I.tok _,⟨_,rfl⟩,q⟩
theorem call_isinst:CallR X (.builtin "isinstance") (fun xs H Q => ∃ x T t b,xs = [x,.ty T] ∧ TyOf X.K H x t ∧ PySem.W.kitOne X.K t (.type T) = some b ∧ Q (.bl b) H):=by
  intro pins s σ H xs us Q I r h
  obtain ⟨x,T,t,b,rfl,ty,e,q⟩:=h
  obtain ⟨u,w',rfl,rx,ry⟩:=vals2 r
  cases (show w' = Value.type T from ry)
  exact isinst_ok I rx ty e fun tk => ⟨.bl b,H,I.tok _,rfl,q⟩
theorem boolsAre_of {bs:List Bool}:∀ {us:List Value},Vals (bs.map V.bl) us → LSm.BoolsAre us bs:=by
  induction bs with
  | nil => intro us r; rw [List.map_nil] at r; cases r; exact .nil
  | cons n ns ih =>
    intro us r
    rw [List.map_cons] at r
    cases r with
    | cons r1 r2 =>
      cases r1
      exact .cons n (ih r2)
theorem call_all_list (hc:X.calm = true):CallR X (.builtin "all") (fun xs H Q => ∃ (p:Addr) (bs:List Bool),xs = [.ref p] ∧ SqL X.K H p (bs.map V.bl) ∧ Q (.bl (bs.all id)) H):=by
  intro pins s σ H xs us Q I r h
  obtain ⟨p,bs,rfl,hp,q⟩:=h
  obtain ⟨u,rfl,ru⟩:=vals1 r
  cases ru
  obtain ⟨its,rv,pl,hz⟩:=I.list hp
  have hb:=boolsAre_of rv
  have hl:=pl.isList
  have hlt:p < s.heap.objs.size:=by obtain ⟨_,e,_⟩:=hl; exact Heap.lt_size e
  refine call_all_walk (wpAny_pyIter_list hl ?_)
  refine ⟨s.heap.objs.size,[s.heap.objs.size,p],[s.heap.objs.size],its.toArray.size,_,_,fun i => (bs[i]?).getD true,rfl,Walks.list (A:=X.A.in1) (I.ok.hd hc) _ p (Nat.ne_of_lt hlt) its.toArray,
    ⟨⟨_,Heap.get?_push_size _ rfl,rfl,rfl⟩,hl.push _⟩,fun i v s' Q' E' hP hQ => ?_,fun h' tk hk => ?_⟩
  · obtain ⟨b,e,rfl⟩:=hb.get i v (by simpa using hP)
    simp only [e,Option.getD_some] at hQ
    exact wpAny_truthy_bool hQ
  · have e:((List.range its.toArray.size).all fun i => (bs[i]?).getD true) = bs.all id:=by
      rw [List.size_toArray,hb.length]; exact LSm.range_all bs
    rw [e]
    exact ⟨.bl (bs.all id),H,I.kept (LSm.kept_iter hk),rfl,q⟩
def eqVs (xs ys:List V):Bool:=xs.length == ys.length && (List.range xs.length).all fun j => eqV (xs.getD j .non) (ys.getD j .non)
theorem Vals.getD_rel {xs:List V} {us:List Value} {j:Nat} (r:Vals xs us) (h:j < us.length):RelV (xs.getD j .non) us[j]:=by
  have hl:=r.length
  have hx:j < xs.length:=by omega
  obtain ⟨u,hu,ru⟩:=r.get (List.getElem?_eq_getElem hx)
  rw [List.getElem?_eq_getElem h] at hu
  cases hu
  rw [List.getD_eq_getElem?_getD,List.getElem?_eq_getElem hx]
  exact ru
theorem flat_getD {xs:List V} (h:xs.all flatV = true) (j:Nat):flatV (xs.getD j .non) = true:=by
  rw [List.getD_eq_getElem?_getD]
  cases e:xs[j]? with
  | none => rfl
  | some x => exact List.all_eq_true.mp h x (List.mem_of_getElem? e)
def rEqL (K:PySem.W.Frag) (neg:Bool):R2:=fun x y H Q => ∃ p q xs ys,x = .ref p ∧ y = .ref q ∧ SqL K H p xs ∧ SqL K H q ys ∧ xs.all flatV = true ∧ ys.all flatV = true ∧ Q (.bl (if neg then !eqVs xs ys else eqVs xs ys)) H
theorem eqVs_len {xs ys:List V} (h:xs.length ≠ ys.length):eqVs xs ys = false:=by
  unfold eqVs
  rw [beq_eq_false_iff_ne.mpr h,Bool.false_and]
theorem eqVs_same {xs ys:List V} (h:xs.length = ys.length):eqVs xs ys = (List.range xs.length).all fun j => eqV (xs.getD j .non) (ys.getD j .non):=by
  unfold eqVs
  rw [h,beq_self_eq_true,Bool.true_and]
theorem op_eq_list (hu:X.A.units < cLine):OpR X (compareOp .Eq) (rEqL X.K false):=by
  intro pins s σ H x y v u Q I rx ry h
  obtain ⟨p,q,xs,ys,rfl,rfl,hp,hq,fx,fy,k⟩:=h
  cases rx
  cases ry
  obtain ⟨its,r1,l1,_⟩:=I.list hp
  obtain ⟨its2,r2,l2,_⟩:=I.list hq
  have e1:=r1.length
  have e2:=r2.length
  by_cases hl:xs.length = ys.length
  · refine SeqAt.eq_listAt (e:=fun j => eqV (xs.getD j .non) (ys.getD j .non)) l1.isList l2.isList (by simp only [List.size_toArray]; omega) hu (fun j h1 h2 => ?_) ?_
    · have h1':j < its.length:=by simpa using h1
      have h2':j < its2.length:=by simpa using h2
      simpa using eqAt_V (A:=X.A.in1) (s:=s) (r1.getD_rel h1') (r2.getD_rel h2') (flat_getD fx j) (flat_getD fy j)
    · refine ⟨.bl (eqVs xs ys),H,I,?_,k⟩
      rw [eqVs_same hl]
      simp only [List.size_toArray,← e1]
      rfl
  · refine SeqAt.eq_list_lengthsAt l1.isList l2.isList (by simp only [List.size_toArray,bne_iff_ne]; omega) hu ⟨.bl (eqVs xs ys),H,I,?_,k⟩
    rw [eqVs_len hl]
    rfl
theorem op_ne_list (hu:X.A.units < cLine):OpR X (compareOp .NotEq) (rEqL X.K true):=by
  intro pins s σ H x y v u Q I rx ry h
  obtain ⟨p,q,xs,ys,rfl,rfl,hp,hq,fx,fy,k⟩:=h
  cases rx
  cases ry
  obtain ⟨its,r1,l1,_⟩:=I.list hp
  obtain ⟨its2,r2,l2,_⟩:=I.list hq
  have e1:=r1.length
  have e2:=r2.length
  by_cases hl:xs.length = ys.length
  · refine SeqAt.RcNeAt.lists (e:=fun j => eqV (xs.getD j .non) (ys.getD j .non)) l1.isList l2.isList (by simp only [List.size_toArray]; omega) hu (fun j h1 h2 => ?_) X.prog X.w _ _ ?_
    · have h1':j < its.length:=by simpa using h1
      have h2':j < its2.length:=by simpa using h2
      simpa using eqAt_V (A:=X.A.in1) (s:=s) (r1.getD_rel h1') (r2.getD_rel h2') (flat_getD fx j) (flat_getD fy j)
    · refine ⟨.bl (!eqVs xs ys),H,I,?_,k⟩
      rw [eqVs_same hl]
      simp only [List.size_toArray,← e1]
      rfl
  · refine SeqAt.RcNeAt.lists_lengths l1.isList l2.isList (by simp only [List.size_toArray,bne_iff_ne]; omega) hu X.prog X.w _ _ ⟨.bl (!eqVs xs ys),H,I,?_,k⟩
    rw [eqVs_len hl]
    rfl
end
end L2
set_option maxHeartbeats 4000000
namespace L2
open PySem PySem.Spec PyProof.Rows
def rdO:Option HO → Option (List V)
  | some (.lst xs) => some xs
  | some (.frz _ (.lst xs)) => some xs
  | _ => none
def rdL (H:Hp) (a:Addr):Option (List V):=rdO (H a)
theorem rdL_sq {K:PySem.W.Frag} {H:Hp} {a:Addr} {xs:List V} (h:rdL H a = some xs):SqL K H a xs:=by
  unfold rdL rdO at h
  split at h
  · cases h; exact .inl (.inl (by assumption))
  · cases h; exact .inl (.inr ⟨_,by assumption⟩)
  · cases h
theorem rdL_of {H:Hp} {a:Addr} {xs:List V} (h:H a = some (.lst xs)):rdL H a = some xs:=by unfold rdL; rw [h]; rfl
theorem rdL_same {H:Hp} {a:Addr} {xs:List V}:rdL (upd H a (.lst xs)) a = some xs:=rdL_of upd_same
theorem rdL_ne {H:Hp} {a b:Addr} {o:HO} (h:b ≠ a):rdL (upd H a o) b = rdL H b:=by unfold rdL; rw [upd_ne h]
theorem rdL_keep {H H':Hp} {a:Addr} {xs:List V} (e:Same H H') (h:rdL H a = some xs):rdL H' a = some xs:=by
  unfold rdL at h ⊢
  cases q:H a with
  | none => rw [q] at h; cases h
  | some o => rw [e a o q,← q]; exact h
theorem rdL_has {H:Hp} {a:Addr} {xs:List V} (h:rdL H a = some xs):∃ o,H a = some o:=by
  unfold rdL at h
  cases q:H a with
  | none => rw [q] at h; cases h
  | some o => exact ⟨o,rfl⟩
theorem rdL_fresh {H:Hp} {a p:Addr} {xs:List V} (h:rdL H a = some xs) (hp:H p = none):a ≠ p:=by
  obtain ⟨o,e⟩:=rdL_has h
  exact ne_of_none e hp
theorem same_upd {H:Hp} {p:Addr} (h:H p = none) (o:HO):Same H (upd H p o):=fun b u q => by rw [upd_ne (ne_of_none q h)]; exact q
def mutL (H:Hp) (a:Addr):Option (List V):=match H a with | some (.lst xs) => some xs | _ => none
theorem mutL_of {H:Hp} {a:Addr} {xs:List V} (h:H a = some (.lst xs)):mutL H a = some xs:=by unfold mutL; rw [h]
theorem of_mutL {H:Hp} {a:Addr} {xs:List V} (h:mutL H a = some xs):H a = some (.lst xs):=by
  unfold mutL at h
  split at h
  · cases h; assumption
  · cases h
theorem mutL_same {H:Hp} {a:Addr} {xs:List V}:mutL (upd H a (.lst xs)) a = some xs:=mutL_of upd_same
theorem mutL_ne {H:Hp} {a b:Addr} {o:HO} (h:b ≠ a):mutL (upd H a o) b = mutL H b:=by unfold mutL; rw [upd_ne h]
def tupL (H:Hp) (a:Addr):Option (List V):=match H a with | some (.tup xs) => some xs | _ => none
theorem tupL_of {H:Hp} {a:Addr} {xs:List V} (h:H a = some (.tup xs)):tupL H a = some xs:=by unfold tupL; rw [h]
theorem of_tupL {H:Hp} {a:Addr} {xs:List V} (h:tupL H a = some xs):H a = some (.tup xs):=by
  unfold tupL at h
  split at h
  · cases h; assumption
  · cases h
theorem tupL_same {H:Hp} {a:Addr} {xs:List V}:tupL (upd H a (.tup xs)) a = some xs:=tupL_of upd_same
section
variable {X:Cx} {a b c:Expr} {ta tb tc:TE} {pos:Pos}
def mVar (i:Nat):TE:=fun σ H Q => match σ[i]? with | some (some v) => Q v H | _ => False
theorem mv (i:Nat) {x:Str} {pos:Pos} (hN:X.N[i]? = some x:=by rfl) (hv:Vis X.env.scope x:=by first | exact Or.inl rfl | exact Or.inr (Or.inl rfl) | exact Or.inr (Or.inr rfl)) (hd:(x == ("__debug__" : Str)) = false:=by decide)
    (hcd:(x == ("__classdict__" : Str)) = false:=by decide):PE X (.Name x pos) (mVar i):=(pv i hN hv hd hcd).imp fun σ H Q q => by
  unfold mVar at q
  split at q
  · exact ⟨_,by assumption,q⟩
  · exact q.elim
def mI (g:Int → Int → V):R2:=fun x y H Q => match x,y with | .int i,.int j => Q (g i j) H | _,_ => False
theorem mI_imp {g:Int → Int → V} {x y:V} {H:Hp} {Q:VK} (q:mI g x y H Q):rI0 g x y H Q:=by
  unfold mI at q
  split at q
  · exact ⟨_,_,rfl,rfl,q⟩
  · exact q.elim
def mIC (C:Int → Int → Prop) (g:Int → Int → V):R2:=fun x y H Q => match x,y with | .int i,.int j => C i j ∧ Q (g i j) H | _,_ => False
theorem mIC_imp {C:Int → Int → Prop} {g:Int → Int → V} {x y:V} {H:Hp} {Q:VK} (q:mIC C g x y H Q):rI C g x y H Q:=by
  unfold mIC at q
  split at q
  · exact ⟨_,_,rfl,rfl,q.1,q.2⟩
  · exact q.elim
def mAdd:R2:=fun x y H Q => match x,y with
  | .int i,.int j => Q (.int (i + j)) H
  | .str z,.str y => z.length + y.length ≤ sizeLine ∧ Q (.str (z ++ y)) H
  | .ref p,.ref q => (match mutL H p,mutL H q with
    | some xs,some zs => xs.length + zs.length ≤ sizeLine ∧ ∀ r,H r = none → Q (.ref r) (upd H r (.lst (xs ++ zs)))
    | _,_ => False)
  | _,_ => False
theorem m_add:OpR X (binaryOp .Add) mAdd:=by
  intro pins s σ H x y v u Q I rx ry q
  unfold mAdd at q
  split at q
  · exact op_add pins s σ H _ _ v u Q I rx ry ⟨_,_,rfl,rfl,q⟩
  · exact op_add_str pins s σ H _ _ v u Q I rx ry ⟨_,_,rfl,rfl,q.1,q.2⟩
  · split at q
    · exact op_cat pins s σ H _ _ v u Q I rx ry ⟨_,_,_,_,rfl,rfl,of_mutL (by assumption),of_mutL (by assumption),q.1,q.2⟩
    · exact q.elim
  · exact q.elim
theorem m_sub:OpR X (binaryOp .Sub) (mI fun i j => .int (i - j)):=op_sub.imp fun _ _ _ _ q => mI_imp q
theorem m_mul:OpR X (binaryOp .Mult) (mIC CMul fun i j => .int (i * j)):=op_mul.imp fun _ _ _ _ q => mIC_imp q
theorem m_mod:OpR X (binaryOp .Mod) (mIC (fun _ j => 0 < j) fun i j => .int (i % j)):=op_mod.imp fun _ _ _ _ q => mIC_imp q
theorem m_fdiv:OpR X (binaryOp .FloorDiv) (mIC CDiv fun i j => .int (i / j)):=op_fdiv.imp fun _ _ _ _ q => mIC_imp q
theorem m_lt:OpR X (compareOp .Lt) (mI fun i j => .bl (decide (i < j))):=op_lt.imp fun _ _ _ _ q => mI_imp q
theorem m_le:OpR X (compareOp .LtE) (mI fun i j => .bl (decide (i ≤ j))):=op_le.imp fun _ _ _ _ q => mI_imp q
theorem m_gt:OpR X (compareOp .Gt) (mI fun i j => .bl (decide (j < i))):=op_gt.imp fun _ _ _ _ q => mI_imp q
theorem m_ge:OpR X (compareOp .GtE) (mI fun i j => .bl (decide (j ≤ i))):=op_ge.imp fun _ _ _ _ q => mI_imp q
def mNeg:V → Hp → VK → Prop:=fun x H Q => match x with | .int i => Q (.int (-i)) H | _ => False
theorem m_neg:UnR X (unaryOp .USub) mNeg:=fun pins s σ H x v Q I rx q => by
  unfold mNeg at q
  split at q
  · exact un_neg pins s σ H _ v Q I rx ⟨_,rfl,q⟩
  · exact q.elim
def mEq:R2:=fun x y H Q => scal x y = true ∧ Q (.bl (decide (x = y))) H
theorem m_eq:OpR X (compareOp .Eq) mEq:=op_eq
def mNe:R2:=fun x y H Q => scal x y = true ∧ Q (.bl (!decide (x = y))) H
theorem m_ne:OpR X (compareOp .NotEq) mNe:=op_ne
def mEqL (neg:Bool):R2:=fun x y H Q => match x,y with
  | .ref p,.ref q => (match rdL H p,rdL H q with
    | some xs,some ys => xs.all flatV = true ∧ ys.all flatV = true ∧ Q (.bl (if neg then !eqVs xs ys else eqVs xs ys)) H
    | _,_ => False)
  | _,_ => False
theorem mEqL_imp {K:PySem.W.Frag} {neg:Bool} {x y:V} {H:Hp} {Q:VK} (q:mEqL neg x y H Q):rEqL K neg x y H Q:=by
  unfold mEqL at q
  split at q
  · split at q
    · exact ⟨_,_,_,_,rfl,rfl,rdL_sq (by assumption),rdL_sq (by assumption),q.1,q.2.1,q.2.2⟩
    · exact q.elim
  · exact q.elim
theorem m_eqL (hu:X.A.units < cLine):OpR X (compareOp .Eq) (mEqL false):=(op_eq_list hu).imp fun _ _ _ _ q => mEqL_imp q
theorem m_neL (hu:X.A.units < cLine):OpR X (compareOp .NotEq) (mEqL true):=(op_ne_list hu).imp fun _ _ _ _ q => mEqL_imp q
def mIsN:R2:=fun x y H Q => match y with | .non => Q (.bl (decide (x = .non))) H | _ => False
theorem m_isN:OpR X (compareOp .Is) mIsN:=op_isN.imp fun _ y _ _ q => by
  unfold mIsN at q
  split at q
  · exact ⟨rfl,q⟩
  · exact q.elim
def mNotN:R2:=fun x y H Q => match y with | .non => Q (.bl (!decide (x = .non))) H | _ => False
theorem m_notN:OpR X (compareOp .IsNot) mNotN:=op_notN.imp fun _ y _ _ q => by
  unfold mNotN at q
  split at q
  · exact ⟨rfl,q⟩
  · exact q.elim
def subIn (y x:Str):Bool:=!(Builtin.Str.occurrences x y 0 x.length 1).isEmpty
theorem subIn_one (x:Str) (c:Nat):subIn ⟨#[c]⟩ x = decide (c ∈ x.cps.toList):=PySem.StrLaws.found_one x c
def mInS (neg:Bool):R2:=fun x y H Q => match x,y with | .str i,.str j => Q (.bl (if neg then !subIn i j else subIn i j)) H | _,_ => False
theorem m_inS:OpR X (compareOp .In) (mInS false):=op_in_str.imp fun _ _ _ _ q => by
  unfold mInS at q
  split at q
  · exact ⟨_,_,rfl,rfl,q⟩
  · exact q.elim
def mInL (neg:Bool):R2:=fun x y H Q => match y with
  | .ref p => (match rdL H p with | some xs => flatV x = true ∧ xs.all flatV = true ∧ Q (.bl (if neg then !inV x xs else inV x xs)) H | none => False)
  | _ => False
theorem mInL_imp {K:PySem.W.Frag} {neg:Bool} {x y:V} {H:Hp} {Q:VK} (q:mInL neg x y H Q):rIn K neg x y H Q:=by
  unfold mInL at q
  split at q
  · split at q
    · exact ⟨_,_,rfl,.inl (rdL_sq (by assumption)),q.1,q.2.1,q.2.2⟩
    · exact q.elim
  · exact q.elim
theorem m_notInL:OpR X (compareOp .NotIn) (mInL true):=op_notIn_seq.imp fun _ _ _ _ q => mInL_imp q
def mB (Q:Bool → Hp → Prop):VK:=fun x H => match x with | .bl k => Q k H | _ => False
theorem mB_ex {Q:Bool → Hp → Prop} {x:V} {H:Hp} (q:mB Q x H):∃ k,x = .bl k ∧ Q k H:=by
  unfold mB at q
  split at q
  · exact ⟨_,rfl,q⟩
  · exact q.elim
def mTest (t:TE):TT:=fun σ H Q => t σ H (mB Q)
theorem mt_cmp {op:CmpOp} {r:R2} (ho:OpR X (compareOp op) r) (ha:PE X a ta) (hb:PE X b tb) (hm:behindInMarks op b = false):PT X (.Compare a [op] [b] pos) (mTest (tOp r ta tb)):=by
  intro pins s σ H Q I h
  refine wpAny_isTrue_Compare1 (thn (ha pins s σ H _ I h) fun v s1 ⟨x,H1,I1,r1,q1⟩ => thn (hb pins s1 σ H1 _ I1 q1) fun u s2 ⟨y,H2,I2,r2,q2⟩ =>
    thn (ho pins s2 σ H2 x y v u _ I2 r1 r2 q2) fun c s3 ⟨z,H3,I3,r3,q⟩ => ?_) hm
  obtain ⟨k,e,q3⟩:=mB_ex q
  subst e
  cases r3
  exact wpAny_truthy_bool ⟨H3,I3,q3⟩
def mTru (Q:Bool → Hp → Prop):VK:=fun x H => match x with
  | .non => Q false H
  | .bl k => Q k H
  | .int i => Q (i != 0) H
  | .str y => y.length ≤ sizeLine ∧ Q ((y.length:Int) != 0) H
  | .ref p => (match rdL H p with
    | some xs => Q (!xs.isEmpty) H
    | none => (match H p with | some (.dK kvs) => Q (!kvs.isEmpty) H | _ => False))
  | _ => False
theorem mTru_ex {K:PySem.W.Frag} {Q:Bool → Hp → Prop} {x:V} {H:Hp} (q:mTru Q x H):∃ k,TruV K x H k ∧ Q k H:=by
  unfold mTru at q
  split at q
  · exact ⟨_,rfl,q⟩
  · exact ⟨_,rfl,q⟩
  · exact ⟨_,rfl,q⟩
  · exact ⟨_,⟨q.1,rfl⟩,q.2⟩
  · split at q
    · exact ⟨_,.inl ⟨_,rdL_sq (by assumption),rfl⟩,q⟩
    · split at q
      · exact ⟨_,.inr (.inr ⟨_,by assumption,rfl⟩),q⟩
      · exact q.elim
  · exact q.elim
def mTruth (t:TE):TT:=fun σ H Q => t σ H (mTru Q)
theorem mt_truth (ha:PE X a ta) (he:∀ whole,isTrue a X.env whole = (do let v ← whole; standAt a.pos; holding [v] (truthy v)):=by intro _; rfl):PT X a (mTruth ta):=by
  intro pins s σ H Q I h
  refine isTrue_plain (thn (ha pins s σ H _ I h) fun v s1 ⟨x,H1,I1,r1,q1⟩ => tru_ok pins s1 σ H1 x v Q I1 r1 (mTru_ex q1)) (he _)
variable {rest:List Expr}
def mAndV (ta tb:TE):TE:=fun σ H Q => ta σ H (mB fun c H1 => if c = true then tb σ H1 Q else Q (.bl false) H1)
theorem me_and (ha:PE X a ta) (hb:PE X (.BoolOp .And (b :: rest) pos) tb):PE X (.BoolOp .And (a :: b :: rest) pos) (mAndV ta tb):=by
  intro pins s σ H Q I h
  refine BoolOp_and (thn (ha pins s σ H _ I h) fun v s1 ⟨x,H1,I1,r1,q1⟩ => ?_)
  obtain ⟨c,rfl,q1⟩:=mB_ex q1
  cases r1
  refine wpAny_truthy_bool ?_
  cases c with
  | true => exact hb pins s1 σ H1 Q I1 q1
  | false => exact ⟨.bl false,H1,I1,rfl,q1⟩
def mIx:R2:=fun x y H Q => match x,y with
  | .str z,.int i => z.length ≤ sizeLine ∧ (match atI z.cps.toList i with | some c => Q (.str ⟨#[c]⟩) H | none => False)
  | .ref p,.int i => (match rdL H p with
    | some xs => (match atI xs i with | some v => Q v H | none => False)
    | none => (match tupL H p with
      | some xs => (match atI xs i with | some v => Q v H | none => False)
      | none => False))
  | _,_ => False
theorem mIx_imp {K:PySem.W.Frag} {x y:V} {H:Hp} {Q:VK} (q:mIx x y H Q):rIx K x y H Q:=by
  unfold mIx at q
  split at q
  · obtain ⟨h1,q⟩:=q
    split at q
    · exact .inr (.inr ⟨_,_,_,rfl,rfl,h1,by assumption,q⟩)
    · exact q.elim
  · split at q
    · split at q
      · exact .inl ⟨_,_,_,_,rfl,rfl,rdL_sq (by assumption),by assumption,q⟩
      · exact q.elim
    · split at q
      · split at q
        · exact .inr (.inl ⟨_,_,_,_,rfl,rfl,SqT.of (of_tupL (by assumption)),by assumption,q⟩)
        · exact q.elim
      · exact q.elim
  · exact q.elim
theorem m_ix:IxR X mIx:=ix_seq.imp fun _ _ _ _ q => mIx_imp q
def mSl:V → Option Int → Option Int → Hp → VK → Prop:=fun x lo hi H Q => match x with
  | .str z => z.length ≤ sizeLine ∧ Q (.str (Txt.slice z lo hi)) H
  | .ref p => (match rdL H p with | some xs => ∀ r,H r = none → Q (.ref r) (upd H r (.lst (cutV xs lo hi))) | none => False)
  | _ => False
theorem m_sl:SlR X mSl:=(sl_list.or sl_str).imp fun _ _ _ _ _ q => by
  unfold mSl at q
  split at q
  · exact .inr ⟨_,rfl,q.1,q.2⟩
  · split at q
    · exact .inl ⟨_,_,rfl,rdL_sq (by assumption),q⟩
    · exact q.elim
  · exact q.elim
def onIntP (Q:Option Int → Hp → Prop):VK:=fun x H1 => match x with | .int i => Q (some i) H1 | _ => False
def mPart (t:TE):TO:=fun σ H Q => t σ H (onIntP Q)
variable {e:Expr} {te:TE}
theorem mo_some (h:PE X e te):PO X (some e) (mPart te):=by
  intro pins s σ H Q I hw
  rw [evalPart_some]
  refine thn (h pins s σ H _ I hw) fun u s1 ⟨x,H1,I1,r1,q1⟩ => ?_
  unfold onIntP at q1
  split at q1
  · obtain ⟨t,rfl⟩:=r1
    exact ⟨_,H1,I1,.int _ t,q1⟩
  · exact q1.elim
def mLen:List V → Hp → VK → Prop:=fun xs H Q => match xs with
  | [.str z] => z.length ≤ sizeLine ∧ Q (.int z.length) H
  | [.ref p] => (match rdL H p with
    | some xs => Q (.int xs.length) H
    | none => (match tupL H p with | some xs => Q (.int xs.length) H | none => False))
  | _ => False
theorem m_len:CallR X (.builtin "len") mLen:=call_len.imp fun _ _ _ q => by
  unfold mLen at q
  split at q
  · exact ⟨_,_,rfl,⟨q.1,rfl⟩,q.2⟩
  · split at q
    · exact ⟨_,_,rfl,.inl ⟨_,rdL_sq (by assumption),rfl⟩,q⟩
    · split at q
      · exact ⟨_,_,rfl,.inr ⟨_,SqT.of (of_tupL (by assumption)),rfl⟩,q⟩
      · exact q.elim
  · exact q.elim
def mList:List V → Hp → VK → Prop:=fun xs H Q => match xs with
  | [.ref p] => (match rdL H p with
    | some ys => ∀ l,H l = none → Q (.ref l) (upd H l (.lst ys))
    | none => (match tupL H p with | some ys => ∀ l,H l = none → Q (.ref l) (upd H l (.lst ys)) | none => False))
  | _ => False
theorem m_list:CallR X (.type "list") mList:=call_list_of.imp fun _ _ _ q => by
  unfold mList at q
  split at q
  · split at q
    · exact ⟨_,_,rfl,.inl (rdL_sq (by assumption)),q⟩
    · split at q
      · exact ⟨_,_,rfl,.inr (SqT.of (of_tupL (by assumption))),q⟩
      · exact q.elim
  · exact q.elim
def mTyV (T:String) (x:V) (H:Hp) (P:Prop):Prop:=match x with
  | .str _ => T = "str" ∧ P
  | .ref p => (match rdL H p with | some _ => T = "list" ∧ P | none => False)
  | _ => False
theorem mTyV_imp {K:PySem.W.Frag} {T:String} {x:V} {H:Hp} {P:Prop} (q:mTyV T x H P):tyV K T x H ∧ P:=by
  unfold mTyV at q
  split at q
  · exact ⟨q.1,q.2⟩
  · split at q
    · exact ⟨.inl ⟨q.1,_,rdL_sq (by assumption)⟩,q.2⟩
    · exact q.elim
  · exact q.elim
def mMeth (T:String) (r:V → List V → Hp → VK → Prop) (to:TE) (t:TA):TE:=fun σ H Q => to σ H fun x H1 => mTyV T x H1 (t σ H1 fun xs H2 => r x xs H2 Q)
variable {o:Expr} {es:List Expr} {to:TE} {t:TA} {name:Str} {apos cpos:Pos} {T id:String} {r:V → List V → Hp → VK → Prop}
theorem me_meth (pa:PlainAttrs T) (slot:Slot T name id) (hty:typeOf (.builtin id) = pure (.type "method_descriptor")) (hm:MtR X id r) (ho:PE X o to) (ha:PA X (e :: es) t)
    (hbase:attributeBase o name X.env (eval o X.env) = eval o X.env:=by rfl)
    (hfew:((backTo cpos (starEach (e :: es) X.env)).all (fun x => !x.1) && (backToKw cpos (keywordEach [] X.env)).all (fun x => x.1.isSome)
      && decide ((e :: es).length + ([]:List Keyword).length + (if ([]:List Keyword).isEmpty then 0 else 1) < 30)) = true:=by rfl)
    (hline:(apos.endLine == cpos.line) = true:=by rfl) (hs:starEach (e :: es) X.env = (false,eval e X.env) :: starEach es X.env:=by rfl) (hplain:(backTo cpos (starEach es X.env)).any (·.1) = false:=by rfl) :
    PE X (.Call (.Attribute o name apos) (e :: es) [] cpos) (mMeth T r to t):=by
  intro pins s σ H Q I h
  refine wpAny_Call_method_late hbase hfew hline rfl (thn (ho pins s σ H _ I h) fun v s1 ⟨x,H1,I1,r1,q⟩ => ?_)
  obtain ⟨ty,q1⟩:=mTyV_imp (K:=X.K) q
  obtain ⟨h1,h2⟩:=tyV_is I1 r1 ty
  refine ⟨T,id,pa,slot,hty,h1,h2,?_⟩
  have hA:=ha cpos pins s1 σ H1 _ I1 q1
  rw [hs] at hA ⊢
  refine Calls.callWith_builtin (by show (false || (backTo cpos (starEach es X.env)).any (·.1)) = false; rw [hplain] <;> rfl) (Calls.evalArgs_plain ?_)
  exact thn hA fun us s2 ⟨vs,H2,I2,r2,q2⟩ => hm pins s2 σ H2 x vs v us Q I2 r1 r2 q2
def mApp:V → List V → Hp → VK → Prop:=fun x vs H Q => match x,vs with
  | .ref l,[y] => (match mutL H l with | some xs => xs.length < sizeLine ∧ Q .non (upd H l (.lst (xs ++ [y]))) | none => False)
  | _,_ => False
theorem m_app:MtR X "list.append" mApp:=MtR.imp (r:=rAppend) mt_append fun _ _ _ _ q => by
  unfold mApp at q
  split at q
  · split at q
    · exact ⟨_,_,_,rfl,rfl,of_mutL (by assumption),q.1,q.2⟩
    · exact q.elim
  · exact q.elim
def strsOf:List V → Option (List Str)
  | [] => some []
  | .str z :: r => (strsOf r).map (z :: ·)
  | _ => none
theorem strsOf_map (ys:List Str):strsOf (ys.map V.str) = some ys:=by
  induction ys with
  | nil => rfl
  | cons y r ih => rw [List.map_cons,strsOf,ih]; rfl
theorem of_strsOf:∀ {xs:List V} {ys:List Str},strsOf xs = some ys → xs = ys.map V.str
  | [],_,h => by cases h; rfl
  | .str z :: r,_,h => by
    rw [strsOf] at h
    cases e:strsOf r with
    | none => rw [e] at h; cases h
    | some l => rw [e] at h; cases h; rw [of_strsOf e]; rfl
  | .non :: _,_,h => by cases h
  | .bl _ :: _,_,h => by cases h
  | .int _ :: _,_,h => by cases h
  | .byt _ :: _,_,h => by cases h
  | .flt _ :: _,_,h => by cases h
  | .ref _ :: _,_,h => by cases h
  | .ty _ :: _,_,h => by cases h
def mJoin:V → List V → Hp → VK → Prop:=fun x vs H Q => match x,vs with
  | .str z,[.ref p] => (match rdL H p with
    | some xs => (match strsOf xs with | some ys => (ys.map (·.length)).sum + ys.length * z.length ≤ 16777216 ∧ Q (.str (Txt.join z ys)) H | none => False)
    | none => False)
  | _,_ => False
theorem m_join:MtR X "str.join" mJoin:=mt_join.imp fun _ _ _ _ q => by
  unfold mJoin at q
  split at q
  · split at q
    · split at q
      · have e:=of_strsOf (by assumption)
        subst e
        exact ⟨_,_,_,rfl,rfl,rdL_sq (by assumption),q.1,q.2⟩
      · exact q.elim
    · exact q.elim
  · exact q.elim
def bolsOf:List V → Option (List Bool)
  | [] => some []
  | .bl z :: r => (bolsOf r).map (z :: ·)
  | _ => none
theorem bolsOf_map (ys:List Bool):bolsOf (ys.map V.bl) = some ys:=by
  induction ys with
  | nil => rfl
  | cons y r ih => rw [List.map_cons,bolsOf,ih]; rfl
theorem of_bolsOf:∀ {xs:List V} {ys:List Bool},bolsOf xs = some ys → xs = ys.map V.bl
  | [],_,h => by cases h; rfl
  | .bl z :: r,_,h => by
    rw [bolsOf] at h
    cases e:bolsOf r with
    | none => rw [e] at h; cases h
    | some l => rw [e] at h; cases h; rw [of_bolsOf e]; rfl
  | .non :: _,_,h => by cases h
  | .str _ :: _,_,h => by cases h
  | .int _ :: _,_,h => by cases h
  | .byt _ :: _,_,h => by cases h
  | .flt _ :: _,_,h => by cases h
  | .ref _ :: _,_,h => by cases h
  | .ty _ :: _,_,h => by cases h
def mAll:List V → Hp → VK → Prop:=fun vs H Q => match vs with
  | [.ref p] => (match rdL H p with
    | some xs => (match bolsOf xs with | some bs => Q (.bl (bs.all _root_.id)) H | none => False)
    | none => False)
  | _ => False
theorem m_all (hc:X.calm = true):CallR X (.builtin "all") mAll:=(call_all_list hc).imp fun _ _ _ q => by
  unfold mAll at q
  split at q
  · split at q
    · split at q
      · have e:=of_bolsOf (by assumption)
        subst e
        exact ⟨_,_,rfl,rdL_sq (by assumption),q⟩
      · exact q.elim
    · exact q.elim
  · exact q.elim
def tyN (x:V) (H:Hp):Option String:=match x with
  | .non => some "NoneType"
  | .bl _ => some "bool"
  | .int _ => some "int"
  | .str _ => some "str"
  | .ref p => (match H p with
    | some (.lst _) => some "list"
    | some (.frz _ (.lst _)) => some "list"
    | some (.tup _) => some "tuple"
    | some (.dK _) => some "dict"
    | _ => none)
  | _ => none
theorem tyN_of {K:PySem.W.Frag} {x:V} {H:Hp} {t:String} (h:tyN x H = some t):TyOf K H x (.type t):=by
  unfold tyN at h
  split at h
  · cases h; exact .non
  · cases h; exact .bl _
  · cases h; exact .int _
  · cases h; exact .str _
  · split at h
    · cases h; exact .lst (by assumption)
    · cases h; exact .frz (by assumption)
    · cases h; exact .tup (by assumption)
    · cases h; exact .dK (by assumption)
    · cases h
  · cases h
def isiB (t T:String):Bool:=decide (t = T) || (decide (t = "bool") && decide (T = "int"))
def isiN (t T:String):Bool:=["NoneType", "bool", "int", "str", "list", "tuple", "dict"].contains t && ["bool", "int", "str", "list", "tuple", "dict"].contains T
def isiT (t T:String):Option Bool:=bif isiN t T then some (isiB t T) else none
theorem isi_all {K:PySem.W.Frag}:∀ t ∈ ["NoneType", "bool", "int", "str", "list", "tuple", "dict"],∀ T ∈ ["bool", "int", "str", "list", "tuple", "dict"],PySem.W.kitOne K (.type t) (.type T) = some (isiB t T):=by
  simp only [List.forall_mem_cons,List.not_mem_nil,false_implies,implies_true,and_true]
  refine ⟨⟨rfl,rfl,rfl,rfl,rfl,rfl⟩,⟨rfl,rfl,rfl,rfl,rfl,rfl⟩,⟨rfl,rfl,rfl,rfl,rfl,rfl⟩,⟨rfl,rfl,rfl,rfl,rfl,rfl⟩,⟨rfl,rfl,rfl,rfl,rfl,rfl⟩,⟨rfl,rfl,rfl,rfl,rfl,rfl⟩,⟨rfl,rfl,rfl,rfl,rfl,rfl⟩⟩
theorem isiT_kit {K:PySem.W.Frag} {t T:String} {b:Bool} (h:isiT t T = some b):PySem.W.kitOne K (.type t) (.type T) = some b:=by
  unfold isiT at h
  cases hn:isiN t T with
  | false => rw [hn] at h; cases h
  | true =>
    rw [hn] at h; cases h
    unfold isiN at hn; rw [Bool.and_eq_true] at hn
    exact isi_all t (List.contains_iff_mem.mp hn.1) T (List.contains_iff_mem.mp hn.2)
def mIsi:List V → Hp → VK → Prop:=fun xs H Q => match xs with
  | [x,.ty T] => (match tyN x H with
    | some t => (match isiT t T with | some b => Q (.bl b) H | none => False)
    | none => False)
  | _ => False
theorem m_isi:CallR X (.builtin "isinstance") mIsi:=call_isinst.imp fun _ _ _ q => by
  unfold mIsi at q
  split at q
  · split at q
    · split at q
      · exact ⟨_,_,_,_,rfl,tyN_of (by assumption),isiT_kit (by assumption),q⟩
      · exact q.elim
    · exact q.elim
  · exact q.elim
end
end L2
namespace L2
open PySem PySem.Spec PyProof.Rows
def onStr (R:Str → Hp → Prop):VK:=fun x H => match x with | .str z => R z H | _ => False
theorem onStr_ex {R:Str → Hp → Prop} {x:V} {H:Hp} (q:onStr R x H):∃ z,x = .str z ∧ R z H:=by
  unfold onStr at q
  split at q
  · exact ⟨_,rfl,q⟩
  · exact q.elim
def onL (o:Option (List V)) (P:Prop):Prop:=match o with | some _ => P | none => False
def onRef (R:Addr → Hp → Prop):VK:=fun x H => match x with | .ref a => R a H | _ => False
theorem onRef_ex {R:Addr → Hp → Prop} {x:V} {H:Hp} (q:onRef R x H):∃ a,x = .ref a ∧ R a H:=by
  unfold onRef at q
  split at q
  · exact ⟨_,rfl,q⟩
  · exact q.elim
section
variable {X:Cx} {tg l a b:Expr} {tl ta tb:TE} {p pos:Pos}
def jStr (tl:TE):TI:=fun σ H R => tl σ H (onStr fun z H1 => R (Its z) H1)
theorem pj_str (hl:PE X l tl):PI X tg l (jStr tl):=by
  intro pins s σ H R I h
  refine thn (hl pins s σ H _ I h) fun v s1 ⟨x,H1,I1,r1,q1⟩ => ?_
  obtain ⟨z,rfl,q⟩:=onStr_ex q1
  obtain ⟨t,rfl⟩:=r1
  have fb:∀ b ∈ [s1.heap.objs.size],FpOk X pins H1 b:=fun b hb => by
    have e:b = s1.heap.objs.size:=by simpa using hb
    subst e
    exact I1.fpOk (Nat.le_refl _) (I1.hok.fresh (Nat.le_refl _))
  cases ha:z.cps.all (· < 128)
  · refine wpAny_pyIter_wide ha ?_
    exact ⟨s1.heap.objs.size,[s1.heap.objs.size],_,_,H1,rfl,I1.kept (t':=s1.toks) fun b o e => Heap.get?_push_of_some _ e,turn_wide z t _,⟨_,Heap.get?_push_size _ rfl,rfl,rfl⟩,fb,q⟩
  · refine wpAny_pyIter_ascii ha ?_
    exact ⟨s1.heap.objs.size,[s1.heap.objs.size],_,_,H1,rfl,I1.kept (t':=s1.toks) fun b o e => Heap.get?_push_of_some _ e,turn_ascii z t _,⟨_,Heap.get?_push_size _ rfl,rfl,rfl⟩,fb,q⟩
def jList (K:PySem.W.Frag) (tl:TE):TI:=fun σ H R => tl σ H (onRef fun a H1 => onL (rdL H1 a) (R (Itl K a) H1))
theorem pj_list (hl:PE X l tl):PI X tg l (jList X.K tl):=by
  intro pins s σ H R I h
  refine thn (hl pins s σ H _ I h) fun v s1 ⟨x,H1,I1,r1,q1⟩ => ?_
  obtain ⟨a,rfl,q⟩:=onRef_ex q1
  cases r1
  unfold onL at q
  split at q
  · rename_i xs e
    obtain ⟨its,rv,p,hz⟩:=I1.list (rdL_sq e)
    refine wpAny_pyIter_list p.isList ?_
    refine ⟨s1.heap.objs.size,[s1.heap.objs.size],_,_,H1,rfl,I1.kept (t':=s1.toks) fun b o e => Heap.get?_push_of_some _ e,turn_list a _,⟨_,Heap.get?_push_size _ rfl,rfl,rfl⟩,fun b hb => ?_,q⟩
    have e:b = s1.heap.objs.size:=by simpa using hb
    subst e
    exact I1.fpOk (Nat.le_refl _) (I1.hok.fresh (Nat.le_refl _))
  · exact q.elim
def onI1 (R:Int → Hp → Prop):List V → Hp → Prop:=fun vs H => match vs with | [.int j] => R j H | _ => False
theorem onI1_ex {R:Int → Hp → Prop} {vs:List V} {H:Hp} (q:onI1 R vs H):∃ j,vs = [.int j] ∧ R j H:=by
  unfold onI1 at q
  split at q
  · exact ⟨_,rfl,q⟩
  · exact q.elim
def jRng1 (ta:TA):TI:=fun σ H R => ta σ H (onI1 fun j H1 => (-(2 ^ 62) ≤ j ∧ j < 2 ^ 62) ∧ R (Itr 0 j.toNat) H1)
theorem pj_range1 {ta:TA} (hg:Gl X "range") (hm:X.mg "range" = none) (ha:PA X [a] ta) (hs:starEach [a] X.env = [(false,eval a X.env)]:=by rfl):PI X tg (.Call (.Name "range" p) [a] [] pos) (jRng1 ta):=by
  intro pins s σ H R I h
  refine Call_ (ld_blt I hg hm boot_range (PyProof.Rows.callWith_type1 (thn (ha pos pins s σ H _ I h) fun us s1 ⟨vs,H1,I1,r1,q1⟩ => ?_) hs rfl))
  obtain ⟨j,e,⟨b1,b2⟩,q⟩:=onI1_ex q1
  subst e
  cases r1 with
  | cons r rr =>
    cases rr
    obtain ⟨t,rfl⟩:=r
    exact call_range_1 (range_it I1 (by omega) (by omega) b1 b2 (by simpa using q))
def ForJ (J:It) (g:TG) (tb:TS) (D:Ends) (σ:St) (H1:Hp):Prop:=∃ W:Nat → Nat → St → Hp → Prop,(∃ m,W 0 m σ H1) ∧ ∀ i m σ H,W i m σ H →
  (J.stop i H ∧ D.nx σ H) ∨ (J.go i H ∧ ∃ N:St → Hp → Prop,(∀ σ' H',N σ' H' → ∃ m',m' < m ∧ W (i + 1) m' σ' H') ∧ ∀ x H',J.yld i H x H' → g x σ H' fun σ2 H2 => tb { D with nx:=N,ct:=N,bk:=D.nx } σ2 H2)
def tForJ (wi:TI) (g:TG) (tb:TS):TS:=fun D σ H => wi σ H fun J H1 => ForJ J g tb D σ H1
theorem pj_for {iter:Expr} {body:List Stmt} {wi:TI} {g:TG} {tb:TS} (hp:PassesOwn (model X.prog X.w) X.A X.env X.xe) (hc:X.calm = true) (hi:PI X tg iter wi) (hg:PG X tg g) (hb:PSs X body tb)
    (hs:∀ x,foldedSetIterable iter X.env x = pure x:=by intro _; rfl):PS X (.For tg iter body [] pos) (tForJ wi g tb):=ps_for (wi:=wi) hp hc hi hg hb hs
section
variable {K:PySem.W.Frag} {c:Addr} {xs:List V} {z:Str} {lo:Int} {n:Nat} {g:TG} {tb:TS} {D:Ends} {σ:St} {H:Hp}
theorem fj_list (Pv:Nat → St → Hp → Prop) (h0:Pv 0 σ H) (hl:∀ i σ H,i ≤ xs.length → Pv i σ H → rdL H c = some xs)
    (hs:∀ i x σ H,xs[i]? = some x → Pv i σ H → g x σ H fun σ2 H2 => tb { D with nx:=Pv (i + 1),ct:=Pv (i + 1),bk:=D.nx } σ2 H2) (hd:∀ σ H,Pv xs.length σ H → D.nx σ H):ForJ (Itl K c) g tb D σ H :=
  for_list Pv h0 (fun i σ H hi p => rdL_sq (hl i σ H hi p)) hs hd
theorem fj_range (Pv:Nat → St → Hp → Prop) (h0:Pv 0 σ H)
    (hs:∀ i σ H,i < n → Pv i σ H → g (.int (lo + i)) σ H fun σ2 H2 => tb { D with nx:=Pv (i + 1),ct:=Pv (i + 1),bk:=D.nx } σ2 H2) (hd:∀ σ H,Pv n σ H → D.nx σ H):ForJ (Itr lo n) g tb D σ H :=
  for_range Pv h0 hs hd
end
theorem pe_bty {x:Str} {T:String} (hg:Gl X x) (hm:X.mg x = none) (hv:bootBuiltins x = some (.type T)) (hn:x ≠ "__name__" := by decide) (hd:(x == ("__debug__" : Str)) = false:=by decide):PE X (.Name x pos) (tC (.ty T)):=pe_bltn hg hm hv rfl hn hd
end
end L2
set_option maxHeartbeats 4000000
namespace L2
open PySem PySem.Spec PyProof.Rows
section
variable {K:PySem.W.Frag} {σ:St} {H:Hp} {Q:VK} {QB:Bool → Hp → Prop} {QA:List V → Hp → Prop} {QO:Option Int → Hp → Prop} {D:Ends} {t u:TS} {te ta tb tc:TE} {tt tu:TT} {tA:TA} {r r':R2} {x y v:V} {i j:Int} {z z':Str} {p q:Addr} {xs ys vs:List V} {k n:Nat}
theorem s_seq (h:t { D with nx:=u D } σ H):tSeq t u D σ H:=h
theorem s_next (h:D.nx σ H):tNext D σ H:=h
theorem s_if {c:TT} (h:c σ H fun b H1 => if b = true then t D σ H1 else u D σ H1):tIfS c t u D σ H:=h
theorem s_ret (h:te σ H D.rt):tRet te D σ H:=h
theorem s_drop (h:te σ H fun _ H1 => D.nx σ H1):tDrop te D σ H:=h
theorem s_asg {g:TG} (h:te σ H fun x H1 => g x σ H1 D.nx):tAsg te g D σ H:=h
theorem s_for {wi:TI} {g:TG} {tb:TS} (h:wi σ H fun J H1 => ForJ J g tb D σ H1):tForJ wi g tb D σ H:=h
theorem s_gname {QS:St → Hp → Prop} (h:QS (σ.set k (some v)) H):gName k v σ H QS:=h
theorem s_gsub {QS:St → Hp → Prop} {to ti:TE} {ts:TSet} (h:to σ H fun o H1 => ti σ H1 fun i H2 => ts o i v H2 fun H3 => QS σ H3):gSub to ti ts v σ H QS:=h
theorem s_var (e:σ[k]? = some (some v)) (h:Q v H):mVar k σ H Q:=by unfold mVar; rw [e]; exact h
theorem s_c (h:Q v H):tC v σ H Q:=h
theorem s_op (h:ta σ H fun x H1 => tb σ H1 fun y H2 => r x y H2 Q):tOp r ta tb σ H Q:=h
theorem s_un {ru:V → Hp → VK → Prop} (h:ta σ H fun x H1 => ru x H1 Q):tUn ru ta σ H Q:=h
theorem s_nil (h:QA [] H):tNil σ H QA:=h
theorem s_cons {tr:TA} (h:ta σ H fun x H1 => tr σ H1 fun xs H2 => QA (x :: xs) H2):tCons ta tr σ H QA:=h
theorem s_lst (h:tA σ H fun xs H1 => xs.length ≤ sizeLine ∧ ∀ p,H1 p = none → Q (.ref p) (upd H1 p (.lst xs))):tLst tA σ H Q:=h
theorem s_tup (h:tA σ H fun xs H1 => xs.length ≤ sizeLine ∧ ∀ p,H1 p = none → Q (.ref p) (upd H1 p (.tup xs))):tTup tA σ H Q:=h
theorem s_call {sp:Sp} {E:XK} (h:tA σ H fun vs H1 => sp (vs ++ []) H1 Q E):tCall sp [] E tA σ H Q:=h
theorem s_cb {rc:List V → Hp → VK → Prop} (h:tA σ H fun vs H1 => rc vs H1 Q):tCB rc tA σ H Q:=h
theorem s_sl {rs:V → Option Int → Option Int → Hp → VK → Prop} {tl th:TO} (h:te σ H fun x H1 => tl σ H1 fun l H2 => th σ H2 fun u H3 => rs x l u H3 Q):tSl rs te tl th σ H Q:=h
theorem s_nopart (h:QO none H):tNoPart σ H QO:=h
theorem s_part (h:te σ H (onIntP QO)):mPart te σ H QO:=h
theorem s_onIntP (h:QO (some i) H):onIntP QO (.int i) H:=h
theorem s_meth {T:String} {rm:V → List V → Hp → VK → Prop} {to:TE} (h:to σ H fun x H1 => mTyV T x H1 (tA σ H1 fun xs H2 => rm x xs H2 Q)):mMeth T rm to tA σ H Q:=h
theorem s_tyS {P:Prop} (h:P):mTyV "str" (.str z) H P:=⟨rfl,h⟩
theorem s_tyL {P:Prop} (e:rdL H p = some xs) (h:P):mTyV "list" (.ref p) H P:=by unfold mTyV; simp only [e]; exact ⟨trivial,h⟩
theorem s_test (h:te σ H (mB QB)):mTest te σ H QB:=h
theorem s_truth (h:te σ H (mTru QB)):mTruth te σ H QB:=h
theorem s_mB {b:Bool} (h:QB b H):mB QB (.bl b) H:=h
theorem s_trub {b:Bool} (h:QB b H):mTru QB (.bl b) H:=h
theorem s_and (h:tt σ H fun c H1 => if c = true then tu σ H1 QB else QB false H1):tAnd tt tu σ H QB:=h
theorem s_or (h:tt σ H fun c H1 => if c = true then QB true H1 else tu σ H1 QB):tOr tt tu σ H QB:=h
theorem s_not (h:tt σ H fun c H1 => QB (!c) H1):tNot tt σ H QB:=h
theorem s_andV (h:ta σ H (mB fun c H1 => if c = true then tb σ H1 Q else Q (.bl false) H1)):mAndV ta tb σ H Q:=h
theorem s_mI {g:Int → Int → V} (h:Q (g i j) H):mI g (.int i) (.int j) H Q:=h
theorem s_mIC {C:Int → Int → Prop} {g:Int → Int → V} (c:C i j) (h:Q (g i j) H):mIC C g (.int i) (.int j) H Q:=⟨c,h⟩
theorem s_addI (h:Q (.int (i + j)) H):mAdd (.int i) (.int j) H Q:=h
theorem s_addL (e:mutL H p = some xs) (e':mutL H q = some ys) (c:xs.length + ys.length ≤ sizeLine) (h:∀ r,H r = none → Q (.ref r) (upd H r (.lst (xs ++ ys)))):mAdd (.ref p) (.ref q) H Q:=by
  unfold mAdd; simp only [e,e']; exact ⟨c,h⟩
theorem s_eqI (h:Q (.bl (decide (i = j))) H):mEq (.int i) (.int j) H Q:=⟨rfl,by
  rw [show decide (V.int i = V.int j) = decide (i = j) by simp]; exact h⟩
theorem s_neI (h:Q (.bl (!decide (i = j))) H):mNe (.int i) (.int j) H Q:=⟨rfl,by
  rw [show decide (V.int i = V.int j) = decide (i = j) by simp]; exact h⟩
theorem s_neS (h:Q (.bl (!decide (z = z'))) H):mNe (.str z) (.str z') H Q:=⟨rfl,by
  rw [show decide (V.str z = V.str z') = decide (z = z') by simp]; exact h⟩
theorem s_eqL {neg:Bool} (e:rdL H p = some xs) (e':rdL H q = some ys) (f:xs.all flatV = true) (f':ys.all flatV = true) (h:Q (.bl (if neg then !eqVs xs ys else eqVs xs ys)) H):mEqL neg (.ref p) (.ref q) H Q:=by
  unfold mEqL; simp only [e,e']; exact ⟨f,f',h⟩
theorem s_isN (h:Q (.bl (decide (x = .non))) H):mIsN x .non H Q:=h
theorem s_notN (h:Q (.bl (!decide (x = .non))) H):mNotN x .non H Q:=h
theorem s_inS {neg:Bool} (h:Q (.bl (if neg then !subIn z z' else subIn z z')) H):mInS neg (.str z) (.str z') H Q:=h
theorem s_inL {neg:Bool} (e:rdL H p = some xs) (f:flatV x = true) (f':xs.all flatV = true) (h:Q (.bl (if neg then !inV x xs else inV x xs)) H):mInL neg x (.ref p) H Q:=by
  unfold mInL; simp only [e]; exact ⟨f,f',h⟩
theorem s_ixS {c:Nat} (l:z.length ≤ sizeLine) (e:atI z.cps.toList i = some c) (h:Q (.str ⟨#[c]⟩) H):mIx (.str z) (.int i) H Q:=by
  unfold mIx; simp only [e]; exact ⟨l,h⟩
theorem s_ixL (e:rdL H p = some xs) (e':atI xs i = some v) (h:Q v H):mIx (.ref p) (.int i) H Q:=by
  unfold mIx; simp only [e,e']; exact h
theorem s_slL {lo hi:Option Int} (e:rdL H p = some xs) (h:∀ r,H r = none → Q (.ref r) (upd H r (.lst (cutV xs lo hi)))):mSl (.ref p) lo hi H Q:=by
  unfold mSl; simp only [e]; exact h
theorem s_lenS (l:z.length ≤ sizeLine) (h:Q (.int z.length) H):mLen [.str z] H Q:=⟨l,h⟩
theorem s_lenL (e:rdL H p = some xs) (h:Q (.int xs.length) H):mLen [.ref p] H Q:=by unfold mLen; simp only [e]; exact h
theorem s_list (e:rdL H p = some xs) (h:∀ l,H l = none → Q (.ref l) (upd H l (.lst xs))):mList [.ref p] H Q:=by unfold mList; simp only [e]; exact h
theorem s_app (e:mutL H p = some xs) (l:xs.length < sizeLine) (h:Q .non (upd H p (.lst (xs ++ [v])))):mApp (.ref p) [v] H Q:=by unfold mApp; simp only [e]; exact ⟨l,h⟩
theorem s_join {ss:List Str} (e:rdL H p = some (ss.map V.str)) (l:(ss.map (·.length)).sum + ss.length * z.length ≤ 16777216) (h:Q (.str (Txt.join z ss)) H):mJoin (.str z) [.ref p] H Q:=by
  unfold mJoin; simp only [e,strsOf_map]; exact ⟨l,h⟩
theorem s_all {bs:List Bool} (e:rdL H p = some (bs.map V.bl)) (h:Q (.bl (bs.all id)) H):mAll [.ref p] H Q:=by
  unfold mAll; simp only [e,bolsOf_map]; exact h
theorem s_isi {T t:String} {b:Bool} (e:tyN x H = some t) (e':isiT t T = some b) (h:Q (.bl b) H):mIsi [x,.ty T] H Q:=by
  unfold mIsi; simp only [e,e']; exact h
theorem s_jList {tl:TE} {R:It → Hp → Prop} (h:tl σ H (onRef fun a H1 => onL (rdL H1 a) (R (Itl K a) H1))):jList K tl σ H R:=h
theorem s_onRef {R:Addr → Hp → Prop} (h:R p H):onRef R (.ref p) H:=h
theorem s_onL {P:Prop} (e:rdL H p = some xs) (h:P):onL (rdL H p) P:=by unfold onL; simp only [e]; exact h
theorem s_jStr {tl:TE} {R:It → Hp → Prop} (h:tl σ H (onStr fun z H1 => R (Its z) H1)):jStr tl σ H R:=h
theorem s_onStr {R:Str → Hp → Prop} (h:R z H):onStr R (.str z) H:=h
theorem s_jRng1 {R:It → Hp → Prop} (h:tA σ H (onI1 fun j H1 => (-(2 ^ 62) ≤ j ∧ j < 2 ^ 62) ∧ R (Itr 0 j.toNat) H1)):jRng1 tA σ H R:=h
theorem s_onI1 {R:Int → Hp → Prop} (h:R i H):onI1 R [.int i] H:=h
theorem s_set {o:V} {QH:Hp → Prop} (e:mutL H p = some xs) (e':ixN xs.length i = some k) (h:QH (upd H p (.lst (xs.set k v)))):rSetL (.ref p) (.int i) v H QH:=⟨_,_,_,_,rfl,rfl,of_mutL e,e',h⟩
end
theorem atI_lt {α:Type} {xs:List α} {i:Int} (h0:0 ≤ i) (h1:i < xs.length):∃ v,atI xs i = some v ∧ xs[i.toNat]? = some v:=by
  have hk:i.toNat < xs.length:=by omega
  have e:i = ((i.toNat:Nat):Int):=by omega
  have q:atI xs ((i.toNat:Nat):Int) = some xs[i.toNat]:=atI_nat (List.getElem?_eq_getElem hk)
  rw [← e] at q
  exact ⟨xs[i.toNat],q,List.getElem?_eq_getElem hk⟩
theorem ixN_lt {n:Nat} {i:Int} (h0:0 ≤ i) (h1:i < n):ixN n i = some i.toNat:=by
  unfold ixN
  rw [if_pos h0,if_pos h1]
theorem len_line {n:Nat} (h:n ≤ 100000):n ≤ sizeLine:=Nat.le_trans h (by decide)
theorem lt_line {n:Nat} (h:n ≤ 100000):n < sizeLine:=Nat.lt_of_le_of_lt h (by decide)
end L2
namespace L2
open PySem PySem.Spec PyProof.Rows
def Cal (P:Program) (w:World) (K:PySem.W.Frag) (mg:Str → Option Value) (base:Heap) (k:Nat) (x:Str) (ps:List Str) (sp:Sp):Prop :=
  ∃ (f:Addr) (fd:FuncData),FnOk P w K mg base CX0 k f fd ps sp ∧ mg x = some (.ref f) ∧ PySem.W.keepIn K (.ref f) = true ∧ Binds K fd ps []
section
variable {X:Cx} {k k':Nat} {ps:List Str} {sp:Sp} {x:Str} {p pos:Pos} {e:Expr} {es:List Expr} {t:TA} {K:PySem.W.Frag} {H:Hp} {Q:VK} {xs:List V} {v:V} {i:Int} {a:Addr}
theorem pe_cal (c:Cal X.prog X.w X.K X.mg X.base k x ps sp) (hr:Room k' X.A) (hk:k ≤ k') (hg:Gl X x)
    (ha:PA X (e :: es) t) (hdb:(x == ("__debug__" : Str)) = false:=by decide) (he:starEach (e :: es) X.env = (false,eval e X.env) :: starEach es X.env:=by rfl) (hpl:(backTo pos (starEach es X.env)).any (·.1) = false:=by rfl) :
    PE X (.Call (.Name x p) (e :: es) [] pos) (tCall sp [] E0 t):=by
  obtain ⟨f,fd,F,hm,hk',hb⟩:=c
  exact pe_call F (hr.mono hk) hg hm hk' hb .nil pass0 ha hdb he hpl
theorem pe_gstr {z:Str} (hg:Gl X x) (h:∃ t,X.mg x = some (.str z t)) (hd:(x == ("__debug__" : Str)) = false:=by decide):PE X (.Name x pos) (tC (.str z)):=by
  obtain ⟨t,h⟩:=h
  exact pe_glob hg h ⟨t,rfl⟩ hd
theorem pe_gint {z:Int} (hg:Gl X x) (h:∃ t,X.mg x = some (.int z t)) (hd:(x == ("__debug__" : Str)) = false:=by decide):PE X (.Name x pos) (tC (.int z)):=by
  obtain ⟨t,h⟩:=h
  exact pe_glob hg h ⟨t,rfl⟩ hd
theorem s_slK {lo hi:Option Int} (e:SqL K H a xs) (h:∀ r,H r = none → Q (.ref r) (upd H r (.lst (cutV xs lo hi)))):rSlL K (.ref a) lo hi H Q:=⟨a,xs,rfl,e,h⟩
theorem s_ixK (e:SqL K H a xs) (e':atI xs i = some v) (h:Q v H):rIxL K (.ref a) (.int i) H Q:=⟨a,xs,i,v,rfl,rfl,e,e',h⟩
end
end L2
namespace L2
open PySem PySem.Spec PyProof.Rows
theorem bt_len:bootBuiltins "len" = some (.builtin "len"):=by decide +kernel
theorem bt_isinstance:bootBuiltins "isinstance" = some (.builtin "isinstance"):=by decide +kernel
theorem bt_min:bootBuiltins "min" = some (.builtin "min"):=by decide +kernel
theorem bt_max:bootBuiltins "max" = some (.builtin "max"):=by decide +kernel
theorem bt_all:bootBuiltins "all" = some (.builtin "all"):=by decide +kernel
theorem bt_bool:bootBuiltins "bool" = some (.type "bool"):=by decide +kernel
theorem bt_int:bootBuiltins "int" = some (.type "int"):=by decide +kernel
theorem bt_list:bootBuiltins "list" = some (.type "list"):=by decide +kernel
theorem bt_dict:bootBuiltins "dict" = some (.type "dict"):=by decide +kernel
theorem bt_range:bootBuiltins "range" = some (.type "range"):=by decide +kernel
end L2
namespace L2
theorem iteNT {A B:Prop} (h:B):if (!true) = true then A else B:=h
theorem iteNF {A B:Prop} (h:A):if (!false) = true then A else B:=h
end L2
namespace L2
open PySem PySem.Spec PyProof.Rows
theorem pa_str {X:Cx} {x:Str} {j:Nat} {pos:Pos} {es:List Expr} {t:TA} (h:PA X es t):PA X (.Constant (.str x) j pos :: es) (tCons (tC (.str x)) t):=pa_cons pe_str h rfl
end L2
set_option maxHeartbeats 4000000
namespace L2
open PySem PySem.Spec PyProof.Rows
theorem compLoop_G {prog:Program} {w:World} {A:Around} {R:Result → Shared → Prop} {s:Shared} {elt target iter:Expr} {ifs:List Expr} {scope:Scope} {pos:Pos} {it acc:Value} {env:Env} (I:Nat → Shared → Prop)
    (turn:∀ n s,I n s → wpAny (model prog w) A (pyNext it) (fun r s₁ => match r with
      | none => R (.ok .next) s₁
      | some v => wpAny (model prog w) A (letOwnedTupleGo target it v) (fun _ s₁' => wpAny (model prog w) A (assign target env v) (fun _ s₂ =>
          wpAny (model prog w) A (forIn ifs true fun c r => if r = true then do let ok ← isTrue c env (eval c env); pure (ForInStep.yield ok) else pure (ForInStep.yield r)) (fun ok s₃ =>
            if ok = true then wpAny (model prog w) A (eval elt env) (fun x s₄ =>
              wpAny (model prog w) A (call (.builtin "list.append") [acc,x]) (fun _ s₅ => ∃ m,m < n ∧ I m s₅) (fun _ _ => False) s₄) (fun _ _ => False) s₃
            else ∃ m,m < n ∧ I m s₃) (fun _ _ => False) s₂) (fun _ _ => False) s₁') (fun _ _ => False) s₁) (fun _ _ => False) s)
    (n:Nat) (h:I n s) :
    codeAny (model prog w) A (.compLoop (.ListComp elt [⟨target,iter,ifs,0⟩] scope pos) 0 it acc env) R s:=by
  refine codeAny_loop rfl I (fun n s hI => ?_) n h
  show wpAny _ A ((compTurn (.ListComp elt [⟨target,iter,ifs,0⟩] scope pos) 0 it acc env).onRaise (fun x => do noteFrame x env; theTreesLotGoes x)) _ _ s
  refine wpAny_noted ?_
  rw [compTurn_list]
  refine wpAny_bind (wpAny_standAt (wpAny_bind (wpAny_mono (turn n s hI) (fun r s₁ h₁ => ?_) fun _ _ h' => h'.elim)))
  cases r with
  | none => exact wpAny_pure h₁
  | some v =>
    refine wpAny_bind (wpAny_mono h₁ (fun _ s₁' h₁' => ?_) fun _ _ h' => h'.elim)
    refine wpAny_bind (wpAny_mono h₁' (fun _ s₂ h₂ => wpAny_bind (wpAny_mono h₂ (fun ok s₃ h₃ => ?_) fun _ _ h' => h'.elim)) fun _ _ h' => h'.elim)
    cases ok with
    | false => exact wpAny_pure ⟨rfl,h₃⟩
    | true =>
      exact wpAny_bind (wpAny_bind (wpAny_mono h₃ (fun x s₄ h₄ => wpAny_bind (wpAny_mono h₄ (fun _ s₅ h₅ => wpAny_pure (wpAny_pure ⟨rfl,h₅⟩)) fun _ _ h' => h'.elim)) fun _ _ h' => h'.elim))
def cxC (X:Cx) (N:List Str) (scope:Scope) (cl:List (Str × Addr)) (C:Addr) (s₀:Shared) (H₀:Hp) (ex:List Addr):Cx :=
  { prog:=X.prog,w:=X.w,K:=X.K,mg:=X.mg,base:=X.base,A:=X.A,N:=N,s₀:=s₀,H₀:=H₀,env:=compEnvC scope cl C X.env,outer:=X.stack,stack:=X.stack,ex:=ex,fn:=fun _ => false,calm:=X.calm,pn:=[],xe:=fun _ _ => False }
structure ClOk (X:Cx) (N:List Str) (scope:Scope) (cl:List (Str × Addr)) (vals:St → St):Prop where
  clos:closureFor scope X.env = pure cl
  sub:∀ x c,cl.lookup x = some c → X.env.cells.lookup x = some c
  has:∀ x,((relabel scope X.env).names.lookup x = some .cell ∨ (relabel scope X.env).names.lookup x = some .free) → ∃ c,cl.lookup x = some c
  len:∀ σ,(vals σ).length = N.length
  val:∀ σ (i:Nat) x v,N[i]? = some x → (vals σ)[i]? = some (some v) → ∃ (j:Nat),X.N[j]? = some x ∧ σ[j]? = some (some v) ∧ X.env.scope.names.lookup x = some .cell ∧ (∃ c,cl.lookup x = some c) ∧ (relabel scope X.env).names.lookup x = some .cell
def PF (X:Cx) (ifs:List Expr) (t:TT):Prop:=∀ (pins:List (Addr × Obj)) (s:Shared) (σ:St) (H:Hp) (Q:Bool → Hp → Prop),Inv X pins σ H s → t σ H Q →
  wpAny (model X.prog X.w) X.A (forIn ifs true fun c r => if r = true then do let ok ← isTrue c X.env (eval c X.env); pure (ForInStep.yield ok) else pure (ForInStep.yield r)) (TP X pins σ Q) X.xe s
def tYes:TT:=fun _ H Q => Q true H
theorem pf_nil {X:Cx}:PF X [] tYes:=fun pins s σ H Q I q => wpAny_tests_nil ⟨H,I,q⟩
theorem pf_one {X:Cx} {c:Expr} {t:TT} (h:PT X c t):PF X [c] t:=fun pins s σ H Q I q => wpAny_tests_one (h pins s σ H Q I q)
section
variable {X:Cx} {pins:List (Addr × Obj)} {σ:St} {H2:Hp} {s2:Shared} {N:List Str} {scope:Scope} {cl:List (Str × Addr)} {vals:St → St} {C:Addr} {fp:List Addr}
theorem comp_start {h1:Heap} {t1:Nat} (I:Inv X pins σ H2 s2) (ck:ClOk X N scope cl vals) (hkind:scope.kind = .function) (hf:∀ b ∈ fp,FpOk X pins H2 b) (hlt:∀ b ∈ fp,b < s2.heap.objs.size)
    (hns:h1.Ns s2.heap.objs.size fun _ => none) (hsb:Heap.SameBut s2.heap.objs.size (s2.heap.push { cls:=.type "dict",data:=.dict #[] }) h1) :
    Inv (cxC X N scope cl s2.heap.objs.size s2 H2 fp) [] (vals σ) H2 { s2 with heap:=h1,toks:=t1 }:=by
  have old:∀ b o,s2.heap.get? b = some o → h1.get? b = some o:=fun b o e => (hsb.2 b (Nat.ne_of_lt (Heap.lt_size e))).trans (Heap.get?_push_of_some _ e)
  have hC:H2 s2.heap.objs.size = none:=I.hok.fresh (Nat.le_refl _)
  refine ⟨⟨I.ok.mod,hkind,I.ok.glob,I.ok.blt,Nat.le_refl _,fun x y c h1 h2 => I.ok.inj x y c (ck.sub x c h1) (ck.sub y c h2),ck.has,(fun x c h => nomatch h),I.ok.hd,I.ok.frames,.inl rfl,fun b hb => ⟨Nat.ne_of_lt (hlt b hb),fun x c e => (hf b hb).2.2.2.2.1 x c (ck.sub x c e)⟩,
    I.bs,Nat.le_trans I.ok.bsz I.sz,fun b o e hb => ?_,fun b hb hs => ?_,I.stack,I.stkFree⟩,rfl,I.bare,Un.kept old,⟨_,hns,fun i x v e1 e2 _ => ?_⟩,fun x c e => ?_,hC,fun x c e => I.freeC x c (ck.sub x c e),fun p hp => absurd (show p ∈ ([]:List (Addr × Obj)) from hp) (by simp),I.hok.kept old,ck.len σ⟩
  · rcases (hf b hb).2.2.2.1 with z | z
    · exact I.ok.noex b o e z
    · exact absurd (Nat.lt_of_lt_of_le (Heap.lt_size e) (Nat.le_trans I.ok.bsz z)) (Nat.lt_irrefl _)
  · rcases List.mem_cons.mp (I.stkSub b hs) with z | z
    · exact (hf b hb).2.1 z
    · exact (hf b hb).2.2.1 z
  · obtain ⟨j,h1,h2,h3,⟨c,h4⟩,h5⟩:=ck.val σ i x v e1 e2
    obtain ⟨m,hn,hl⟩:=I.loc
    obtain ⟨u,r,l⟩:=hl j x v h1 h2 (.inr (.inl h3))
    refine ⟨u,r,.inr ⟨.inl h5,c,h4,?_⟩⟩
    rcases l with ⟨z,_⟩ | ⟨_,c',e',z⟩
    · have z':X.env.scope.names.lookup x = some .local:=z
      rw [h3] at z'; cases z'
    · rw [ck.sub x c h4] at e'
      cases e'
      obtain ⟨o,ho,hd⟩:=z
      exact ⟨o,old _ o ho,hd⟩
  · obtain ⟨v,o,ho,hd⟩:=I.cell x c (ck.sub x c e)
    exact ⟨v,o,old _ o ho,hd⟩
theorem comp_back {σ':St} {H':Hp} {s':Shared} {h'':Heap} {pins':List (Addr × Obj)} (I:Inv X pins σ H2 s2) (hf:∀ b ∈ fp,FpOk X pins H2 b)
    (I':Inv (cxC X N scope cl s2.heap.objs.size s2 H2 fp) pins' σ' H' s') (hsb:Heap.SameBut s2.heap.objs.size s'.heap h''):Inv X pins σ H' { s' with heap:=h'' }:=by
  have u1:Un (frs X.stack) (s2.heap.objs.size :: fp) H2 H' s2.heap s'.heap:=I'.base.mono (fun _ z => z) fun b z => List.mem_cons_of_mem _ z
  have hC:H' s2.heap.objs.size = none:=I'.free
  have k:∀ b o,b ≠ s2.heap.objs.size → s'.heap.get? b = some o → h''.get? b = some o:=fun b o hb e => (hsb.2 b hb).trans e
  have u2:Un (frs X.stack) (s2.heap.objs.size :: fp) H' H' s'.heap h'':=⟨fun b o e _ _ hx => k b o (fun z => hx (by simp [z])) e,fun b o e _ _ hx => ⟨o.slots,k b o (fun z => hx (by simp [z])) e⟩,fun _ _ _ n _ => n,
    fun b o e hx => ⟨o,k b o (fun z => hx (by simp [z])) e⟩,fun _ _ e => e,fun _ _ _ e => e,fun b ps e => ⟨#[],by rw [e]; simp⟩⟩
  have hok:HOk X.prog X.w H' h'':=fun b u e => by
    have nC:∀ c v,H' c = some v → c ≠ s2.heap.objs.size:=fun c v e z => by rw [z,hC] at e; cases e
    refine (I'.hok b u e).stay (fun c v hc q => k c v ?_ q) (fun _ q => q) fun _ _ q => q
    rcases hc with z | z
    · rw [z]; exact nC b u e
    · exact nC c _ z
  refine I.call' (s':={ s' with heap:=h'' }) (ch:=s2.heap.objs.size :: fp) I'.os (u1.trans u2) hok I'.bare fun b hb => ?_
  have q:FpOk X pins H2 b:=by
    rcases List.mem_cons.mp hb with z | z
    · subst z; exact I.fpOk (Nat.le_refl _) (I.hok.fresh (Nat.le_refl _))
    · exact hf b z
  exact ⟨q.2.2.2.1,q.2.1,q.2.2.2.2.1,q.2.2.2.2.2⟩
end
def Wk (σ0 σ:St):Prop:=σ0.length = σ.length ∧ ∀ (i:Nat) v,σ0[i]? = some (some v) → σ[i]? = some (some v)
theorem Wk.refl (σ:St):Wk σ σ:=⟨rfl,fun _ _ h => h⟩
theorem Wk.set {σ0 σ:St} {k:Nat} {v:V} (h:σ0[k]? = some none) (w:Wk σ0 σ):Wk σ0 (σ.set k (some v)):=by
  refine ⟨by rw [List.length_set]; exact w.1,fun i u e => ?_⟩
  have ne:k ≠ i:=fun z => by subst z; rw [h] at e; cases e
  rw [List.getElem?_set_ne ne]
  exact w.2 i u e
def tCompW (g:TG) (tests:TT) (te:TE) (σ0:St) (Q:VK) (J:It) (H1:Hp):Prop:=∀ D,H1 D = none → ∃ W:Nat → Nat → Hp → Prop,(∃ m,W 0 m (upd H1 D (.lst []))) ∧ ∀ i m Hc,W i m Hc →
  (J.stop i Hc ∧ Q (.ref D) Hc) ∨ (J.go i Hc ∧ ∀ x H',J.yld i Hc x H' → g x σ0 H' fun σ2 H2 => Wk σ0 σ2 ∧ tests σ2 H2 fun b H3 => if b = true then
    te σ2 H3 fun y H4 => ∃ zs,H4 D = some (.lst zs) ∧ zs.length < sizeLine ∧ ∃ m',m' < m ∧ W (i + 1) m' (upd H4 D (.lst (zs ++ [y]))) else ∃ m',m' < m ∧ W (i + 1) m' H3)
def tComp (wi:TI) (g:TG) (tests:TT) (te:TE) (vals:St → St):TE:=fun σ H Q => wi σ H fun J H1 => tCompW g tests te (vals σ) Q J H1
theorem comp_run {X:Cx} {pins:List (Addr × Obj)} {σ:St} {H2:Hp} {s2:Shared} {N:List Str} {scope:Scope} {cl:List (Str × Addr)} {vals:St → St} {fp:List Addr} {it:Addr} {tn:Nat → Heap → Prop} {J:It} {tg elt iter:Expr} {ifs:List Expr} {pos:Pos}
    {g:TG} {tests:TT} {te:TE} {Q:VK} {E:Value → Shared → Prop} {RR:Value → Addr → Result → Shared → Prop} (I2:Inv X pins σ H2 s2) (T:Turn X.prog X.w X.K tg J fp it tn) (st2:tn 0 s2.heap) (f2:∀ b ∈ fp,FpOk X pins H2 b) (hc:X.calm = true)
    (ck:ClOk X N scope cl vals) (hcell:∀ y ∈ scope.names,y.2 ≠ .cell) (hkind:scope.kind = .function)
    (hg:∀ C s₀ H₀ ex,PG (cxC X N scope cl C s₀ H₀ ex) tg g) (ht:∀ C s₀ H₀ ex,PF (cxC X N scope cl C s₀ H₀ ex) ifs tests) (he:∀ C s₀ H₀ ex,PE (cxC X N scope cl C s₀ H₀ ex) elt te)
    (h:tCompW g tests te (vals σ) Q J H2)
    (hRR:∀ D C s' H' m,s'.heap.Ns C m → Q (.ref D) H' → (∀ h'',Heap.SameBut C s'.heap h'' → Inv X pins σ H' { s' with heap:=h'' }) → FpOk X pins H' C → RR (.ref D) C (.ok .next) s') :
    wpAny (model X.prog X.w) X.A (newList []) (fun acc s₃ => wpAny (model X.prog X.w) X.A (newFunctionEnv scope X.env.globals cl [] X.env.qual none .none (some X.env)) (fun cenv s₄ =>
      codeAny (model X.prog X.w) X.A (.compStart (.ListComp elt [⟨tg,iter,ifs,0⟩] scope pos) 0 (.ref it) acc { cenv with scope:=relabel scope X.env }) (RR acc cenv.locals) s₄) E s₃) E s2:=by
  have hD:H2 s2.heap.objs.size = none:=I2.hok.fresh (Nat.le_refl _)
  obtain ⟨W,⟨m0,w0⟩,turn⟩:=h _ hD
  have hlt:∀ b ∈ fp,b < s2.heap.objs.size:=fun b hb => by
    obtain ⟨o,e,_⟩:=T.obj 0 _ st2 b hb
    exact Heap.lt_size e
  refine wpAny_newObj_type ?_
  -- the list is laid
  have I3:Inv X pins σ (upd H2 s2.heap.objs.size (.lst [])) { s2 with heap:=s2.heap.push { cls:=.type "list",dict:=none,data:=.seq ([]:List Value).toArray } } :=
    I2.lnew (ys:=[]) (its:=[]) (t':=s2.toks) .nil (Nat.zero_le _)
  have f3:∀ b ∈ fp,FpOk X pins (upd H2 s2.heap.objs.size (.lst [])) b:=fun b hb => ⟨by rw [upd_ne (Nat.ne_of_lt (hlt b hb))]; exact (f2 b hb).1,(f2 b hb).2⟩
  have st3:tn 0 (s2.heap.push { cls:=.type "list",dict:=none,data:=.seq ([]:List Value).toArray }):=T.keep _ _ _ st2 fun b _ o e => Heap.get?_push_of_some _ e
  generalize hs3:({ s2 with heap:=s2.heap.push { cls:=.type "list",dict:=none,data:=.seq ([]:List Value).toArray } }:Shared) = s3 at I3 ⊢
  have e3:s3.heap = s2.heap.push { cls:=.type "list",dict:=none,data:=.seq ([]:List Value).toArray }:=by rw [← hs3]
  rw [← e3] at st3
  have hlt3:∀ b ∈ fp,b < s3.heap.objs.size:=fun b hb => by
    obtain ⟨o,e,_⟩:=T.obj 0 _ st3 b hb
    exact Heap.lt_size e
  refine wpAny_newFunctionEnv hcell (by intro y hy; simp at hy) (fun h₁ hns₁ hsb₁ => ?_) hkind
  have hns:h₁.Ns s3.heap.objs.size fun _ => none:=hns₁
  have I4:=comp_start (t1:=s3.toks) I3 ck hkind f3 hlt3 hns hsb₁
  have old:∀ b o,s3.heap.get? b = some o → h₁.get? b = some o:=fun b o e => (hsb₁.2 b (Nat.ne_of_lt (Heap.lt_size e))).trans (Heap.get?_push_of_some _ e)
  have st4:tn 0 h₁:=T.keep _ _ _ st3 fun b _ o e => old b o e
  have loop:∀ s₄:Shared,s₄ = { s3 with heap:=h₁,toks:=s3.toks } →
      codeAny (model X.prog X.w) X.A (.compLoop (.ListComp elt [⟨tg,iter,ifs,0⟩] scope pos) 0 (.ref it) (.ref s2.heap.objs.size) (compEnvC scope cl s3.heap.objs.size X.env))
        (RR (.ref s2.heap.objs.size) s3.heap.objs.size) s₄:=by
    rintro s₄ rfl
    have fpX:∀ {H':Hp},(∀ b ∈ fp,H' b = none) → ∀ b ∈ fp,FpOk (cxC X N scope cl s3.heap.objs.size s3 (upd H2 s2.heap.objs.size (.lst [])) fp) [] H' b:=fun hn b hb =>
      ⟨hn b hb,Nat.ne_of_lt (hlt3 b hb),fun hs => I4.ok.exfs b hb hs,.inl hb,fun x c e => (I4.ok.exf b hb).2 x c e,fun p hp => absurd (show p ∈ ([]:List (Addr × Obj)) from hp) (by simp)⟩
    refine compLoop_G (fun n s' => ∃ i H',Inv (cxC X N scope cl s3.heap.objs.size s3 (upd H2 s2.heap.objs.size (.lst [])) fp) [] (vals σ) H' s' ∧ tn i s'.heap ∧ (∀ b ∈ fp,H' b = none) ∧ W i n H') ?_ m0
      ⟨0,_,I4,st4,fun b hb => (f3 b hb).1,w0⟩
    rintro n s5 ⟨i,H5,I5,st5,fr5,w5⟩
    rcases turn i n H5 w5 with ⟨stop,q⟩ | ⟨go,step⟩
    · refine thn (T.done (cxC X N scope cl s3.heap.objs.size s3 (upd H2 s2.heap.objs.size (.lst [])) fp) rfl rfl rfl hc i [] s5 (vals σ) H5 (fun _ _ => False) I5 (fpX fr5) st5 stop) fun r s6 ⟨hr,I6⟩ => ?_
      subst hr
      obtain ⟨m,hn,_⟩:=id I6.loc
      exact hRR _ _ s6 H5 m hn q (fun h'' hsb => comp_back I3 f3 I6 hsb) (I3.fpOk (Nat.le_refl _) I6.free)
    · refine thn (T.item (cxC X N scope cl s3.heap.objs.size s3 (upd H2 s2.heap.objs.size (.lst [])) fp) rfl rfl rfl hc i [] s5 (vals σ) H5 (fun _ _ => False) I5 (fpX fr5) st5 go) fun r s6 ⟨u,hr,h6⟩ => ?_
      subst hr
      refine thn h6 fun _ s7 ⟨x,H7,I7,r7,y7,st7,fr7⟩ => ?_
      have I7':=I7.pinned (fpX fr7) (T.obj _ _ st7)
      refine thn (hg _ _ _ _ _ s7 (vals σ) H7 x u _ I7' r7 (step x H7 y7)) fun _ s8 ⟨σ8,H8,I8,wk8,q8⟩ => ?_
      refine thn (ht _ _ _ _ _ s8 σ8 H8 _ I8 q8) fun b s9 ⟨H9,I9,q9⟩ => ?_
      have again:∀ {m':Nat} {s':Shared} {H':Hp},Inv (cxC X N scope cl s3.heap.objs.size s3 (upd H2 s2.heap.objs.size (.lst [])) fp) ([] ++ pinsAt fp s7.heap) σ8 H' s' → m' < n → W (i + 1) m' H' →
          ∃ m,m < n ∧ ∃ i H',Inv (cxC X N scope cl s3.heap.objs.size s3 (upd H2 s2.heap.objs.size (.lst [])) fp) [] (vals σ) H' s' ∧ tn i s'.heap ∧ (∀ b ∈ fp,H' b = none) ∧ W i m H':=fun {m' s' H'} J7 hm w7 => by
        refine ⟨m',hm,i + 1,H',(J7.weak wk8.1 wk8.2).unpinned,T.keep _ _ _ st7 fun b hb o e => (J7.pin (b,o) (List.mem_append_right _ (List.mem_append_right _ (mem_pinsAt hb e)))).1,fun b hb => ?_,w7⟩
        obtain ⟨o,e,d⟩:=T.obj _ _ st7 b hb
        exact (J7.pin (b,o) (List.mem_append_right _ (List.mem_append_right _ (mem_pinsAt hb e)))).2.1
      cases b with
      | true =>
        rw [if_pos rfl] at q9 ⊢
        refine thn (he _ _ _ _ _ s9 σ8 H9 _ I9 q9) fun v s10 ⟨y,H10,I10,r10,zs,hz,hl,m',hm,w10⟩ => ?_
        have ap:=mt_append ([] ++ pinsAt fp s7.heap) s10 σ8 H10 (.ref s2.heap.objs.size) [y] (.ref s2.heap.objs.size) [v] (fun _ H' => H' = upd H10 s2.heap.objs.size (.lst (zs ++ [y]))) I10 rfl (.cons r10 .nil) ⟨_,_,_,rfl,rfl,hz,hl,rfl⟩
        refine thn ap fun _ s11 ⟨_,H11,I11,_,e11⟩ => ?_
        subst e11
        exact again I11 hm w10
      | false =>
        rw [if_neg Bool.false_ne_true] at q9 ⊢
        obtain ⟨m',hm,w9⟩:=q9
        exact again I9 hm w9
  exact codeAny_compStart_list (loop _ rfl) (T.self _ 0 _ _ _ st4 (loop _ rfl))
section
variable {X:Cx} {N:List Str} {scope:Scope} {cl:List (Str × Addr)} {vals:St → St} {tg elt iter:Expr} {ifs:List Expr} {pos spos py:Pos} {wi:TI} {g:TG} {tests:TT} {te:TE}
theorem pe_comp (hc:X.calm = true) (hi:PI X tg iter wi) (ck:ClOk X N scope cl vals) (hcell:∀ y ∈ scope.names,y.2 ≠ .cell) (hkind:scope.kind = .function) (hnames:∀ x ∈ scope.names,x.2 = .local → scope.names.lookup x.1 = some .local)
    (hg:∀ C s₀ H₀ ex,PG (cxC X N scope cl C s₀ H₀ ex) tg g) (ht:∀ C s₀ H₀ ex,PF (cxC X N scope cl C s₀ H₀ ex) ifs tests) (he:∀ C s₀ H₀ ex,PE (cxC X N scope cl C s₀ H₀ ex) elt te)
    (hs:∀ x,foldedSetIterable iter X.env x = pure x:=by intro _; rfl):PE X (.ListComp elt [⟨tg,iter,ifs,0⟩] scope pos) (tComp wi g tests te vals):=by
  intro pins s σ H Q I h
  rw [eval_ListComp]
  refine wpAny_comprehension_free (use:=none) rfl hs ck.clos hkind hnames (thn (hi pins s σ H _ I h) fun v s1 h1 => thn h1 fun itv s2 h2 => ?_)
  obtain ⟨it,fp,tn,J,H2,e,I2,T,st2,f2,q⟩:=h2
  subst e
  refine comp_run (RR:=fun acc C => compPost (model X.prog X.w) X.A X.xe none (EP X pins σ Q) acc C) I2 T st2 f2 hc ck hcell hkind hg ht he q fun D C s' H' m hn q' back _ => ?_
  exact ⟨m,hn,fun h'' hsb => ⟨.ref D,H',back h'' hsb,rfl,q'⟩⟩
theorem ps_setC {i:Nat} {x:Str} (hN:X.N.Nodup) (hix:X.N[i]? = some x) (hx:Loc X.env.scope x) (hc:X.calm = true) (hi:PI X tg iter wi) (ck:ClOk X N scope cl vals) (hcell:∀ y ∈ scope.names,y.2 ≠ .cell) (hkind:scope.kind = .function)
    (hnames:∀ x ∈ scope.names,x.2 = .local → scope.names.lookup x.1 = some .local)
    (hg:∀ C s₀ H₀ ex,PG (cxC X N scope cl C s₀ H₀ ex) tg g) (ht:∀ C s₀ H₀ ex,PF (cxC X N scope cl C s₀ H₀ ex) ifs tests) (he:∀ C s₀ H₀ ex,PE (cxC X N scope cl C s₀ H₀ ex) elt te)
    (hsw:swapsWith (.ListComp elt [⟨tg,iter,ifs,0⟩] scope pos) (some (.Name x py)) spos.line X.env = pure true:=by rfl)
    (hf:X.fn x = true ∨ X.env.scope.names.lookup x = some .local:=by first | exact .inl rfl | exact .inr rfl | assumption)
    (hs:∀ x,foldedSetIterable iter X.env x = pure x:=by intro _; rfl):PS X (.Assign [.Name x py] (.ListComp elt [⟨tg,iter,ifs,0⟩] scope pos) spos) (tAsg (tComp wi g tests te vals) (gName i)):=by
  intro pins s σ H D I h
  rw [exec_Assign_Name_used _ _ _ _ hsw]
  refine wpAny_bind (wpAny_standAt (wpAny_bind ?_))
  show wpAny _ X.A (do let _ ← comprehension (.ListComp elt [⟨tg,iter,ifs,0⟩] scope pos) scope X.env _ (newList []) false (eval iter X.env) (some (assign (.Name x py) X.env))) _ _ s
  refine wpAny_bind (wpAny_mono (wpAny_comprehension_free (use:=some (assign (.Name x py) X.env)) (Q:=fun _ s' => SP X pins D .next s') rfl hs ck.clos hkind hnames
    (thn (hi pins s σ H _ I h) fun v s1 h1 => thn h1 fun itv s2 h2 => ?_)) (fun _ s' hq => wpAny_pure (wpAny_pure hq)) fun _ _ e => e)
  obtain ⟨it,fp,tn,J,H2,e,I2,T,st2,f2,q⟩:=h2
  subst e
  refine comp_run (RR:=fun acc C => compPost (model X.prog X.w) X.A X.xe (some (assign (.Name x py) X.env)) (fun _ s' => SP X pins D .next s') acc C) I2 T st2 f2 hc ck hcell hkind hg ht he q fun Dl C s' H' m hn q' back fC => ?_
  show wpAny _ X.A (assign (.Name x py) X.env (.ref Dl)) _ _ s'
  have I':Inv X pins σ H' s':=back s'.heap (Heap.SameBut.refl ..)
  refine wpAny_assign_Name (store_ok2 I' hN hix hx (v:=.ref Dl) rfl (fun s'' I'' hsb => ?_) hf)
  obtain ⟨a,hsb,ha⟩:=hsb
  have hCa:C ≠ a:=by
    rcases ha with z | z
    · rw [z]; exact fC.2.1
    · exact fun e => fC.2.2.2.2.1 x a z e.symm
  refine ⟨m,hn.sameBut hsb hCa,fun h3 hsb3 => ?_⟩
  exact ⟨σ.set i (some (.ref Dl)),H',I''.turned (t':=s''.toks) (fun b o hb e => (hsb3.2 b hb).trans e) fC.1 fC.2.1 fC.2.2.2.1 fC.2.2.2.2.1 fC.2.2.2.2.2,q'⟩
theorem clOk0 (hfree:∀ x ∈ scope.names,x.2 ≠ .free) (hcell:∀ y ∈ scope.names,y.2 ≠ .cell):ClOk X N scope [] (fun _ => N.map fun _ => none) where
  clos:=closureFor_none hfree
  sub:=fun x c h => nomatch h
  has:=fun x h => by
    have e:(relabel scope X.env).names = scope.names:=by
      show List.map _ scope.names = scope.names
      refine map_eq_self fun y hy => ?_
      obtain ⟨n,k⟩:=y
      have:(k == NameKind.free) = false:=by simpa using hfree _ hy
      simp [this]
    rw [e] at h
    rcases h with h | h
    · exact absurd rfl (hcell _ (PySem.mem_of_lookup h))
    · exact absurd rfl (hfree _ (PySem.mem_of_lookup h))
  len:=fun σ => by simp
  val:=fun σ i x v h1 h2 => by
    rw [List.getElem?_map] at h2
    cases e:N[i]? with
    | none => rw [e] at h2; cases h2
    | some y => rw [e] at h2; cases h2
end
section
variable {g:TG} {tests:TT} {te:TE} {σ0:St} {Q:VK} {H1:Hp}
theorem cw_pure {J:It} {xs:List V} {ok:Hp → Prop} (f:V → Option V) (hgo:∀ (i:Nat) H,ok H → i < xs.length → J.go i H) (hst:∀ H,ok H → J.stop xs.length H) (hy:∀ (i:Nat) H x H',ok H → J.yld i H x H' → H' = H ∧ xs[i]? = some x)
    (hok:∀ D ys,H1 D = none → ok (upd H1 D (.lst ys))) (hlen:xs.length < sizeLine)
    (hs:∀ (i:Nat) x Hc (A:VK) (B:Hp → Prop),xs[i]? = some x → ok Hc → (match f x with | some y => A y Hc | none => B Hc) → g x σ0 Hc fun σ2 H2 => Wk σ0 σ2 ∧ tests σ2 H2 fun b H3 => if b = true then te σ2 H3 A else B H3)
    (fin:∀ D,H1 D = none → Q (.ref D) (upd H1 D (.lst (xs.filterMap f)))):tCompW g tests te σ0 Q J H1:=by
  intro D hD
  refine ⟨fun i m Hc => m = xs.length - i ∧ i ≤ xs.length ∧ Hc = upd H1 D (.lst ((xs.take i).filterMap f)),⟨xs.length,by simp,Nat.zero_le _,by simp⟩,?_⟩
  rintro i m Hc ⟨rfl,hi,rfl⟩
  by_cases hlt:i < xs.length
  · refine .inr ⟨hgo i _ (hok D _ hD) hlt,fun x H' y => ?_⟩
    obtain ⟨e,hx⟩:=hy i _ x H' (hok D _ hD) y
    subst e
    refine hs i x _ _ _ hx (hok D _ hD) ?_
    have tk:xs.take (i + 1) = xs.take i ++ [x]:=by rw [List.take_add_one,hx]; rfl
    cases e:f x with
    | some y =>
      refine ⟨_,upd_same,?_,xs.length - (i + 1),by omega,rfl,hlt,?_⟩
      · have:=List.length_filterMap_le f (xs.take i)
        rw [List.length_take] at this
        omega
      · rw [upd_upd,tk,List.filterMap_append]
        simp [e]
    | none =>
      refine ⟨xs.length - (i + 1),by omega,rfl,hlt,?_⟩
      rw [tk,List.filterMap_append]
      simp [e]
  · have e:i = xs.length:=by omega
    subst e
    rw [List.take_length]
    exact .inl ⟨hst _ (hok D _ hD),fin D hD⟩
theorem cw_str {z:Str} (f:Nat → Option V) (hl:z.length < sizeLine)
    (hs:∀ (i:Nat) c Hc (A:VK) (B:Hp → Prop),z.cps.toList[i]? = some c → (match f c with | some y => A y Hc | none => B Hc) → g (.str ⟨#[c]⟩) σ0 Hc fun σ2 H2 => Wk σ0 σ2 ∧ tests σ2 H2 fun b H3 => if b = true then te σ2 H3 A else B H3)
    (fin:∀ D,H1 D = none → Q (.ref D) (upd H1 D (.lst (z.cps.toList.filterMap f)))):tCompW g tests te σ0 Q (Its z) H1:=by
  have hz:z.cps.toList.length = z.length:=by simp [Str.length]
  have hz2:z.cps.size = z.length:=rfl
  refine cw_pure (xs:=z.cps.toList.map fun c => .str ⟨#[c]⟩) (ok:=fun _ => True) (fun x => match x with | .str y => f (y.cps.toList.headD 0) | _ => none) (fun i H _ h => ?_) (fun H _ => ?_) (fun i H x H' _ y => ?_) (fun _ _ _ => trivial) (by rw [List.length_map,hz]; exact hl) (fun i x Hc A B hx _ h => ?_) (fun D hD => ?_)
  · rw [List.length_map,hz] at h; exact h
  · show z.cps.size ≤ _
    rw [List.length_map,hz]; exact Nat.le_refl _
  · obtain ⟨e,c,hc,hx⟩:=y
    refine ⟨e,?_⟩
    rw [List.getElem?_map,Array.getElem?_toList,hc,hx]; rfl
  · rw [List.getElem?_map] at hx
    cases e:z.cps.toList[i]? with
    | none => rw [e] at hx; cases hx
    | some c => rw [e] at hx; cases hx; exact hs i c Hc A B e h
  · have q:=fin D hD
    rw [List.filterMap_map]
    exact q
theorem cw_list {K:PySem.W.Frag} {a:Addr} {xs:List V} (f:V → Option V) (ha:rdL H1 a = some xs) (hl:xs.length < sizeLine)
    (hs:∀ (i:Nat) x Hc (A:VK) (B:Hp → Prop),xs[i]? = some x → (∀ p ys,rdL H1 p = some ys → rdL Hc p = some ys) → (match f x with | some y => A y Hc | none => B Hc) → g x σ0 Hc fun σ2 H2 => Wk σ0 σ2 ∧ tests σ2 H2 fun b H3 => if b = true then te σ2 H3 A else B H3)
    (fin:∀ D,H1 D = none → Q (.ref D) (upd H1 D (.lst (xs.filterMap f)))):tCompW g tests te σ0 Q (Itl K a) H1:=by
  refine cw_pure (xs:=xs) (ok:=fun H => ∀ p ys,rdL H1 p = some ys → rdL H p = some ys) f (fun i H o h => ⟨xs,xs[i],rdL_sq (o a xs ha),by simp [h]⟩) (fun H o => ⟨xs,rdL_sq (o a xs ha),Nat.le_refl _⟩) (fun i H x H' o y => ⟨y.1,y.2 xs (rdL_sq (o a xs ha))⟩)
    (fun D ys hD p zs hp => ?_) hl (fun i x Hc A B hx o h => hs i x Hc A B hx o h) fin
  rw [rdL_ne (rdL_fresh hp hD)]
  exact hp
end
theorem s_comp {wi:TI} {g:TG} {tests:TT} {te:TE} {vals:St → St} {σ:St} {H:Hp} {Q:VK} (h:wi σ H fun J H1 => tCompW g tests te (vals σ) Q J H1):tComp wi g tests te vals σ H Q:=h
theorem s_yes {σ:St} {H:Hp} {Q:Bool → Hp → Prop} (h:Q true H):tYes σ H Q:=h
theorem cut_ints (ns:List Int) (lo hi:Option Int):∃ ms:List Int,cutV (ns.map V.int) lo hi = ms.map V.int ∧ (∀ m ∈ ms,m ∈ ns) ∧ ms.length ≤ ns.length:=by
  refine ⟨(ns.drop (HT.sIx ns.length 0 lo)).take (HT.sIx ns.length ns.length hi - HT.sIx ns.length 0 lo),?_,fun m h => List.mem_of_mem_drop (List.mem_of_mem_take h),?_⟩
  · unfold cutV
    rw [List.length_map,List.map_take,List.map_drop]
  · rw [List.length_take,List.length_drop]; omega
end L2
set_option maxHeartbeats 4000000
namespace L2
open PySem PySem.Spec PyProof.Rows
def clF (env:Env):List (Str × NameKind) → List (Str × Addr) → List (Str × Addr)
  | [],acc => acc
  | (n,k) :: r,acc => if k == .free then clF env r ((n,(env.cells.lookup n).getD 0) :: acc) else clF env r acc
def valsF (ix:List (Option Nat)):St → St:=fun σ => ix.map fun o => match o with | none => none | some j => (σ[j]?).join
def chkF (N XN:List Str) (sn dn:List (Str × NameKind)) (ix:List (Option Nat)):Bool :=
  ix.length == N.length && (sn.all fun y => y.2 != .cell && (y.2 != .free || dn.lookup y.1 == some .cell)) && decide ((sn.map (·.1)).Nodup) &&
  ((List.range N.length).all fun i => match ix[i]? with | some (some j) => N[i]? == XN[j]? && (match N[i]? with | some x => sn.lookup x == some .free | none => false) | _ => true)
theorem clos_go {env:Env}:∀ (names:List (Str × NameKind)) (acc:List (Str × Addr)),(∀ y ∈ names,y.2 = .free → ∃ c,env.cells.lookup y.1 = some c) →
    (forIn names acc (fun (x:Str × NameKind) (cs:List (Str × Addr)) => (match x with
      | (name,kind) => if (kind == NameKind.free) = true then do
          let a ← cellOf env name
          pure (ForInStep.yield ((name,a) :: cs))
        else pure (ForInStep.yield cs):Sem (ForInStep (List (Str × Addr)))))) = (pure (clF env names acc):Sem (List (Str × Addr)))
  | [],acc,_ => rfl
  | (n,k) :: r,acc,h => by
    rw [List.forIn_cons]
    unfold clF
    cases e:k == NameKind.free with
    | false =>
      simp only [e,Bool.false_eq_true,if_false,pure_bind]
      exact clos_go r acc fun y hy => h y (List.mem_cons_of_mem _ hy)
    | true =>
      obtain ⟨c,hc⟩:=h (n,k) List.mem_cons_self (by simpa using e)
      have hc':env.cells.lookup n = some c:=hc
      simp only [e,if_true,cellOf,hc',Option.getD_some,pure_bind]
      exact clos_go r _ fun y hy => h y (List.mem_cons_of_mem _ hy)
theorem clF_mem {env:Env}:∀ (names:List (Str × NameKind)) (acc:List (Str × Addr)) {x:Str} {c:Addr},(clF env names acc).lookup x = some c →
    acc.lookup x = some c ∨ ((x,NameKind.free) ∈ names ∧ c = (env.cells.lookup x).getD 0)
  | [],acc,x,c,h => .inl h
  | (n,k) :: r,acc,x,c,h => by
    unfold clF at h
    cases e:k == NameKind.free with
    | false =>
      rw [e] at h
      rcases clF_mem r acc (by simpa using h) with z | ⟨z,q⟩
      · exact .inl z
      · exact .inr ⟨List.mem_cons_of_mem _ z,q⟩
    | true =>
      rw [e] at h
      have ek:k = .free:=by simpa using e
      rcases clF_mem r _ (by simpa using h) with z | ⟨z,q⟩
      · rw [List.lookup_cons] at z
        cases ex:x == n with
        | true =>
          rw [ex] at z
          have exn:x = n:=by simpa using ex
          subst exn; subst ek
          cases z
          exact .inr ⟨List.mem_cons_self,rfl⟩
        | false => rw [ex] at z; exact .inl z
      · exact .inr ⟨List.mem_cons_of_mem _ z,q⟩
theorem clF_acc {env:Env}:∀ (names:List (Str × NameKind)) (acc:List (Str × Addr)) {x:Str},(acc.lookup x).isSome = true → ((clF env names acc).lookup x).isSome = true
  | [],acc,x,h => h
  | (n,k) :: r,acc,x,h => by
    unfold clF
    split
    · refine clF_acc r _ ?_
      rw [List.lookup_cons]
      cases ex:x == n with
      | true => rfl
      | false => exact h
    · exact clF_acc r acc h
theorem clF_has {env:Env}:∀ (names:List (Str × NameKind)) (acc:List (Str × Addr)) {x:Str},(x,NameKind.free) ∈ names → ((clF env names acc).lookup x).isSome = true
  | (n,k) :: r,acc,x,h => by
    unfold clF
    rcases List.mem_cons.mp h with z | z
    · cases z
      simp only [beq_self_eq_true,if_true]
      refine clF_acc r _ ?_
      rw [List.lookup_cons,beq_self_eq_true]
      rfl
    · split
      · exact clF_has r _ z
      · exact clF_has r acc z
theorem lookup_rel {env:Env} {x:Str}:∀ {names:List (Str × NameKind)} {k':NameKind},(names.map fun (n,k) => if (k == NameKind.free && env.scope.kind == .function && env.kindOf n == some .cell) then (n,NameKind.cell) else (n,k)).lookup x = some k' →
    ∃ k,(x,k) ∈ names ∧ (k' = k ∨ (k = .free ∧ k' = .cell))
  | [],_,h => by simp at h
  | (n,k) :: r,k',h => by
    rw [List.map_cons] at h
    dsimp only at h
    cases hc:(k == NameKind.free && env.scope.kind == .function && env.kindOf n == some .cell) with
    | true =>
      rw [hc,if_pos rfl,List.lookup_cons] at h
      cases ex:x == n with
      | true =>
        rw [ex] at h
        cases h
        have:x = n:=by simpa using ex
        subst this
        have hk:k = .free:=by
          have:=(Bool.and_eq_true _ _).mp hc
          have:=(Bool.and_eq_true _ _).mp this.1
          simpa using this.1
        exact ⟨k,List.mem_cons_self,.inr ⟨hk,rfl⟩⟩
      | false =>
        rw [ex] at h
        obtain ⟨k1,h1,h2⟩:=lookup_rel h
        exact ⟨k1,List.mem_cons_of_mem _ h1,h2⟩
    | false =>
      rw [hc,if_neg Bool.false_ne_true,List.lookup_cons] at h
      cases ex:x == n with
      | true =>
        rw [ex] at h
        cases h
        have:x = n:=by simpa using ex
        subst this
        exact ⟨k,List.mem_cons_self,.inl rfl⟩
      | false =>
        rw [ex] at h
        obtain ⟨k1,h1,h2⟩:=lookup_rel h
        exact ⟨k1,List.mem_cons_of_mem _ h1,h2⟩
theorem lookup_free {env:Env} {x:Str} (hk:env.scope.kind = .function) (hx:env.kindOf x = some .cell):∀ {names:List (Str × NameKind)},names.lookup x = some .free →
    (names.map fun (n,k) => if (k == NameKind.free && env.scope.kind == .function && env.kindOf n == some .cell) then (n,NameKind.cell) else (n,k)).lookup x = some .cell
  | [],h => by simp at h
  | (n,k) :: r,h => by
    rw [List.map_cons]
    dsimp only
    rw [List.lookup_cons] at h
    cases ex:x == n with
    | true =>
      rw [ex] at h
      cases h
      have:x = n:=by simpa using ex
      subst this
      rw [hk,hx]
      simp [List.lookup_cons]
    | false =>
      rw [ex] at h
      have ih:=lookup_free hk hx h
      split <;> (rw [List.lookup_cons,ex]; exact ih)
theorem clOkF {X:Cx} {N:List Str} {scope:Scope} (XN:List Str) (sc:Scope) (ix:List (Option Nat)) (hN:X.N = XN) (hsc:X.env.scope = sc) (hk:sc.kind = .function)
    (hcs:∀ x,sc.names.lookup x = some .cell → ∃ c,X.env.cells.lookup x = some c) (c:chkF N XN scope.names sc.names ix = true):ClOk X N scope (clF X.env scope.names []) (valsF ix):=by
  unfold chkF at c
  simp only [Bool.and_eq_true,decide_eq_true_eq,List.all_eq_true,beq_iff_eq] at c
  obtain ⟨⟨⟨c0,c1⟩,c2⟩,c3⟩:=c
  have fr:∀ y,(y,NameKind.free) ∈ scope.names → sc.names.lookup y = some .cell:=fun y hy => by
    have z:=(c1 _ hy).2
    simpa using z
  have nocell:∀ y,(y,NameKind.cell) ∉ scope.names:=fun y hy => by
    have z:=(c1 _ hy).1
    simp at z
  refine ⟨?_,fun x c h => ?_,fun x h => ?_,fun σ => ?_,fun σ i x v h1 h2 => ?_⟩
  · unfold closureFor
    simp only [bind_pure]
    exact clos_go scope.names [] fun y hy hf => hcs y.1 (fr y.1 (by rw [← hf]; exact hy))
  · rcases clF_mem _ _ h with z | ⟨z,q⟩
    · simp at z
    · obtain ⟨c',e⟩:=hcs x (fr x z)
      rw [q,e]; rfl
  · have:∃ k,(x,k) ∈ scope.names ∧ k = .free:=by
      rcases h with h | h
      · obtain ⟨k,h1,h2⟩:=lookup_rel h
        rcases h2 with z | ⟨z,_⟩
        · subst z; exact absurd h1 (nocell x)
        · exact ⟨k,h1,z⟩
      · obtain ⟨k,h1,h2⟩:=lookup_rel h
        rcases h2 with z | ⟨z,z2⟩
        · exact ⟨k,h1,z.symm⟩
        · exact ⟨k,h1,z⟩
    obtain ⟨k,h1,rfl⟩:=this
    exact Option.isSome_iff_exists.mp (clF_has scope.names [] h1)
  · unfold valsF
    rw [List.length_map,c0]
  · unfold valsF at h2
    rw [List.getElem?_map] at h2
    cases e:ix[i]? with
    | none => rw [e] at h2; cases h2
    | some o =>
      rw [e] at h2
      cases o with
      | none => cases h2
      | some j =>
        have hi:i < N.length:=(List.getElem?_eq_some_iff.mp h1).1
        have z:=c3 i (List.mem_range.mpr hi)
        rw [e,h1] at z
        simp only [Bool.and_eq_true,beq_iff_eq] at z
        have hv:σ[j]? = some (some v):=by
          have h3:(σ[j]?).join = some v:=by simpa using h2
          cases e2:σ[j]? with
          | none => rw [e2] at h3; cases h3
          | some o => rw [e2] at h3; cases o with
            | none => cases h3
            | some u => cases h3; rfl
        have hm:(x,NameKind.free) ∈ scope.names:=PySem.mem_of_lookup z.2
        have hx:=fr x hm
        refine ⟨j,by rw [hN]; exact z.1.symm,hv,by rw [hsc]; exact hx,Option.isSome_iff_exists.mp (clF_has scope.names [] hm),?_⟩
        exact lookup_free (by rw [hsc]; exact hk) (by show X.env.scope.names.lookup x = _; rw [hsc]; exact hx) z.2
end L2
set_option maxHeartbeats 4000000
namespace L2
open PySem PySem.Spec PyProof.Rows
open PySem.AutoSeq1 (wpAny_loadPart')
section
variable {prog:Program} {w:World} {A:Around} {E:Value → Shared → Prop} {s:Shared}
end
theorem draws_shift {prog:Program} {w:World} {A:Around} {it:Addr} {fp:List Addr} {n:Nat} {P:Nat → Value → Prop} {S:Nat → Heap → Prop} (k:Nat) (D:Draws prog w A it fp n P S) :
    Draws prog w A it fp (k + n) (fun j v => P (j - k) v) (fun j h => k ≤ j ∧ S (j - k) h) where
  live:=fun i h st => D.live _ h st.2
  frame:=fun i h h' st kk => ⟨st.1,D.frame _ h h' st.2 kk⟩
  item:=fun i s Q E hi st hQ => D.item (i - k) s Q E (by have:=st.1; omega) st.2 fun x h' tk hP hS sb => hQ x h' tk hP ⟨by have:=st.1; omega,by rw [show i + 1 - k = i - k + 1 by have:=st.1; omega]; exact hS⟩ sb
  done:=fun s Q E st hE => D.done s Q E (by have q:=st.2; rwa [show k + n - k = n by omega] at q) hE
section
variable {X:Cx} {pins:List (Addr × Obj)} {σ:St} {H:Hp} {s:Shared} {h':Heap}
theorem Inv.turnLaid {ch:List Addr} {a:Addr} {o:HO} {t':Nat} (I:Inv X pins σ H s) (hch:∀ b ∈ ch,FpOk X pins H b) (k:∀ b u,b ∉ ch → s.heap.get? b = some u → h'.get? b = some u) (hp:s.heap.objs.size ≤ a)
    (new:ObjOk X.prog X.w (upd H a o) h' a o):Inv X pins σ (upd H a o) { s with heap:=h',toks:=t' }:=by
  have hn:=I.hok.fresh hp
  have nch:∀ b u,H b = some u → b ∉ ch:=fun b u e z => by rw [(hch b z).1] at e; cases e
  refine I.step (g':=s.gens) (d':=s.drawn) (ch:=ch) (fun b hb => ?_) (fun b o _ _ hc e _ => k b o hc e) (fun b o _ _ hc e _ => ⟨o.slots,k b o hc e⟩) (fun b o _ e n => ?_) (fun b o hc e => ⟨o,k b o hc e⟩)
    (fun b xs e => by rw [upd_ne (ne_of_none e hn)]; exact e) (fun b o u e => by rw [upd_ne (ne_of_none e hn)]; exact e) (fun b ps e => ⟨#[],by rw [upd_ne (ne_of_none e hn),e]; simp⟩) (fun m hm => ?_) (fun b u e => ?_) I.bare
  · obtain ⟨_,q1,_,q3,q4,q5⟩:=hch b hb
    exact ⟨q3,q1,q4,q5⟩
  · rw [upd_ne (Nat.ne_of_lt (Nat.lt_of_lt_of_le (Heap.lt_size e) hp))]
    exact n
  · obtain ⟨ob,es,ep,ho,r⟩:=hm
    exact ⟨ob,es,ep,k _ ob (fun z => (hch _ z).2.1 rfl) ho,r⟩
  · by_cases hb:b = a
    · subst hb
      rw [upd_same] at e
      cases e
      exact new
    · rw [upd_ne hb] at e
      refine (I.hok b u e).stay (fun c v hc q => k c v ?_ q) (fun c q => by rw [upd_ne (ne_of_none q hn)]; exact q) fun c xs q => by rw [upd_ne (ne_of_none q hn)]; exact q
      rcases hc with z | z
      · rw [z]; exact nch b u e
      · exact nch c _ z
theorem Inv.turnAll {ch:List Addr} {t':Nat} (I:Inv X pins σ H s) (hch:∀ b ∈ ch,FpOk X pins H b) (k:∀ b u,b ∉ ch → s.heap.get? b = some u → h'.get? b = some u):Inv X pins σ H { s with heap:=h',toks:=t' }:=by
  have nch:∀ b u,H b = some u → b ∉ ch:=fun b u e z => by rw [(hch b z).1] at e; cases e
  refine I.step (g':=s.gens) (d':=s.drawn) (ch:=ch) (fun b hb => ?_) (fun b o _ _ hc e _ => k b o hc e) (fun b o _ _ hc e _ => ⟨o.slots,k b o hc e⟩) (fun b o _ e n => n) (fun b o hc e => ⟨o,k b o hc e⟩)
    (fun b xs e => e) (fun b o u e => e) (fun b ps e => ⟨#[],by rw [e]; simp⟩) (fun m hm => ?_) (fun b u e => ?_) I.bare
  · obtain ⟨_,q1,_,q3,q4,q5⟩:=hch b hb
    exact ⟨q3,q1,q4,q5⟩
  · obtain ⟨ob,es,ep,ho,r⟩:=hm
    exact ⟨ob,es,ep,k _ ob (fun z => (hch _ z).2.1 rfl) ho,r⟩
  · refine (I.hok b u e).stay (fun c v hc q => k c v ?_ q) (fun c q => q) fun c xs q => q
    rcases hc with z | z
    · rw [z]; exact nch b u e
    · exact nch c _ z
end
def Ite (K:PySem.W.Frag) (a:Addr) (k:Nat):It :=
  ⟨fun i H => ∃ xs x,SqL K H a xs ∧ xs[i]? = some x,fun i H v H' => ∃ p x,H p = none ∧ v = .ref p ∧ H' = upd H p (.tup [.int ((k + i:Nat):Int),x]) ∧ ∀ xs,SqL K H a xs → xs[i]? = some x,fun i H => ∃ xs,SqL K H a xs ∧ xs.length = i⟩
theorem turn_enum {P:Program} {w:World} {K:PySem.W.Frag} {elts:List Expr} {x1:Nat} {tp:Pos} (a e it:Addr) (k:Nat) (hei:e ≠ it) :
    Turn P w K (.Tuple elts x1 tp) (Ite K a k) [e,it] e (fun i h => (∃ old,IsEnum h e it ((k + i:Nat):Int) old) ∧ h.IsListIter it a i) where
  mem:=by simp
  obj:=fun i h st b hb => by
    obtain ⟨⟨old,he⟩,o,ho,c,d⟩:=st
    rcases List.mem_cons.mp hb with z | z
    · subst z; exact ⟨_,he,fun v z => by cases z⟩
    · rw [List.mem_singleton.mp z]; exact ⟨o,ho,fun v z => by rw [d] at z; cases z⟩
  keep:=fun i h h' st kk => ⟨let ⟨old,he⟩:=st.1; ⟨old,kk e (by simp) _ he⟩,st.2.at fun o q => kk it (by simp) o q⟩
  item:=by
    intro X hP hw hK hc i pins s σ H E I hf st hg
    subst hP hw hK
    obtain ⟨xs,x,hq,hx⟩:=hg
    obtain ⟨its,rv,p,hz⟩:=I.list hq
    obtain ⟨u,hu,ru⟩:=rv.get hx
    obtain ⟨⟨old,he⟩,hit⟩:=st
    have hai:a ≠ it:=by
      rintro rfl
      obtain ⟨o,ho,c,_⟩:=hit
      obtain ⟨o2,ho2,c2,_⟩:=p.isList
      rw [ho] at ho2; cases ho2
      rw [c] at c2; injection c2 with c2; exact absurd c2 (by decide)
    have hae:a ≠ e:=by
      rintro rfl
      obtain ⟨o2,ho2,c2,_⟩:=p.isList
      rw [he] at ho2; cases ho2
      injection c2 with c2; exact absurd c2 (by decide)
    have hl:=rv.length
    have hil:i < its.length:=(List.getElem?_eq_some_iff.mp hu).1
    have D:=draws_shift k (Draws.list (prog:=X.prog) (w:=X.w) (A:=X.A.in1) (show X.A.in1.handled = none from I.ok.hd hc) it a hai its.toArray)
    refine wpAny_pyNext_enum_itemD D (i:=k + i) he ⟨Nat.le_add_right _ _,by rw [Nat.add_sub_cancel_left]; exact ⟨hit,p.isList⟩⟩ (by rw [List.size_toArray]; omega) hei (fun z => by
      rcases List.mem_cons.mp z with z | z
      · exact hei z
      · exact hae (List.mem_singleton.mp z).symm) fun y h1 tk hP ho hS hT hsz kk => ?_
    refine ⟨_,rfl,wpAny_letOwnedTupleGo_enum ho fun h2 he2 hs2 => ?_⟩
    have ey:y = u:=by
      have hP':its.toArray[k + i - k]? = some y:=hP
      rw [Nat.add_sub_cancel_left] at hP'
      have:its[i]? = some y:=by simpa using hP'
      rw [hu] at this; cases this; rfl
    subst ey
    have hTe:s.heap.objs.size ≠ e:=Nat.ne_of_gt (Heap.lt_size he)
    have hTi:s.heap.objs.size ≠ it:=by obtain ⟨o,q,_⟩:=hit; exact Nat.ne_of_gt (Heap.lt_size q)
    have hT2:h2.get? s.heap.objs.size = some { cls:=.type "tuple",data:=.seq #[.int ((k + i:Nat):Int) tk,y] }:=(hs2.2 _ hTe).trans hT
    have hS':h1.IsListIter it a (i + 1):=by
      have q:=hS.2.1
      rwa [show k + i + 1 - k = i + 1 by omega] at q
    have I2:Inv X pins σ (upd H s.heap.objs.size (.tup [.int ((k + i:Nat):Int),x])) { s with heap:=h2,toks:=tk + 1 }:=by
      refine I.turnLaid (ch:=[e,it]) hf (fun b u hb q => (hs2.2 b (fun z => hb (by simp [z]))).trans (kk b u (fun z => hb (by simp [z])) (fun z => hb (by simp [z])) q)) (Nat.le_refl _) ⟨len_line (by show 2 ≤ _; omega),[.int ((k + i:Nat):Int) tk,y],.cons ⟨tk,rfl⟩ (.cons ru .nil),_,hT2,rfl,_,rfl⟩
    refine ⟨.ref s.heap.objs.size,_,I2,rfl,⟨_,x,I.hok.fresh (Nat.le_refl _),rfl,rfl,fun ys hy => by rw [I.list_inj hy hq]; exact hx⟩,⟨⟨y,he2⟩,hS'.at fun o q => (hs2.2 it hei.symm).trans q⟩,fun b hb => ?_⟩
    rcases List.mem_cons.mp hb with z | z
    · rw [z,upd_ne hTe.symm]; exact (hf e (by simp)).1
    · rw [List.mem_singleton.mp z,upd_ne hTi.symm]; exact (hf it (by simp)).1
  done:=by
    intro X hP hw hK hc i pins s σ H E I hf st hg
    subst hP hw hK
    obtain ⟨xs,hq,hx⟩:=hg
    obtain ⟨its,rv,p,hz⟩:=I.list hq
    obtain ⟨⟨old,he⟩,hit⟩:=st
    have hl:=rv.length
    have hai:a ≠ it:=by
      rintro rfl
      obtain ⟨o,ho,c,_⟩:=hit
      obtain ⟨o2,ho2,c2,_⟩:=p.isList
      rw [ho] at ho2; cases ho2
      rw [c] at c2; injection c2 with c2; exact absurd c2 (by decide)
    have D:=draws_shift k (Draws.list (prog:=X.prog) (w:=X.w) (A:=X.A.in1) (show X.A.in1.handled = none from I.ok.hd hc) it a hai its.toArray)
    refine wpAny_pyNext_enum_endD D he ⟨Nat.le_add_right _ _,by rw [Nat.add_sub_cancel_left,List.size_toArray,← hl,hx]; exact ⟨hit,p.isList⟩⟩ fun h' eb => ⟨rfl,?_⟩
    exact I.turnAll (t':=s.toks) (ch:=[e,it]) hf fun b u hb q => eb b u (fun z => hb (by simp [z])) q
  self:=fun _ _ _ _ _ st h => let ⟨⟨_,he⟩,_⟩:=st; wpAny_pyIter_enum he h
section
variable {X:Cx} {l:Expr} {ta tk:TA} {kws:List Keyword} {elts:List Expr} {x1:Nat} {tp p pos kp:Pos}
def onR1 (R:Addr → Hp → Prop):List V → Hp → Prop:=fun vs H => match vs with | [.ref j] => R j H | _ => False
theorem onR1_ex {R:Addr → Hp → Prop} {vs:List V} {H:Hp} (q:onR1 R vs H):∃ j,vs = [.ref j] ∧ R j H:=by
  unfold onR1 at q
  split at q
  · exact ⟨_,rfl,q⟩
  · exact q.elim
def jEnum (K:PySem.W.Frag) (ta:TA):TI:=fun σ H R => ta σ H (onR1 fun a H1 => onL (rdL H1 a) (R (Ite K a 0) H1))
theorem enum_it {pins:List (Addr × Obj)} {σ:St} {H1:Hp} {s1:Shared} {a:Addr} {k:Nat} {h':Heap} {R:It → Hp → Prop} {E:Value → Shared → Prop} (I1:Inv X pins σ H1 s1) (he:IsEnum h' (s1.heap.objs.size + 1) s1.heap.objs.size ((k:Nat):Int) .none) (hi:h'.IsListIter s1.heap.objs.size a 0) (hz:h'.objs.size = s1.heap.objs.size + 2)
    (hk:∀ b o,s1.heap.get? b = some o → h'.get? b = some o) (q:R (Ite X.K a k) H1):wpAny (model X.prog X.w) X.A (pyIter (.ref (s1.heap.objs.size + 1))) (PIE X pins σ (.Tuple elts x1 tp) R) E { s1 with heap:=h' }:=by
  refine wpAny_pyIter_enum (s:={ s1 with heap:=h' }) he ⟨_,[s1.heap.objs.size + 1,s1.heap.objs.size],_,_,H1,rfl,I1.kept (t':=s1.toks) hk,turn_enum a _ _ k (Nat.succ_ne_self _),⟨⟨_,he⟩,hi⟩,fun b hb => ?_,q⟩
  have z:s1.heap.objs.size ≤ b:=by
    rcases List.mem_cons.mp hb with z | z
    · rw [z]; exact Nat.le_succ _
    · rw [List.mem_singleton.mp z]; exact Nat.le_refl _
  exact I1.fpOk z (I1.hok.fresh z)
theorem pj_enum (hg:Gl X "enumerate") (hm:X.mg "enumerate" = none) (ha:PA X [l] ta) (hs:starEach [l] X.env = [(false,eval l X.env)]:=by rfl) :
    PI X (.Tuple elts x1 tp) (.Call (.Name "enumerate" p) [l] [] pos) (jEnum X.K ta):=by
  intro pins s σ H R I h
  refine Call_ (ld_blt I hg hm boot_enumerate (PyProof.Rows.callWith_type1 (thn (ha pos pins s σ H _ I h) fun us s1 ⟨vs,H1,I1,r1,q1⟩ => ?_) hs rfl))
  obtain ⟨a,rfl,q⟩:=onR1_ex q1
  obtain ⟨u,rfl,ru⟩:=vals1 r1
  cases ru
  unfold onL at q
  split at q
  · rename_i xs ex
    obtain ⟨its,rv,p,hz⟩:=I1.list (rdL_sq ex)
    exact call_enumerate_list p.isList fun h' he hi hz hk => enum_it I1 (k:=0) he hi hz hk q
  · exact q.elim
end
section
variable {K:PySem.W.Frag} {a:Addr} {k:Nat} {xs:List V} {g:TG} {tb:TS} {D:Ends} {σ σ0:St} {H H1:Hp} {tests:TT} {te:TE} {Q:VK}
theorem fj_enum (Pv:Nat → St → Hp → Prop) (h0:Pv 0 σ H) (hl:∀ i σ H,i ≤ xs.length → Pv i σ H → rdL H a = some xs)
    (hs:∀ i x σ H p,xs[i]? = some x → Pv i σ H → H p = none → g (.ref p) σ (upd H p (.tup [.int ((k + i:Nat):Int),x])) fun σ2 H2 => tb { D with nx:=Pv (i + 1),ct:=Pv (i + 1),bk:=D.nx } σ2 H2) (hd:∀ σ H,Pv xs.length σ H → D.nx σ H):ForJ (Ite K a k) g tb D σ H:=by
  refine ⟨fun i m σ H => m = xs.length - i ∧ i ≤ xs.length ∧ Pv i σ H,⟨xs.length,by simp,Nat.zero_le _,h0⟩,?_⟩
  rintro i m σ H ⟨rfl,hi,p⟩
  have hr:=hl i σ H hi p
  by_cases hlt:i < xs.length
  · refine .inr ⟨⟨xs,xs[i],rdL_sq hr,by simp [hlt]⟩,Pv (i + 1),fun σ' H' p' => ⟨xs.length - (i + 1),by omega,rfl,hlt,p'⟩,fun x H' y => ?_⟩
    obtain ⟨q,z,hq,rfl,rfl,hz⟩:=y
    exact hs i z σ H q (hz xs (rdL_sq hr)) p hq
  · have e:i = xs.length:=by omega
    subst e
    exact .inl ⟨⟨xs,rdL_sq hr,rfl⟩,hd σ H p⟩
theorem cw_enum (f:Nat → V → Option V) (ha:rdL H1 a = some xs) (hl:xs.length < sizeLine)
    (hs:∀ (i:Nat) x Hc p (A:VK) (B:Hp → Prop),xs[i]? = some x → Same H1 Hc → Hc p = none → (∀ Hd,Same (upd Hc p (.tup [.int ((k + i:Nat):Int),x])) Hd → match f i x with | some y => A y Hd | none => B Hd) →
      g (.ref p) σ0 (upd Hc p (.tup [.int ((k + i:Nat):Int),x])) fun σ2 H2 => Wk σ0 σ2 ∧ tests σ2 H2 fun b H3 => if b = true then te σ2 H3 A else B H3)
    (fin:∀ D Hd,H1 D = none → Same H1 Hd → rdL Hd D = some ((List.range xs.length).filterMap fun i => f i (xs.getD i .non)) → Q (.ref D) Hd):tCompW g tests te σ0 Q (Ite K a k) H1:=by
  intro D hD
  refine ⟨fun i m Hc => m = xs.length - i ∧ i ≤ xs.length ∧ Same H1 Hc ∧ Hc D = some (.lst ((List.range i).filterMap fun i => f i (xs.getD i .non))),⟨xs.length,by simp,Nat.zero_le _,same_upd hD _,by rw [upd_same]; rfl⟩,?_⟩
  rintro i m Hc ⟨rfl,hi,sm,hDc⟩
  have hr:=rdL_keep sm ha
  by_cases hlt:i < xs.length
  · refine .inr ⟨⟨xs,xs[i],rdL_sq hr,by simp [hlt]⟩,fun v H' y => ?_⟩
    obtain ⟨q,z,hq,rfl,rfl,hz⟩:=y
    have hx:=hz xs (rdL_sq hr)
    have hg:xs.getD i .non = z:=by rw [List.getD_eq_getElem?_getD,hx]; rfl
    refine hs i z Hc q _ _ hx sm hq fun Hd sd => ?_
    have hDd:Hd D = some (.lst ((List.range i).filterMap fun i => f i (xs.getD i .non))):=sd _ _ (same_upd hq _ _ _ hDc)
    have sH:Same H1 Hd:=sm.trans ((same_upd hq _).trans sd)
    cases e:f i z with
    | some y =>
      refine ⟨_,hDd,?_,xs.length - (i + 1),by omega,rfl,hlt,fun b o hb => ?_,?_⟩
      · have:=List.length_filterMap_le (fun i => f i (xs.getD i .non)) (List.range i)
        rw [List.length_range] at this
        omega
      · rw [upd_ne (ne_of_none hb hD)]; exact sH b o hb
      · rw [upd_same,List.range_succ,List.filterMap_append,List.filterMap_cons_some (b:=y) (by rw [hg,e]),List.filterMap_nil]
    | none =>
      refine ⟨xs.length - (i + 1),by omega,rfl,hlt,sH,?_⟩
      rw [hDd,List.range_succ,List.filterMap_append,List.filterMap_cons_none (by rw [hg,e]),List.filterMap_nil,List.append_nil]
  · have e:i = xs.length:=by omega
    subst e
    exact .inl ⟨⟨xs,rdL_sq hr,rfl⟩,fin D Hc hD sm (rdL_of hDc)⟩
theorem s_jEnum {ta:TA} {R:It → Hp → Prop} (h:ta σ H (onR1 fun a H1 => onL (rdL H1 a) (R (Ite K a 0) H1))):jEnum K ta σ H R:=h
theorem s_onR1 {R:Addr → Hp → Prop} (h:R a H):onR1 R [.ref a] H:=h
end
section
variable {X:Cx}
end
section
variable {K:PySem.W.Frag} {n:Nat} {t:TG} {u:TGs} {v:V} {r xs:List V} {σ:St} {H:Hp} {Q:St → Hp → Prop} {a:Addr}
theorem s_gTup (e:tupL H a = some xs) (hn:xs.length = n) (h:u xs σ H Q):gTup K n u (.ref a) σ H Q:=⟨a,xs,rfl,.of (of_tupL e),hn,h⟩
theorem s_gCons (h:t v σ H fun σ' H' => u r σ' H' Q):gCons t u (v :: r) σ H Q:=⟨v,r,rfl,h⟩
theorem s_gNil (h:Q σ H):gNil [] σ H Q:=⟨rfl,h⟩
end
theorem pg_pair {X:Cx} {K:PySem.W.Frag} {i j k:Nat} {x y:Str} {px py pos:Pos} (hK:X.K = K) (hc:X.calm = true) (hN:X.N.Nodup) (hi:X.N[i]? = some x) (hx:Loc X.env.scope x) (hfx:X.fn x = true ∨ X.env.scope.names.lookup x = some .local)
    (hj:X.N[j]? = some y) (hy:Loc X.env.scope y) (hfy:X.fn y = true ∨ X.env.scope.names.lookup y = some .local):PG X (.Tuple [.Name x px,.Name y py] k pos) (gTup K 2 (gCons (gName i) (gCons (gName j) gNil))):=by
  subst hK
  exact pg_tup hc (pgs_cons (pg_name hN hi hx hfx) (pgs_cons (pg_name hN hj hy hfy) pgs_nil))
end L2
set_option maxHeartbeats 4000000
namespace L2
open PySem PySem.Spec PyProof.Rows
structure Fly (B:Heap) (l:List Env) (e:Addr) (cls:Value) (d:Option Addr) (fl:Value) (h:Heap):Prop where
  stays:B.StaysIn h
  new:B.get? e = none
  frames:h.FunFrames B l
  on:∃ oe vs T oT ts,h.get? e = some oe ∧ (oe.cls = cls ∧ oe.dict = d) ∧ oe.data = .fields vs ∧ vs[1]? = some (.ref T) ∧ B.get? T = none ∧ T ≠ e ∧ h.get? T = some oT ∧ oT.data = .fields ts ∧ ts[3]? = some fl ∧ vs[2]? = some .none
theorem dict_map (o:Obj) (f:Array Value → Array Value):(o.mapFields f).dict = o.dict:=by
  obtain ⟨c,d,dt,sl⟩:=o
  cases dt <;> rfl
theorem up_ne {h:Heap} {a:Addr} {o:Obj} {vs:Array Value} {f:Obj → Obj} (ha:h.get? a = some o) (hd:o.data = .fields vs):∀ b u,h.get? b = some u → (∀ ws,u.data ≠ .fields ws) → (h.update a f).get? b = some u:=fun b u e n => by
  rw [Heap.get?_update_other _ _ (fun z:a = b => by rw [← z,ha] at e; cases e; exact n vs hd)]
  exact e
section
variable {M:Model} {A:Around} {E:Value → Shared → Prop} {s:Shared} {B:Heap} {env:Env} {outer l:List Env} {L e:Addr} {cls:Value} {d:Option Addr} {Q:Unit → Shared → Prop}
theorem fly_entry {oe:Obj} {vs:Array Value} {head:Value} {nx:Bool} (hfr:A.frames = some (env :: outer)) (hl:s.heap.FunFrames B (env :: outer)) (hf:env.frame = some L) (hB:B.StaysIn s.heap) (hn:B.get? e = none)
    (he:s.heap.get? e = some oe) (hd:oe.data = .fields vs) (h1:1 < vs.size) (c2:vs[2]? = some .none) (hQ:∀ h',Fly B (env :: outer) e oe.cls oe.dict (rawInt L) h' → s.heap.UpToSlots h' → Q () { s with heap:=h' }) :
    wpAny M A (do let a ← frameOf env; let pl ← entryPlaceOf L nx; let b ← EntryCells.newEntry head a .none (rawInt L) .none pl; setField (.ref e) 1 b) Q E s:=by
  have ne:e ∉ (env :: outer).filterMap (·.frame):=fun hm => by
    obtain ⟨_,o,ho,nf⟩:=hl.mem hm
    rw [he] at ho; cases ho
    exact nf vs hd
  refine wpAny_bind (wpAny_frameOf_fun hfr hl hf fun g1 so => wpAny_bind (wpAny_entryPlaceOf fun pl hpl => ?_))
  have e1:g1.get? e = some oe:=(so.2.1 e ne).trans he
  have b1:B.StaysIn g1:=fun b o q => (so.2.1 b fun hm => by rw [(hl.mem hm).1] at q; cases q).trans (hB b o q)
  unfold EntryCells.newEntry newFields
  refine wpAny_bind (wpAny_newObj_type ?_ (hpl.sizeOk5 _ _ _ _ _))
  generalize hts:(([head,.ref L,.none,rawInt L,.none] ++ (if pl.isEmpty then List.replicate 6 Value.none else pl):List Value)).toArray = ts
  have t3:ts[3]? = some (rawInt L):=by rw [← hts]; simp
  have e2:=Heap.get?_push_of_some (h:=g1) ⟨.type "traceback",none,.fields ts,#[]⟩ e1
  refine wpAny_setField e2 hd h1 (hQ _ ?_ ?_)
  · have te:g1.objs.size ≠ e:=Nat.ne_of_gt (Heap.lt_size e1)
    have dm:=Obj.data_mapFields hd (·.setIfInBounds 1 (Value.ref g1.objs.size))
    refine ⟨fun b o q => ?_,hn,hl.of_keeps fun b o q nf => ?_,_,_,g1.objs.size,⟨.type "traceback",none,.fields ts,#[]⟩,ts,Heap.get?_update_self _ e2 (Obj.isFreed_of_fields dm),⟨Obj.cls_mapFields _ _,dict_map _ _⟩,dm,by simp [h1],b1.fresh,te,?_,rfl,t3,(Array.getElem?_setIfInBounds_ne (by decide)).trans c2⟩
    · rw [Heap.get?_update_other _ _ (fun z:e = b => by rw [← z,hn] at q; cases q)]
      exact Heap.get?_push_of_some _ (b1 b o q)
    · obtain ⟨sl,q1⟩:=so.2.2 b o q
      exact ⟨_,up_ne e2 hd b _ (Heap.get?_push_of_some _ q1) nf,rfl⟩
    · rw [Heap.get?_update_other _ _ te.symm]
      exact Heap.get?_push_size g1 rfl
  · intro b o q nf
    obtain ⟨sl,q1⟩:=so.2.2 b o q
    exact ⟨sl,up_ne e2 hd b _ (Heap.get?_push_of_some _ q1) nf⟩
theorem fly_note0 {oe:Obj} {vs:Array Value} (hfr:A.frames = some (env :: outer)) (hl:s.heap.FunFrames B (env :: outer)) (hf:env.frame = some L) (hB:B.StaysIn s.heap) (hn:B.get? e = none)
    (he:s.heap.get? e = some oe) (hd:oe.data = .fields vs) (h1:vs[1]? = some .none) (c2:vs[2]? = some .none) (hQ:∀ h',Fly B (env :: outer) e oe.cls oe.dict (rawInt L) h' → s.heap.UpToSlots h' → Q () { s with heap:=h' }):wpAny M A (noteFrame (.ref e) env) Q E s:=by
  unfold noteFrame
  simp only [hf]
  refine wpAny_bind (wpAny_field he hd h1 ?_)
  rw [if_neg (show ¬ ((Value.none != Value.none) = true) by decide)]
  exact fly_entry hfr hl hf hB hn he hd (Array.getElem?_eq_some_iff.mp h1).1 c2 hQ
theorem fly_flight {fl:Value} (F:Fly B l e cls d fl s.heap) (hQ:∀ h',Fly B l e cls d .none h' → s.heap.UpToSlots h' → Q () { s with heap:=h' }):wpAny M A (setFlight (.ref e) none) Q E s:=by
  obtain ⟨hB,hn,hl,oe,vs,T,oT,ts,he,hc,hd,h1,hT,hTe,gT,dT,t3,c2⟩:=F
  have z3:3 < ts.size:=(Array.getElem?_eq_some_iff.mp t3).1
  unfold setFlight
  refine wpAny_bind (wpAny_field he hd h1 ?_)
  rw [if_pos (show (Value.ref T != Value.none) = true by simp)]
  refine wpAny_setField gT dT z3 (hQ _ ?_ fun b o q nf => ⟨o.slots,up_ne gT dT b o q nf⟩)
  have dm:=Obj.data_mapFields dT (·.setIfInBounds 3 Value.none)
  refine ⟨fun b o q => ?_,hn,hl.of_keeps fun b o q nf => ⟨o,up_ne gT dT b o q nf,rfl⟩,oe,vs,T,_,_,?_,hc,hd,h1,hT,hTe,Heap.get?_update_self _ gT (Obj.isFreed_of_fields dm),dm,by simp [z3],c2⟩
  · rw [Heap.get?_update_other _ _ (fun z:T = b => by rw [← z,hT] at q; cases q)]
    exact hB b o q
  · rw [Heap.get?_update_other _ _ hTe]
    exact he
theorem Fly.less {fl:Value} {h:Heap} (F:Fly B (env :: outer) e cls d fl h):Fly B outer e cls d fl h:=⟨F.stays,F.new,F.frames.2.2,F.on⟩
theorem fly_leave0 {oe:Obj} {vs:Array Value} (hfr:A.frames = some (env :: outer)) (hl:s.heap.FunFrames B (env :: outer)) (hf:env.frame = some L) (hB:B.StaysIn s.heap) (hn:B.get? e = none)
    (he:s.heap.get? e = some oe) (hd:oe.data = .fields vs) (h1:vs[1]? = some .none) (c2:vs[2]? = some .none) (hQ:∀ h',Fly B outer e oe.cls oe.dict .none h' → s.heap.UpToSlots h' → Q () { s with heap:=h' }):wpAny M A (leaving env (.ref e)) Q E s:=by
  unfold leaving
  exact wpAny_bind (fly_note0 hfr hl hf hB hn he hd h1 c2 fun h1 F1 u1 => fly_flight (s:={ s with heap:=h1 }) F1 fun h2 F2 u2 => hQ h2 F2.less (u1.trans u2))
end
end L2
set_option maxHeartbeats 4000000
namespace L2
open PySem PySem.Spec PyProof.Rows
structure UnB (fs:List Addr) (H H':Hp) (h B h':Heap):Prop where
  keep:∀ b o,h.get? b = some o → H b = none → b ∉ fs → B.get? b = some o
  slot:∀ b o,h.get? b = some o → H b = none → b ∈ fs → ∃ sl,h'.get? b = some { o with slots:=sl }
  free:∀ b o,h.get? b = some o → H b = none → H' b = none
  there:∀ b o,h.get? b = some o → b ∉ fs → ∃ o',B.get? b = some o'
  tups:∀ b xs,H b = some (.tup xs) → H' b = some (.tup xs)
  frzs:∀ b o u,H b = some (.frz o u) → H' b = some (.frz o u)
  tbls:∀ b ps,H b = some (.tbl ps) → ∃ more,H' b = some (.tbl (ps ++ more))
def CXr (P:Program) (w:World):CXT:=fun outer H s E e s' =>
  ∃ (ea:Addr) (cls:Value) (d:Option Addr) (B:Heap) (H':Hp),e = .ref ea ∧ s'.os = s.os ∧ AllBare s'.gens ∧ Fly B outer ea cls d .none s'.heap ∧ HOk P w H' B ∧ UnB (frs outer) H H' s.heap B s'.heap ∧ E cls d H'
theorem HOk.down {P:Program} {w:World} {H:Hp} {h B:Heap} (x:HOk P w H h) (k:∀ b o u,H b = some u → h.get? b = some o → B.get? b = some o):HOk P w H B:=fun a u e =>
  (x a u e).stay (fun b o hb q => by
    rcases hb with z | z
    · subst z; exact k b o u e q
    · exact k b o _ z q) (fun _ q => q) fun _ _ q => q
theorem ObjOk.get {P:Program} {w:World} {H:Hp} {h:Heap} {a:Addr} {o:HO} (x:ObjOk P w H h a o):∃ ob,h.get? a = some ob:=by
  cases o with
  | lst xs => obtain ⟨_,_,_,_,e⟩:=x; exact ⟨_,e⟩
  | tup xs => obtain ⟨_,_,_,ob,e,_⟩:=x; exact ⟨_,e⟩
  | dK kvs => obtain ⟨_,_,_,_,ob,_,_,e,_⟩:=x; exact ⟨_,e⟩
  | dT kvs => obtain ⟨_,_,_,_,ob,_,_,e,_⟩:=x; exact ⟨_,e⟩
  | set S n => obtain ⟨ob,_,_,_,e,_⟩:=x; exact ⟨_,e⟩
  | ins C dx fs => obtain ⟨_,_,_,e,_⟩:=x; exact ⟨_,e⟩
  | own y => exact x
  | xd fs => obtain ⟨_,⟨od,_,_,e,_⟩,_⟩:=x; exact ⟨_,e⟩
  | rng lo hi => obtain ⟨_,_,_,e⟩:=x; exact ⟨_,e⟩
  | frz ob u => exact ⟨_,x.1⟩
  | tbl ps => exact ⟨_,x⟩
  | met f y => exact ⟨_,x⟩
  | ext φ => exact x.2.1
theorem HOk.hole {P:Program} {w:World} {H:Hp} {h:Heap} {a:Addr} (x:HOk P w H h) (e:h.get? a = none):H a = none:=by
  cases q:H a with
  | none => rfl
  | some o =>
    obtain ⟨ob,z⟩:=(x a o q).get
    rw [e] at z
    cases z
theorem not_mem_stack {env:Env} {outer:List Env} {L b:Addr} (hf:env.frame = some L) (h1:b ≠ L) (h2:b ∉ frs outer):b ∉ frs (env :: outer):=fun hm => by
  obtain ⟨e,he,q⟩:=List.mem_filterMap.mp hm
  rcases List.mem_cons.mp he with z | z
  · subst z
    rw [hf] at q
    exact h1 (Option.some.inj q).symm
  · exact h2 (List.mem_filterMap.mpr ⟨e,z,q⟩)
section
variable {P:Program} {w:World} {K:PySem.W.Frag} {mg:Str → Option Value} {base:Heap} {N:List Str} {qual:Str} {scope:Scope} {f:Addr} {cd:Value} {A:Around} {outer:List Env} {s₀:Shared} {H₀:Hp} {E:XK}
  {pins:List (Addr × Obj)} {σ:St} {H:Hp} {s:Shared}
theorem raise_leaves {ea:Addr} {oe:Obj} {vs:Array Value} (I:Inv (cxOf (CXr P w) P w K mg base N qual scope f cd A outer s₀ H₀ E) pins σ H s) (he:s.heap.get? ea = some oe) (hd:oe.data = .fields vs) (h1:vs[1]? = some .none) (c2:vs[2]? = some .none) (hn:H ea = none) (h0:s₀.heap.get? ea = none)
    (q:E oe.cls oe.dict H):(cxOf (CXr P w) P w K mg base N qual scope f cd A outer s₀ H₀ E).xe (.ref ea) s:=by
  have hfr:=I.ok.frames
  have hst:=I.stack
  have hsf:=I.stkFree
  have hbase:=I.base
  have hlo:∀ b o,s₀.heap.get? b = some o → b ≠ s₀.heap.objs.size:=fun b o e => Nat.ne_of_lt (Heap.lt_size e)
  have nea:∀ b o,s₀.heap.get? b = some o → b ≠ ea:=fun b o e z => by rw [z,h0] at e; cases e
  have hid:∀ b o,s.heap.get? b = some o → b ≠ ea → b ∉ frs (envOfC qual scope s₀.heap.objs.size f cd :: outer) → (PySem.W.hideAll s.heap (ea :: frs (envOfC qual scope s₀.heap.objs.size f cd :: outer))).get? b = some o:=fun b o e n1 n2 =>
    PySem.W.hideAll_get _ e fun hm => (List.mem_cons.mp hm).elim n1 n2
  refine fly_leave0 (B:=PySem.W.hideAll s.heap (ea :: frs (envOfC qual scope s₀.heap.objs.size f cd :: outer))) hfr (PySem.W.funFrames_hide hst fun env he b hb => List.mem_cons_of_mem _ (List.mem_filterMap.mpr ⟨env,he,hb⟩)) rfl (fun b o q => PySem.W.of_hideAll _ q)
    (PySem.W.hideAll_none _ List.mem_cons_self) he hd h1 c2 fun h2 fl up => ?_
  refine ⟨ea,_,_,_,H,rfl,I.os,I.bare,fl,I.hok.down fun b o u e g => hid b o g (fun z => by rw [z,hn] at e; cases e) fun hm => ?_,⟨fun b o e n hb => ?_,fun b o e n hb => ?_,fun b o e n => hbase.free b o e n (by simp [cxOf]),fun b o e hb => ?_,hbase.tups,hbase.frzs,hbase.tbls⟩,q⟩
  · rw [hsf b hm] at e
    cases e
  · exact hid b o (hbase.keep b o e n hb (by simp [cxOf])) (nea b o e) (not_mem_stack rfl (hlo b o e) hb)
  · obtain ⟨sl,q1⟩:=hbase.slot b o e n hb (by simp [cxOf])
    obtain ⟨_,o2,g2,nf⟩:=I.ok.funs.mem hb
    have e2:s₀.heap.get? b = some o2:=g2
    rw [e] at e2
    cases e2
    obtain ⟨sl2,q2⟩:=up b _ q1 nf
    exact ⟨sl2,q2⟩
  · obtain ⟨o',q1⟩:=hbase.there b o e (by simp [cxOf])
    exact ⟨o',hid b o' q1 (nea b o e) (not_mem_stack rfl (hlo b o e) hb)⟩
end
def Rais (X:Cx) (E:XK):Prop:=∀ (pins:List (Addr × Obj)) (σ:St) (H:Hp) (s:Shared) (ea:Addr) (oe:Obj) (vs:Array Value),Inv X pins σ H s → s.heap.get? ea = some oe → oe.data = .fields vs → vs[1]? = some .none → vs[2]? = some .none → H ea = none → X.s₀.heap.get? ea = none →
  E oe.cls oe.dict H → X.xe (.ref ea) s
theorem rais_of {P:Program} {w:World} {K:PySem.W.Frag} {mg:Str → Option Value} {base:Heap} {N:List Str} {qual:Str} {scope:Scope} {f:Addr} {cd:Value} {A:Around} {outer:List Env} {s₀:Shared} {H₀:Hp} {E:XK} :
    Rais (cxOf (CXr P w) P w K mg base N qual scope f cd A outer s₀ H₀ E) E:=fun _ _ _ _ _ _ _ I he hd h1 c2 hn h0 q => raise_leaves I he hd h1 c2 hn h0 q
section
variable {X:Cx} {E:XK} {x:Str} {C:Addr} {bmB:List Value} {B newId initId:String} {e:Expr} {es:List Expr} {ta:TA} {np cpos pos:Pos}
end
abbrev Cx.tr (X:Cx) (pins:List (Addr × Obj)) (xe:Value → Shared → Prop):Cx:={ X with pn:=X.pn ++ pins,xe:=xe }
abbrev Cx.hnd (X:Cx) (pins:List (Addr × Obj)) (ea:Addr):Cx:={ X with A:=X.A.mark (some (.ref ea)),calm:=false,pn:=X.pn ++ pins,xe:=fun _ _ => False }
section
variable {X:Cx} {pins pins':List (Addr × Obj)} {σ:St} {H:Hp} {s:Shared} {xe:Value → Shared → Prop} {ea:Addr}
theorem Inv.tr (I:Inv X pins σ H s) (xe:Value → Shared → Prop):Inv (X.tr pins xe) [] σ H s :=
  ⟨⟨I.ok.mod,I.ok.kind,I.ok.glob,I.ok.blt,I.ok.above,I.ok.inj,I.ok.has,I.ok.cab,I.ok.hd,I.ok.frames,I.ok.stk,I.ok.exf,I.ok.bs,I.ok.bsz,I.ok.noex,I.ok.exfs,I.ok.funs,I.ok.frf⟩,I.os,I.bare,I.base,I.loc,I.cell,I.free,I.freeC,
    fun p hp => I.pin p (by rwa [List.append_nil] at hp),I.hok,I.len⟩
theorem Inv.hnd (I:Inv X pins σ H s) (ea:Addr):Inv (X.hnd pins ea) [] σ H s :=
  ⟨⟨I.ok.mod,I.ok.kind,I.ok.glob,I.ok.blt,I.ok.above,I.ok.inj,I.ok.has,I.ok.cab,(fun z => nomatch z),I.ok.frames,I.ok.stk,I.ok.exf,I.ok.bs,I.ok.bsz,I.ok.noex,I.ok.exfs,I.ok.funs,I.ok.frf⟩,I.os,I.bare,I.base,I.loc,I.cell,I.free,I.freeC,
    fun p hp => I.pin p (by rwa [List.append_nil] at hp),I.hok,I.len⟩
structure Fre (X:Cx) (pins:List (Addr × Obj)) (a:Addr):Prop where
  s0:X.s₀.heap.get? a = none
  loc:a ≠ X.env.locals
  cell:∀ x c,X.env.cells.lookup x = some c → c ≠ a
  pin:∀ p ∈ X.pn ++ pins,p.1 ≠ a
theorem Inv.adopt {a:Addr} {o:HO} (I:Inv X pins σ H s) (f:Fre X pins a) (hn:H a = none) (new:ObjOk X.prog X.w (upd H a o) s.heap a o):Inv X pins σ (upd H a o) s:=by
  have ne:∀ b u,H b = some u → b ≠ a:=fun b u e => ne_of_none e hn
  refine ⟨I.ok,I.os,I.bare,⟨I.base.keep,I.base.slot,fun b u e n hx => ?_,I.base.there,fun b xs e => ?_,fun b u v e => ?_,fun b ps e => ?_⟩,I.loc,I.cell,by rw [upd_ne f.loc.symm]; exact I.free,fun x c e => by rw [upd_ne (f.cell x c e)]; exact I.freeC x c e,fun p hp => ?_,fun b u e => ?_,I.len⟩
  · rw [upd_ne (fun z => by rw [z,f.s0] at e; cases e)]
    exact I.base.free b u e n hx
  · have q:=I.base.tups b xs e
    rw [upd_ne (ne b _ q)]; exact q
  · have q:=I.base.frzs b u v e
    rw [upd_ne (ne b _ q)]; exact q
  · obtain ⟨m,q⟩:=I.base.tbls b ps e
    exact ⟨m,by rw [upd_ne (ne b _ q)]; exact q⟩
  · obtain ⟨h1,h2,h3⟩:=I.pin p hp
    exact ⟨h1,by rw [upd_ne (f.pin p hp)]; exact h2,h3⟩
  · by_cases hb:b = a
    · subst hb
      rw [upd_same] at e
      cases e
      exact new
    · rw [upd_ne hb] at e
      exact (I.hok b u e).stay (fun c v _ q => q) (fun c q => by rw [upd_ne (ne c _ q)]; exact q) fun c xs q => by rw [upd_ne (ne c _ q)]; exact q
end
def excO (ea:Addr) (cls:Value) (d:Option Addr):HO:=.ext fun h => ∃ oe vs,h.get? ea = some oe ∧ oe.cls = cls ∧ oe.dict = d ∧ oe.data = .fields vs
theorem Fly.obj {P:Program} {w:World} {B:Heap} {l:List Env} {ea:Addr} {cls fl:Value} {d:Option Addr} {h:Heap} {H:Hp} (F:Fly B l ea cls d fl h):ObjOk P w H h ea (excO ea cls d):=by
  obtain ⟨oe,vs,T,oT,ts,he,hc,hd,_⟩:=F.on
  exact ⟨⟨oe,vs,he,hc.1,hc.2,hd⟩,⟨oe,he⟩,fun h1 h2 ⟨o,ws,g,q⟩ k => ⟨o,ws,k o g,q⟩⟩
section
variable {X:Cx} {CX:CXT} {k:Nat} {f:Addr} {fd:FuncData} {ps:List Str} {sp:Sp} {Es:St → XK} {x:Str} {p pos:Pos} {e:Expr} {es:List Expr} {t:TA}
end
section
variable {X:Cx} {pins:List (Addr × Obj)}
end
end L2
set_option maxHeartbeats 4000000
namespace L2
open PySem PySem.Spec PyProof.Rows PySem.W
structure ExK (K:Frag) (D:Addr):Prop where
  cls:hasDictIn K D = true
  ga:findIn K (.ref D) "__getattribute__" = some (some (.builtin "BaseException.__getattribute__"))
  gh:findIn K (.ref D) "__getattr__" = some none
  ca:findIn K (.ref D) "__class__" = some (some (.builtin "object.__class__"))
  cg:specialIn K (.builtin "object.__class__") "__get__" = some (some (.builtin "getset_descriptor.__get__"))
  ct:takesIn K (.builtin "object.__class__") = some true
  mo:mroIn K D (.type "object") = some true
  mb:PySem.W.subIn K (.ref D) (.type "BaseException") = some true
section
variable {prog:Program} {w:World} {A:Around} {E:Value → Shared → Prop} {s:Shared} {K:Frag} {x D:Addr} {ox:Obj} {od:Option Obj}
end
section
variable {K:PySem.W.Frag} {H:Hp} {Q:VK} {ea D tp:Addr} {c:V} {cs:List V} {cv:Value} {cvs:List Value} {b:Bool}
end
def CalX (P:Program) (w:World) (K:PySem.W.Frag) (mg:Str → Option Value) (base:Heap) (k:Nat) (x:Str) (ps:List Str) (sp:Sp):Prop :=
  ∃ (f:Addr) (fd:FuncData),FnOk P w K mg base (CXr P w) k f fd ps sp ∧ mg x = some (.ref f) ∧ PySem.W.keepIn K (.ref f) = true ∧ Binds K fd ps []
section
variable {X:Cx} {k k':Nat} {ps:List Str} {sp:Sp} {x:Str} {p pos:Pos} {e:Expr} {es:List Expr} {t:TA} {E:XK} {Es:St → XK}
theorem pe_calX (c:CalX X.prog X.w X.K X.mg X.base k x ps sp) (hx:Passes (CXr X.prog X.w) X E) (hr:Room k' X.A) (hk:k ≤ k') (hg:Gl X x)
    (ha:PA X (e :: es) t) (hdb:(x == ("__debug__" : Str)) = false:=by decide) (he:starEach (e :: es) X.env = (false,eval e X.env) :: starEach es X.env:=by rfl) (hpl:(backTo pos (starEach es X.env)).any (·.1) = false:=by rfl) :
    PE X (.Call (.Name x p) (e :: es) [] pos) (tCall sp [] E t):=by
  obtain ⟨f,fd,F,hm,hk',hb⟩:=c
  exact pe_call F (hr.mono hk) hg hm hk' hb .nil hx ha hdb he hpl
theorem pass_none:Passes (CXr X.prog X.w) X E0:=fun _ _ _ _ _ _ _ h => by
  obtain ⟨_,_,_,_,_,_,_,_,_,_,_,z⟩:=h
  exact z.elim
theorem PS.nox {st:Stmt} {t:TS} (h:PS X.nox st t):PS X st t:=fun pins s σ H D I hw =>
  wpAny_mono (h pins s σ H D (I.wish _) hw) (fun _ _ q => q.unwish) fun _ _ z => False.elim z
end
section
variable {P:Program} {w:World} {K:PySem.W.Frag} {mg:Str → Option Value} {base:Heap}
theorem Fun.okX {x qual:Str} {st:Stmt} {f:Addr} {fd:FuncData} {N ps:List Str} {k:Nat} {sp:Sp} (F:Fun K x qual st f fd) (S:FnScope N ps (defScope st)) (len:∀ vs H Q E,sp vs H Q E → vs.length = ps.length)
    (hbody:∀ (cdv:Value) (A:Around) (outer:List Env) (s:Shared) (H:Hp) (vs:List V) (Q:VK) (E:XK),Room k (A.deeper (envOfC qual (defScope st) s.heap.objs.size f cdv)) → sp vs H Q E →
      ∃ t,PSs (cxOf (CXr P w) P w K mg base N qual (defScope st) f cdv A outer s H E) (defBody st) t ∧ t { nx:=fun _ H' => Q .non H',rt:=Q } (start N vs) H):FnOk P w K mg base (CXr P w) (k + 1) f fd ps sp:=by
  obtain ⟨oc,od,kV,doc,pm,an,cdv,ct,osl,rfl,lk,hcd⟩:=F.ex
  exact fn_of lk hcd S len fun A outer s H vs Q E hr hsp => hbody cdv A outer s H vs Q E hr hsp
end
end L2
set_option maxHeartbeats 4000000
namespace L2
open PySem PySem.Spec PyProof.Rows
section
variable {X:Cx} {l1 l2:Expr} {ta:TA} {elts:List Expr} {x1:Nat} {tp p pos:Pos}
end
section
variable {K:PySem.W.Frag} {a b:Addr} {xs ys:List V} {g:TG} {tb:TS} {D:Ends} {σ:St} {H:Hp}
end
end L2
set_option maxHeartbeats 4000000
namespace L2
open PySem PySem.Spec PyProof.Rows
section
variable {X:Cx} {o e:Expr} {es:List Expr} {to:TE} {t:TA} {name:Str} {apos cpos:Pos} {T id:String} {r:V → List V → Hp → VK → Prop}
def mExt:V → List V → Hp → VK → Prop:=fun x vs H Q => match x,vs with
  | .ref l,[.ref b] => (match mutL H l,mutL H b with | some xs,some zs => xs.length + zs.length ≤ sizeLine ∧ Q .non (upd H l (.lst (xs ++ zs))) | _,_ => False)
  | _,_ => False
theorem m_ext:MtR X "list.extend" mExt:=MtR.imp (r:=rExtend) mt_extend fun _ _ _ _ q => by
  unfold mExt at q
  split at q
  · split at q
    · exact ⟨_,_,_,_,rfl,rfl,of_mutL (by assumption),of_mutL (by assumption),q.1,q.2⟩
    · exact q.elim
  · exact q.elim
end
section
variable {σ:St} {H:Hp} {Q:VK} {l b:Addr} {xs zs:List V} {y:V} {i:Int} {k:Nat} {to:TE} {T:String} {r:V → List V → Hp → VK → Prop}
theorem s_ext (e:mutL H l = some xs) (e':mutL H b = some zs) (c:xs.length + zs.length ≤ sizeLine) (h:Q .non (upd H l (.lst (xs ++ zs)))):mExt (.ref l) [.ref b] H Q:=by unfold mExt; simp only [e,e']; exact ⟨c,h⟩
end
end L2
set_option maxHeartbeats 4000000
namespace L2
open PySem PySem.Spec PyProof.Rows
theorem tyN_lst {H:Hp} {p:Addr} {xs:List V} (h:H p = some (.lst xs)):tyN (.ref p) H = some "list" := by unfold tyN; simp only [h]
theorem s_seqJ {t u:TS} {D:Ends} {σ:St} {H:Hp} (Pj:St → Hp → Prop) (hj:∀ σ' H',Pj σ' H' → u D σ' H') (h:∀ N:St → Hp → Prop,(∀ σ' H',Pj σ' H' → N σ' H') → t { D with nx:=N } σ H):tSeq t u D σ H:=h (u D) hj
theorem none_of {H H':Hp} {r:Addr} (s:Same H H') (h:H' r = none):H r = none:=by
  cases e:H r with
  | none => rfl
  | some o => rw [s _ _ e] at h; cases h
theorem same_put {H H':Hp} {p:Addr} {o:HO} (hp:H p = none) (s:Same H H'):Same H (upd H' p o):=fun b u q => by rw [upd_ne (ne_of_none q hp)]; exact s b u q
section
variable {g:TG} {tests:TT} {te:TE} {σ0:St} {Q:VK} {H1:Hp}
theorem cw_gen {J:It} {n:Nat} (R:Addr → Nat → List V → Hp → Prop) (hl:n < sizeLine) (h0:∀ D,H1 D = none → R D 0 [] (upd H1 D (.lst [])))
    (hgo:∀ D i ys Hc,H1 D = none → R D i ys Hc → i < n → J.go i Hc) (hst:∀ D ys Hc,H1 D = none → R D n ys Hc → J.stop n Hc)
    (hs:∀ D i ys Hc x H' (A:VK) (B:Hp → Prop),H1 D = none → i < n → R D i ys Hc → Hc D = some (.lst ys) → J.yld i Hc x H' →
      (∀ y H4,H4 D = some (.lst ys) → R D (i + 1) (ys ++ [y]) (upd H4 D (.lst (ys ++ [y]))) → A y H4) → (∀ H3,H3 D = some (.lst ys) → R D (i + 1) ys H3 → B H3) →
      g x σ0 H' fun σ2 H2 => Wk σ0 σ2 ∧ tests σ2 H2 fun b H3 => if b = true then te σ2 H3 A else B H3)
    (fin:∀ D ys Hc,H1 D = none → R D n ys Hc → Hc D = some (.lst ys) → ys.length ≤ n → Q (.ref D) Hc):tCompW g tests te σ0 Q J H1:=by
  intro D hD
  refine ⟨fun i m Hc => m = n - i ∧ i ≤ n ∧ ∃ ys,ys.length ≤ i ∧ Hc D = some (.lst ys) ∧ R D i ys Hc,⟨n,by simp,Nat.zero_le _,[],Nat.le_refl _,upd_same,h0 D hD⟩,?_⟩
  rintro i m Hc ⟨rfl,hi,ys,hy,hDc,r⟩
  by_cases hlt:i < n
  · refine .inr ⟨hgo D i ys Hc hD r hlt,fun x H' y => hs D i ys Hc x H' _ _ hD hlt r hDc y (fun z H4 e r4 => ?_) (fun H3 e r3 => ?_)⟩
    · exact ⟨ys,e,by omega,n - (i + 1),by omega,rfl,hlt,ys ++ [z],by rw [List.length_append]; show ys.length + 1 ≤ _; omega,upd_same,r4⟩
    · exact ⟨n - (i + 1),by omega,rfl,hlt,ys,by omega,e,r3⟩
  · have e:i = n:=by omega
    subst e
    exact .inl ⟨hst D ys Hc hD r,fin D ys Hc hD r hDc hy⟩
def Tups (H1 Hc:Hp) (ps:List Addr) (fs:List (List V)):Prop:=ps.length = fs.length ∧ ∀ (j:Nat) p t,ps[j]? = some p → fs[j]? = some t → H1 p = none ∧ Hc p = some (.tup t)
theorem Tups.keep {H1 Hc Hd:Hp} {ps:List Addr} {fs:List (List V)} (t:Tups H1 Hc ps fs) (s:Same Hc Hd):Tups H1 Hd ps fs:=⟨t.1,fun j p u hp hu => ⟨(t.2 j p u hp hu).1,s _ _ (t.2 j p u hp hu).2⟩⟩
theorem Tups.put {H1 Hc:Hp} {ps:List Addr} {fs:List (List V)} {D:Addr} {ys zs:List V} (t:Tups H1 Hc ps fs) (h:Hc D = some (.lst ys)):Tups H1 (upd Hc D (.lst zs)) ps fs:=⟨t.1,fun j p u hp hu => by
  obtain ⟨a,b⟩:=t.2 j p u hp hu
  refine ⟨a,?_⟩
  rw [upd_ne fun z => by rw [z,h] at b; cases b]
  exact b⟩
theorem Tups.app {H1 Hc:Hp} {ps qs:List Addr} {fs gs:List (List V)} (t:Tups H1 Hc ps fs) (u:Tups H1 Hc qs gs):Tups H1 Hc (ps ++ qs) (fs ++ gs):=by
  refine ⟨by rw [List.length_append,List.length_append,t.1,u.1],fun j p v hp hv => ?_⟩
  by_cases h:j < ps.length
  · rw [List.getElem?_append_left h] at hp
    rw [List.getElem?_append_left (by rw [← t.1]; exact h)] at hv
    exact t.2 j p v hp hv
  · rw [List.getElem?_append_right (by omega)] at hp
    rw [List.getElem?_append_right (by rw [← t.1]; omega),← t.1] at hv
    exact u.2 _ p v hp hv
theorem Tups.nil {H1 Hc:Hp}:Tups H1 Hc [] []:=⟨rfl,fun j p u hp => by cases hp⟩
theorem Tups.one {H1 Hc:Hp} {p:Addr} {t:List V} (a:H1 p = none) (b:Hc p = some (.tup t)):Tups H1 Hc [p] [t]:=⟨rfl,fun j q u hq hu => by
  cases j with
  | zero => cases hq; cases hu; exact ⟨a,b⟩
  | succ j => cases hq⟩
end
end L2
set_option maxHeartbeats 4000000
namespace L2
open PySem PySem.Spec PyProof.Rows
def Itr3 (lo c:Int) (n:Nat):It:=⟨fun i _ => i < n,fun i H x H' => H' = H ∧ x = .int (lo + (i:Int) * c),fun i _ => n ≤ i⟩
theorem turn_range3 {P:Program} {w:World} {K:PySem.W.Frag} {tg:Expr} (it:Addr) (lo c:Int) (n:Nat):Turn P w K tg (Itr3 lo c n) [it] it (fun i h => IsRangeIter h it (lo + (i:Nat) * c) ((n:Int) - (i:Nat)) c) where
  mem:=by simp
  obj:=fun i h st b hb => by
    have e:b = it:=by simpa using hb
    subst e
    exact ⟨_,st,fun v z => by
      have z':Data.fields _ = Data.cell v:=z
      cases z'⟩
  keep:=fun i h h' st k => k it (by simp) _ st
  item:=by
    intro X hP hw hK hc i pins s σ H E I hf st hg
    subst hP hw hK
    obtain ⟨f0,f1,f2,f3,f4,f5⟩:=hf it (by simp)
    have W:=Walks.range (prog:=X.prog) (w:=X.w) (I.ok.hd hc) it lo c n
    refine W.item i s _ _ hg st fun v h' tk hv st' kk => ?_
    obtain ⟨t,rfl⟩:=hv
    have I1:Inv X pins σ H { s with heap:=h',toks:=tk }:=I.turned (fun b o hb e => kk b o (by simpa using hb) e) f0 f1 f3 f4 f5
    exact ⟨_,rfl,go_of (s:={ s with heap:=h',toks:=tk }) (n := "range_iterator") st' rfl rfl (by decide) ⟨.int (lo + i * c),H,I1,⟨t,rfl⟩,⟨rfl,rfl⟩,st',fun b hb => (hf b hb).1⟩⟩
  done:=by
    intro X hP hw hK hc i pins s σ H E I hf st hg
    subst hP hw hK
    obtain ⟨f0,f1,f2,f3,f4,f5⟩:=hf it (by simp)
    exact wpAny_pyNext_range_end (I.ok.hd hc) st (by have:n ≤ i:=hg; omega) fun h' eb => ⟨rfl,I.turned (t':=s.toks) (fun b o hb e => eb b o hb e) f0 f1 f3 f4 f5⟩
  self:=fun _ _ _ _ _ st h => wpAny_pyIter_rangeiter st h
section
variable {X:Cx} {tg a b c:Expr} {p pos:Pos}
def onI3 (R:Int → Int → Int → Hp → Prop):List V → Hp → Prop:=fun vs H => match vs with | [.int i,.int j,.int k] => R i j k H | _ => False
theorem onI3_ex {R:Int → Int → Int → Hp → Prop} {vs:List V} {H:Hp} (q:onI3 R vs H):∃ i j k,vs = [.int i,.int j,.int k] ∧ R i j k H:=by
  unfold onI3 at q
  split at q
  · exact ⟨_,_,_,rfl,q⟩
  · exact q.elim
end
section
variable {K:PySem.W.Frag} {c:Addr} {xs:List V} {lo st:Int} {n:Nat} {g:TG} {tb:TS} {D:Ends} {σ:St} {H:Hp} {tA:TA} {R:It → Hp → Prop} {i j k:Int}
theorem fj_range3 (Pv:Nat → St → Hp → Prop) (h0:Pv 0 σ H)
    (hs:∀ i σ H,i < n → Pv i σ H → g (.int (lo + (i:Int) * st)) σ H fun σ2 H2 => tb { D with nx:=Pv (i + 1),ct:=Pv (i + 1),bk:=D.nx } σ2 H2) (hd:∀ σ H,Pv n σ H → D.nx σ H):ForJ (Itr3 lo st n) g tb D σ H:=by
  refine ⟨fun i m σ H => m = n - i ∧ i ≤ n ∧ Pv i σ H,⟨n,by simp,Nat.zero_le _,h0⟩,?_⟩
  rintro i m σ H ⟨rfl,hi,p⟩
  by_cases hlt:i < n
  · refine .inr ⟨hlt,Pv (i + 1),fun σ' H' p' => ⟨n - (i + 1),by omega,rfl,hlt,p'⟩,fun x H' y => ?_⟩
    obtain ⟨e,y⟩:=y
    subst e y
    exact hs i σ _ hlt p
  · have e:i = n:=by omega
    subst e
    exact .inl ⟨Nat.le_refl _,hd σ H p⟩
theorem s_onI3 {R:Int → Int → Int → Hp → Prop} (h:R i j k H):onI3 R [.int i,.int j,.int k] H:=h
end
def Alk (H:Hp):Nat → V → V → Prop
  | 0,x,y => x = y ∧ flatV x = true
  | n + 1,x,y => (x = y ∧ flatV x = true) ∨ ∃ p q xs ys,x = .ref p ∧ y = .ref q ∧ ((rdL H p = some xs ∧ rdL H q = some ys) ∨ (tupL H p = some xs ∧ tupL H q = some ys)) ∧ xs.length = ys.length ∧ ∀ (j:Nat) x' y',xs[j]? = some x' → ys[j]? = some y' → Alk H n x' y'
theorem Alk.flat {H:Hp} {n:Nat} {x:V} (h:flatV x = true):Alk H n x x:=by
  cases n with
  | zero => exact ⟨rfl,h⟩
  | succ n => exact .inl ⟨rfl,h⟩
theorem Alk.lst {H:Hp} {n:Nat} {p q:Addr} {xs ys:List V} (hp:rdL H p = some xs) (hq:rdL H q = some ys) (hl:xs.length = ys.length) (h:∀ (j:Nat) x y,xs[j]? = some x → ys[j]? = some y → Alk H n x y):Alk H (n + 1) (.ref p) (.ref q):=.inr ⟨p,q,xs,ys,rfl,rfl,.inl ⟨hp,hq⟩,hl,h⟩
theorem Alk.tup {H:Hp} {n:Nat} {p q:Addr} {xs ys:List V} (hp:tupL H p = some xs) (hq:tupL H q = some ys) (hl:xs.length = ys.length) (h:∀ (j:Nat) x y,xs[j]? = some x → ys[j]? = some y → Alk H n x y):Alk H (n + 1) (.ref p) (.ref q):=.inr ⟨p,q,xs,ys,rfl,rfl,.inr ⟨hp,hq⟩,hl,h⟩
theorem Alk.flats {H:Hp} {n:Nat} {xs:List V} (f:xs.all flatV = true):∀ (j:Nat) x y,xs[j]? = some x → xs[j]? = some y → Alk H n x y:=fun j x y hx hy => by
  rw [hx] at hy
  cases hy
  exact .flat (List.all_eq_true.mp f x (List.mem_of_getElem? hx))
theorem Alk.tups {H H1 H2:Hp} {n:Nat} {ps qs:List Addr} {fs:List (List V)} (tp:Tups H1 H ps fs) (tq:Tups H2 H qs fs) (f:∀ t ∈ fs,t.all flatV = true):∀ (j:Nat) x y,(ps.map V.ref)[j]? = some x → (qs.map V.ref)[j]? = some y → Alk H (n + 1) x y:=fun j x y hx hy => by
  rw [List.getElem?_map] at hx hy
  cases ep:ps[j]? with
  | none => rw [ep] at hx; cases hx
  | some p =>
    cases eq:qs[j]? with
    | none => rw [eq] at hy; cases hy
    | some q =>
      rw [ep] at hx
      rw [eq] at hy
      cases hx
      cases hy
      have hj:j < fs.length:=by rw [← tp.1]; exact (List.getElem?_eq_some_iff.mp ep).1
      have a:=(tp.2 j p fs[j] ep (List.getElem?_eq_getElem hj)).2
      have b:=(tq.2 j q fs[j] eq (List.getElem?_eq_getElem hj)).2
      exact .tup (tupL_of a) (tupL_of b) rfl (.flats (f _ (List.getElem_mem _)))
theorem eqV_self {x:V} (h:flatV x = true):eqV x x = true:=by
  cases x <;> first | rfl | (simp [eqV]; done) | (cases h; done)
section
variable {X:Cx}
end
def Lsts (H1 Hc:Hp) (ps:List Addr) (fs:List (List V)):Prop:=ps.length = fs.length ∧ ∀ (j:Nat) p t,ps[j]? = some p → fs[j]? = some t → H1 p = none ∧ Hc p = some (.lst t)
theorem Lsts.keep {H1 Hc Hd:Hp} {ps:List Addr} {fs:List (List V)} (t:Lsts H1 Hc ps fs) (s:Same Hc Hd):Lsts H1 Hd ps fs:=⟨t.1,fun j p u hp hu => ⟨(t.2 j p u hp hu).1,s _ _ (t.2 j p u hp hu).2⟩⟩
theorem Lsts.put {H1 Hc:Hp} {ps:List Addr} {fs:List (List V)} {D:Addr} {o:HO} (t:Lsts H1 Hc ps fs) (h:∀ p ∈ ps,p ≠ D):Lsts H1 (upd Hc D o) ps fs:=⟨t.1,fun j p u hp hu => by
  obtain ⟨a,b⟩:=t.2 j p u hp hu
  refine ⟨a,?_⟩
  rw [upd_ne (h p (List.mem_of_getElem? hp))]
  exact b⟩
theorem Lsts.snoc {H1 Hc:Hp} {ps:List Addr} {fs:List (List V)} {q:Addr} {g:List V} (t:Lsts H1 Hc ps fs) (a:H1 q = none) (b:Hc q = some (.lst g)):Lsts H1 Hc (ps ++ [q]) (fs ++ [g]):=by
  refine ⟨by rw [List.length_append,List.length_append,t.1]; rfl,fun j p v hp hv => ?_⟩
  by_cases h:j < ps.length
  · rw [List.getElem?_append_left h] at hp
    rw [List.getElem?_append_left (by rw [← t.1]; exact h)] at hv
    exact t.2 j p v hp hv
  · rw [List.getElem?_append_right (by omega)] at hp
    rw [List.getElem?_append_right (by rw [← t.1]; omega),← t.1] at hv
    cases e:j - ps.length with
    | zero => rw [e] at hp hv; cases hp; cases hv; exact ⟨a,b⟩
    | succ n => rw [e] at hp; cases hp
theorem Lsts.nil {H1 Hc:Hp}:Lsts H1 Hc [] []:=⟨rfl,fun j p u hp => by cases hp⟩
theorem Lsts.mem {H1 Hc:Hp} {ps:List Addr} {fs:List (List V)} (t:Lsts H1 Hc ps fs) {p:Addr} (hp:p ∈ ps):∃ g ∈ fs,H1 p = none ∧ Hc p = some (.lst g):=by
  obtain ⟨j,hj⟩:=List.mem_iff_getElem?.mp hp
  have hl:j < fs.length:=by rw [← t.1]; exact (List.getElem?_eq_some_iff.mp hj).1
  exact ⟨fs[j],List.getElem_mem _,t.2 j p _ hj (List.getElem?_eq_getElem hl)⟩
section
variable {X:Cx}
end
end L2
set_option maxHeartbeats 4000000
namespace L2
open PySem PySem.Spec PyProof.Rows
section
variable {κ:Type} [DecidableEq κ]
def valV (kvs:List (κ × V)) (k:κ):Option V:=(kvs.find? fun kv => decide (kv.1 = k)).map (·.2)
def putK (kvs:List (κ × V)) (k:κ) (v:V):List (κ × V) :=
  if (kvs.any fun kv => decide (kv.1 = k)) = true then kvs.map (fun kv => if kv.1 = k then (kv.1,v) else kv) else kvs ++ [(k,v)]
def dropK (kvs:List (κ × V)) (k:κ):List (κ × V):=kvs.filter fun kv => decide (kv.1 ≠ k)
theorem valV_pos {p:κ × V} {r:List (κ × V)} {k:κ} (e:p.1 = k):valV (p :: r) k = some p.2:=by simp [valV,List.find?_cons,e]
theorem valV_neg {p:κ × V} {r:List (κ × V)} {k:κ} (e:¬ p.1 = k):valV (p :: r) k = valV r k:=by simp [valV,List.find?_cons,e]
theorem valV_any (k:κ):∀ kvs:List (κ × V),(kvs.any fun kv => decide (kv.1 = k)) = (valV kvs k).isSome
  | [] => rfl
  | p :: r => by
    rw [List.any_cons]
    by_cases e:p.1 = k
    · simp only [valV_pos e,decide_eq_true e,Bool.true_or,Option.isSome_some]
    · rw [valV_neg e,decide_eq_false e,Bool.false_or]; exact valV_any k r
theorem valV_map (k j:κ) (y:V):∀ kvs:List (κ × V),valV (kvs.map fun kv => if kv.1 = k then (kv.1,y) else kv) j = (valV kvs j).map fun x => if j = k then y else x
  | [] => rfl
  | p :: r => by
    have ih:=valV_map k j y r
    rw [List.map_cons]
    by_cases h:p.1 = k
    · rw [if_pos h]
      by_cases e:p.1 = j
      · rw [valV_pos (p:=(p.1,y)) e,valV_pos e,Option.map_some,if_pos (e.symm.trans h)]
      · rw [valV_neg (p:=(p.1,y)) e,valV_neg e,ih]
    · rw [if_neg h]
      by_cases e:p.1 = j
      · rw [valV_pos (p:=p) e,valV_pos e,Option.map_some,if_neg (fun z => h (e.trans z))]
      · rw [valV_neg (p:=p) e,valV_neg e,ih]
theorem valV_snoc (k j:κ) (y:V):∀ kvs:List (κ × V),valV kvs k = none → valV (kvs ++ [(k,y)]) j = if j = k then some y else valV kvs j
  | [],_ => by
    by_cases e:k = j
    · rw [if_pos e.symm]; exact valV_pos (p:=(k,y)) e
    · rw [if_neg (fun z => e z.symm)]; exact valV_neg (p:=(k,y)) e
  | p :: r,hn => by
    rw [List.cons_append]
    have hk:¬ p.1 = k:=fun z => by rw [valV_pos z] at hn; cases hn
    rw [valV_neg hk] at hn
    have ih:=valV_snoc k j y r hn
    by_cases e:p.1 = j
    · rw [valV_pos e,valV_pos e,if_neg (fun z => hk (e.trans z))]
    · rw [valV_neg e,valV_neg e,ih]
theorem valV_put (kvs:List (κ × V)) (k j:κ) (y:V):valV (putK kvs k y) j = if j = k then some y else valV kvs j:=by
  unfold putK
  by_cases a:(kvs.any fun kv => decide (kv.1 = k)) = true
  · rw [if_pos a,valV_map]
    rw [valV_any] at a
    by_cases e:j = k
    · obtain ⟨x,hx⟩:=Option.isSome_iff_exists.mp a
      rw [if_pos e,e,hx,Option.map_some,if_pos rfl]
    · rw [if_neg e]
      cases valV kvs j with
      | none => rfl
      | some x => rw [Option.map_some,if_neg e]
  · rw [if_neg a]
    refine valV_snoc k j y kvs ?_
    rw [valV_any] at a
    cases q:valV kvs k with
    | none => rfl
    | some x => rw [q] at a; exact (a rfl).elim
theorem length_putK (kvs:List (κ × V)) (k:κ) (v:V):(putK kvs k v).length ≤ kvs.length + 1:=by
  unfold putK
  split
  · rw [List.length_map]; omega
  · rw [List.length_append,List.length_cons,List.length_nil]; omega
theorem RelO.isSome_eq {o:Option V} {u:Option Value} (r:RelO o u):o.isSome = u.isSome:=by
  cases o with
  | none => cases u with
    | none => rfl
    | some _ => exact (show False from r).elim
  | some _ => cases u with
    | none => exact (show False from r).elim
    | some _ => rfl
theorem RelO.getD {o:Option V} {u:Option Value} {d:V} {d':Value} (r:RelO o u) (rd:RelV d d'):RelV (o.getD d) (u.getD d'):=by
  cases o with
  | none => cases u with
    | none => exact rd
    | some _ => exact (show False from r).elim
  | some _ => cases u with
    | none => exact (show False from r).elim
    | some _ => exact r
theorem KV.val {kvs:List (κ × V)} {vs:List (κ × Value)} (r:KV kvs vs) (k:κ):RelO (valV kvs k) (valueAt vs k):=by
  unfold KV at r
  induction r with
  | nil => exact True.intro
  | @cons p q ps qs h t ih =>
    obtain ⟨h1,h2⟩:=h
    by_cases e:p.1 = k
    · have e':q.1 = k:=h1.symm.trans e
      have b:valueAt (q :: qs) k = some q.2:=by simp [valueAt,List.find?_cons,e']
      rw [valV_pos e,b]; exact h2
    · have e':¬ q.1 = k:=fun z => e (h1.trans z)
      have b:valueAt (q :: qs) k = valueAt qs k:=by simp [valueAt,List.find?_cons,e']
      rw [valV_neg e,b]; exact ih
theorem KV.any {kvs:List (κ × V)} {vs:List (κ × Value)} (r:KV kvs vs) (k:κ):(kvs.any fun kv => decide (kv.1 = k)) = vs.any fun kv => decide (kv.1 = k):=by
  unfold KV at r
  induction r with
  | nil => rfl
  | cons h t ih => rw [List.any_cons,List.any_cons,ih,h.1]
theorem KV.repl {kvs:List (κ × V)} {vs:List (κ × Value)} (r:KV kvs vs) (k:κ) {y:V} {u:Value} (ry:RelV y u) :
    KV (kvs.map fun kv => if kv.1 = k then (kv.1,y) else kv) (vs.map fun kv => if kv.1 = k then (kv.1,u) else kv):=by
  unfold KV at r ⊢
  induction r with
  | nil => exact .nil
  | @cons p q ps qs h t ih =>
    rw [List.map_cons,List.map_cons]
    refine .cons ?_ ih
    obtain ⟨h1,h2⟩:=h
    by_cases e:p.1 = k
    · rw [if_pos e,if_pos (h1.symm.trans e)]; exact ⟨h1,ry⟩
    · rw [if_neg e,if_neg (fun z => e (h1.trans z))]; exact ⟨h1,h2⟩
theorem KV.put {kvs:List (κ × V)} {vs:List (κ × Value)} (r:KV kvs vs) (k:κ) {y:V} {u:Value} (ry:RelV y u):KV (putK kvs k y) (stored vs k u):=by
  unfold putK stored
  rw [r.any k]
  by_cases e:(vs.any fun kv => decide (kv.1 = k)) = true
  · rw [if_pos e,if_pos e]; exact r.repl k ry
  · rw [if_neg e,if_neg e]; exact Paired.snoc r ⟨rfl,ry⟩
theorem KV.drop {kvs:List (κ × V)} {vs:List (κ × Value)} (r:KV kvs vs) (k:κ):KV (dropK kvs k) (without vs k):=by
  unfold KV at r ⊢
  unfold dropK without
  induction r with
  | nil => exact .nil
  | @cons p q ps qs h t ih =>
    obtain ⟨h1,h2⟩:=h
    rw [List.filter_cons,List.filter_cons]
    by_cases e:p.1 = k
    · have a:¬ decide (p.1 ≠ k) = true:=by simp [e]
      have b:¬ decide (q.1 ≠ k) = true:=by simp [h1.symm.trans e]
      rw [if_neg a,if_neg b]; exact ih
    · have e':¬ q.1 = k:=fun z => e (h1.trans z)
      have a:decide (p.1 ≠ k) = true:=by simp [e]
      have b:decide (q.1 ≠ k) = true:=by simp [e']
      rw [if_pos a,if_pos b]; exact .cons ⟨h1,h2⟩ ih
theorem KV.keys {kvs:List (κ × V)} {vs:List (κ × Value)} (r:KV kvs vs):kvs.map (·.1) = vs.map (·.1):=by
  unfold KV at r
  induction r with
  | nil => rfl
  | cons h t ih => rw [List.map_cons,List.map_cons,ih,h.1]
theorem KV.length {kvs:List (κ × V)} {vs:List (κ × Value)} (r:KV kvs vs):kvs.length = vs.length:=Paired.length r
end
theorem kV_is {P:Program} {w:World} {k:Key} {u:Value} (r:RelV (kV k) u):(mixKind P w).is k u = true:=by
  cases k with
  | inl i => obtain ⟨t,e⟩:=(show ∃ t,u = Value.int i t from r); subst e; exact mixKind_int P w i t
  | inr x => obtain ⟨t,e⟩:=(show ∃ t,u = Value.str x t from r); subst e; exact mixKind_str P w x t
theorem items_are {P:Program} {w:World}:∀ {ks:List Key} {us:List Value},Vals (ks.map kV) us → ItemsAre (mixKind P w) ks us
  | [],_,r => by rw [List.map_nil] at r; cases r; exact .nil
  | k :: ks,_,r => by
    rw [List.map_cons] at r
    cases r with
    | cons h t => exact .cons (kV_is h) (items_are t)
abbrev KT (H:Hp):List (List Key × V) → List (List Key × Addr × Value) → Prop:=Paired fun p q => p.1 = q.1 ∧ H q.2.1 = some (.tup (p.1.map kV)) ∧ RelV p.2 q.2.2
theorem KT.val {H:Hp} {kvs:List (List Key × V)} {xs:List (List Key × Addr × Value)} (r:KT H kvs xs) (k:List Key):RelO (valV kvs k) ((atKey xs k).map (·.2)):=by
  induction r with
  | nil => exact True.intro
  | @cons p q ps qs h t ih =>
    obtain ⟨h1,_,h2⟩:=h
    by_cases e:p.1 = k
    · have e':q.1 = k:=h1.symm.trans e
      have b:atKey (q :: qs) k = some q.2:=by simp [atKey,List.find?_cons,e']
      rw [valV_pos e,b]; exact h2
    · have e':¬ q.1 = k:=fun z => e (h1.trans z)
      have b:atKey (q :: qs) k = atKey qs k:=by simp [atKey,List.find?_cons,e']
      rw [valV_neg e,b]; exact ih
theorem KT.repl {H:Hp} {kvs:List (List Key × V)} {xs:List (List Key × Addr × Value)} (r:KT H kvs xs) (k:List Key) {y:V} {u:Value} (ry:RelV y u) :
    KT H (kvs.map fun kv => if kv.1 = k then (kv.1,y) else kv) (xs.map (putAt k u)):=by
  induction r with
  | nil => exact .nil
  | @cons p q ps qs h t ih =>
    rw [List.map_cons,List.map_cons]
    refine .cons ?_ ih
    obtain ⟨h1,h2,h3⟩:=h
    unfold putAt
    by_cases e:p.1 = k
    · rw [if_pos e,if_pos (h1.symm.trans e)]; exact ⟨h1,h2,ry⟩
    · rw [if_neg e,if_neg (fun z => e (h1.trans z))]; exact ⟨h1,h2,h3⟩
theorem KT.put {H:Hp} {kvs:List (List Key × V)} {xs:List (List Key × Addr × Value)} (r:KT H kvs xs) (k:List Key) {b:Addr} {y:V} {u:Value} (hb:H b = some (.tup (k.map kV))) (ry:RelV y u) :
    KT H (putK kvs k y) (storedH xs k b u):=by
  have e:(kvs.any fun kv => decide (kv.1 = k)) = (atKey xs k).isSome:=by
    rw [valV_any,(r.val k).isSome_eq,Option.isSome_map]
  unfold putK storedH
  rw [e]
  by_cases q:(atKey xs k).isSome = true
  · rw [if_pos q,if_pos q]; exact r.repl k ry
  · rw [if_neg q,if_neg q]; exact Paired.snoc r ⟨rfl,hb,ry⟩
theorem KT.keeps {H H':Hp} {kvs:List (List Key × V)} {xs:List (List Key × Addr × Value)} (r:KT H kvs xs) (ht:∀ b ys,H b = some (.tup ys) → H' b = some (.tup ys)):KT H' kvs xs :=
  Paired.mapP r fun _ _ z => ⟨z.1,ht _ _ z.2.1,z.2.2⟩
section
variable {P:Program} {w:World} {H:Hp} {h:Heap} {a:Addr}
theorem rd_of {u:HO} (ok:HOk P w H h) (e:Rd H a u):ObjOk P w H h a u:=e.ok ok
theorem dk_rd {kvs:List (Key × V)} (ok:HOk P w H h) (e:Rd H a (.dK kvs)):kvs.length ≤ sizeLine ∧ (a == sysModules) = false ∧ ∃ vs,KV kvs vs ∧ h.DictOf (mixKind P w) a vs :=
  show ObjOk P w H h a (.dK kvs) from rd_of ok e
theorem dk_of {kvs:List (Key × V)} (ok:HOk P w H h) (e:H a = some (.dK kvs)):kvs.length ≤ sizeLine ∧ (a == sysModules) = false ∧ ∃ vs,KV kvs vs ∧ h.DictOf (mixKind P w) a vs:=dk_rd ok (.inl e)
theorem key_of {ks:List Key} (ok:HOk P w H h) (e:H a = some (.tup (ks.map kV))):(tupleKind (mixKind P w)).is h ks a:=by
  obtain ⟨_,its,r,o,h1,h2,n,h3⟩:=(show ObjOk P w H h a (.tup (ks.map kV)) from ok a _ e)
  exact ⟨o,its.toArray,n,h1,h2,h3,by simpa using items_are r⟩
theorem dt_rd {kvs:List (List Key × V)} (ok:HOk P w H h) (e:Rd H a (.dT kvs)):kvs.length ≤ sizeLine ∧ (a == sysModules) = false ∧
    ∃ xs,KT H kvs xs ∧ h.DictOfH (tupleKind (mixKind P w)) a xs:=by
  obtain ⟨z,y,xs,r,o,es,ep,h1,h2,h3,h4,h5⟩:=(show ObjOk P w H h a (.dT kvs) from rd_of ok e)
  refine ⟨z,y,xs,r,o,es,ep,h1,h2,h3,h4,fun x hx => ?_,h5⟩
  have all:∀ {l:List (List Key × V)} {m:List (List Key × Addr × Value)},KT H l m → ∀ x ∈ m,(tupleKind (mixKind P w)).is h x.1 x.2.1:=by
    intro l m q
    induction q with
    | nil => intro x hx; exact nomatch hx
    | @cons p q ps qs hq t ih =>
      intro x hx
      rcases List.mem_cons.mp hx with e | hx
      · subst e
        exact key_of ok (by rw [← hq.1]; exact hq.2.1)
      · exact ih x hx
  exact all r x hx
end
def DGet (H:Hp) (a:Addr) (y:V) (r:Option V):Prop :=
  (∃ kvs k,Rd H a (.dK kvs) ∧ y = kV k ∧ r = valV kvs k) ∨ ∃ kvs k b,Rd H a (.dT kvs) ∧ y = .ref b ∧ H b = some (.tup (k.map kV)) ∧ r = valV kvs k
def DPut (H:Hp) (a:Addr) (y v:V) (H':Hp):Prop :=
  (∃ kvs k,H a = some (.dK kvs) ∧ y = kV k ∧ kvs.length < sizeLine ∧ H' = upd H a (.dK (putK kvs k v))) ∨
  ∃ kvs k b,H a = some (.dT kvs) ∧ y = .ref b ∧ H b = some (.tup (k.map kV)) ∧ kvs.length < sizeLine ∧ H' = upd H a (.dT (putK kvs k v))
theorem DGet.k {H:Hp} {a:Addr} {kvs:List (Key × V)} {k:Key} (e:H a = some (.dK kvs)):DGet H a (kV k) (valV kvs k):=.inl ⟨kvs,k,.inl e,rfl,rfl⟩
theorem DGet.t {H:Hp} {a b:Addr} {kvs:List (List Key × V)} {k:List Key} (e:H a = some (.dT kvs)) (eb:H b = some (.tup (k.map kV))):DGet H a (.ref b) (valV kvs k):=.inr ⟨kvs,k,b,.inl e,rfl,eb,rfl⟩
theorem DPut.k {H:Hp} {a:Addr} {kvs:List (Key × V)} {k:Key} {v:V} (e:H a = some (.dK kvs)) (hl:kvs.length < sizeLine):DPut H a (kV k) v (upd H a (.dK (putK kvs k v))):=.inl ⟨kvs,k,e,rfl,hl,rfl⟩
theorem DPut.t {H:Hp} {a b:Addr} {kvs:List (List Key × V)} {k:List Key} {v:V} (e:H a = some (.dT kvs)) (eb:H b = some (.tup (k.map kV))) (hl:kvs.length < sizeLine) :
    DPut H a (.ref b) v (upd H a (.dT (putK kvs k v))):=.inr ⟨kvs,k,b,e,rfl,eb,hl,rfl⟩
section
variable {X:Cx} {pins:List (Addr × Obj)} {σ:St} {H:Hp} {s:Shared} {a:Addr} {y v:V} {u r:Value} {o:Option V} {A:Around} {E:Value → Shared → Prop}
theorem Inv.big (I:Inv X pins σ H s):sysModules < s.heap.objs.size:=by
  have h:mainGlobals < s.heap.objs.size:=(I.mod.glob.keeps I.bk).lt
  exact Nat.lt_trans (by decide) h
theorem d_getItem {Q:Value → Shared → Prop} (hu:A.units + 1 < cLine) (I:Inv X pins σ H s) (g:DGet H a y (some v)) (ry:RelV y u) (h:∀ w' s',Inv X pins σ H s' → RelV v w' → Q w' s') :
    wpAny (model X.prog X.w) A (getItem (.ref a) u) Q E s:=by
  rcases g with ⟨kvs,k,e,ey,l⟩ | ⟨kvs,k,b,e,ey,eb,l⟩
  · subst ey
    obtain ⟨z,hd,vs,rel,dd⟩:=dk_rd I.hok e
    obtain ⟨w',hw,rw'⟩:=RelO.some_of (v:=v) (o:=valueAt vs k) (by rw [l]; exact rel.val k)
    exact wpAny_getItem_of (kV_is ry) dd.mapOf hw (h w' _ (I.tok _) rw')
  · subst ey
    cases (show u = Value.ref b from ry)
    obtain ⟨z,hd,xs,rel,dd⟩:=dt_rd I.hok e
    obtain ⟨w',hw,rw'⟩:=RelO.some_of (v:=v) (o:=(atKey xs k).map (·.2)) (by rw [l]; exact rel.val k)
    obtain ⟨p,hp,hp2⟩:=Option.map_eq_some_iff.mp hw
    refine wpAny_getItem_heap (tupleKind_room_in1 hu) (key_of I.hok eb) dd hp ?_
    rw [hp2]
    exact h w' _ (I.tok _) rw'
theorem d_notIn {Q:Value → Shared → Prop} (hu:A.units + 1 < cLine) (I:Inv X pins σ H s) (g:DGet H a y o) (ry:RelV y u) (h:∀ s',Inv X pins σ H s' → Q (.bool (!o.isSome)) s') :
    wpAny (model X.prog X.w) A (compareOp .NotIn u (.ref a)) Q E s:=by
  rcases g with ⟨kvs,k,e,ey,l⟩ | ⟨kvs,k,b,e,ey,eb,l⟩
  · subst ey
    obtain ⟨z,hd,vs,rel,dd⟩:=dk_rd I.hok e
    refine wpAny_notIn_of (kV_is ry) hd dd.mapOf ?_
    rw [← (rel.val k).isSome_eq,← l]
    exact h _ (I.tok _)
  · subst ey
    cases (show u = Value.ref b from ry)
    obtain ⟨z,hd,xs,rel,dd⟩:=dt_rd I.hok e
    refine wpAny_notIn_heap (tupleKind_room_in1 hu) (key_of I.hok eb) hd dd ?_
    have q:=(rel.val k).isSome_eq
    rw [Option.isSome_map] at q
    rw [← q,← l]
    exact h _ (I.tok _)
theorem dk_new {P:Program} {w:World} {H':Hp} {h':Heap} {kvs:List (Key × V)} {vs:List (Key × Value)} (z:kvs.length ≤ sizeLine) (hd:(a == sysModules) = false) (rel:KV kvs vs) (dd:h'.DictOf (mixKind P w) a vs) :
    ObjOk P w H' h' a (.dK kvs):=⟨z,hd,vs,rel,dd⟩
end
section
variable {X:Cx} {pins:List (Addr × Obj)} {σ:St} {H:Hp} {s:Shared} {a:Addr} {kvs:List (Key × V)} {k:Key} {u:Value} {A:Around} {E:Value → Shared → Prop}
end
def NoSl (i:Expr):Prop:=∀ ov iv,subscripted i false ov iv = operate [ov,iv] (getItem ov iv)
theorem subD_of {prog:Program} {w:World} {A:Around} {E:Value → Shared → Prop} {s:Shared} {env:Env} {value slice:Expr} {pos:Pos} {T id:String} {Q:Value → Shared → Prop}
    (hl:typeLookup (.type T) "__getitem__" = pure (some (.builtin id))) (hs:NoSl slice)
    (h:wpAny (model prog w) A (eval value env) (fun o s₁ => wpAny (model prog w) A (eval slice env) (fun i s₂ => s₂.TypeIs o T ∧ wpAny (model prog w) A (getItem o i) Q E s₂) E s₁) E s) :
    wpAny (model prog w) A (eval (.Subscript value slice pos) env) Q E s:=by
  refine Subscript_ (wpAny_mono h (fun o s₁ h₁ => wpAny_mono h₁ (fun i s₂ h₂ => ?_) fun _ _ x => x) fun _ _ x => x)
  obtain ⟨hT,h₂⟩:=h₂
  unfold subscriptTail
  refine wpAny_bind ?_
  rw [getitemInPython_of_ne hT.not_modules]
  refine wpAny_bind (wpAny_specialOf hT hl ?_)
  have fin:wpAny (model prog w) A (subscripted slice false o i) (fun r s₃ => wpAny (model prog w) A (letTemporaryGo value o r >>= fun _ => pure r) Q E s₃) E s₂:=by
    rw [hs o i]
    exact wpAny_operating (wpAny_mono h₂ (fun r s₃ h₃ => wpAny_bind (wpAny_letTemporaryGo (wpAny_pure h₃))) fun _ _ x => x)
  first
    | exact wpAny_pure (wpAny_bind fin)
    | exact wpAny_bind (wpAny_pure (wpAny_bind fin))
    | exact wpAny_bind fin
theorem dict_typeIs {X:Cx} {pins:List (Addr × Obj)} {σ:St} {H:Hp} {s:Shared} {a:Addr} {y:V} {o:Option V} (I:Inv X pins σ H s) (g:DGet H a y o):s.TypeIs (.ref a) "dict" := by
  rcases g with ⟨kvs,k,e,_,_⟩ | ⟨kvs,k,b,e,_,_,_⟩
  · obtain ⟨_,_,vs,_,dd⟩:=dk_rd I.hok e
    exact dd.typeIs
  · obtain ⟨_,_,xs,_,dd⟩:=dt_rd I.hok e
    exact dd.typeIs
def tDGet (td ty:TE):TE:=fun σ H Q => td σ H fun x H1 => ty σ H1 fun y H2 => ∃ a v,x = .ref a ∧ DGet H2 a y (some v) ∧ Q v H2
section
variable {X:Cx} {o i e value:Expr} {pos pos' tpos:Pos} {td ty tv:TE}
theorem pe_dget (hu:X.A.units + 1 < cLine) (ho:PE X o td) (hi:PE X i ty) (hs:NoSl i):PE X (.Subscript o i pos) (tDGet td ty):=by
  intro pins s σ H Q I h
  refine subD_of PySem.F.slot_dict_getitem.lookup hs (thn (ho pins s σ H _ I h) fun u s1 ⟨x,H1,I1,rx,q1⟩ => thn (hi pins s1 σ H1 _ I1 q1) fun iv s2 ⟨y,H2,I2,ry,a,v,ex,g,q2⟩ => ?_)
  subst ex
  obtain rfl:u = Value.ref a:=rx
  exact ⟨dict_typeIs I2 g,d_getItem hu I2 g ry fun w' s3 I3 rw' => ⟨v,H2,I3,rw',q2⟩⟩
end
section
variable {X:Cx} {pos:Pos}
end
def mergeK (kvs more:List (Key × V)):List (Key × V):=more.foldl (fun acc kv => putK acc kv.1 kv.2) kvs
theorem KV.merge:∀ {more:List (Key × V)} {rs:List (Key × Value)} {kvs:List (Key × V)} {vs:List (Key × Value)},KV more rs → KV kvs vs → KV (mergeK kvs more) (merged vs rs):=by
  intro more rs kvs vs r
  unfold KV at r
  induction r generalizing kvs vs with
  | nil => intro q; exact q
  | @cons p q ps qs h t ih =>
    intro r0
    have e:KV (putK kvs p.1 p.2) (stored vs q.1 q.2):=by
      have:=r0.put p.1 h.2
      rw [← h.1]; exact this
    exact ih e
theorem length_mergeK:∀ (more kvs:List (Key × V)),(mergeK kvs more).length ≤ kvs.length + more.length
  | [],kvs => by show kvs.length ≤ kvs.length + 0; omega
  | p :: r,kvs => by
    have h1:=length_mergeK r (putK kvs p.1 p.2)
    have h2:=length_putK kvs p.1 p.2
    show (mergeK (putK kvs p.1 p.2) r).length ≤ _
    rw [List.length_cons]; omega
structure M2 (X:Cx) (o:Expr) (m:Str) (apos:Pos) (e f:Expr) (cpos:Pos):Prop where
  base:attributeBase o m X.env (eval o X.env) = eval o X.env
  few:((backTo cpos (starEach [e,f] X.env)).all (fun x => !x.1) && (backToKw cpos (keywordEach [] X.env)).all (fun x => x.1.isSome)
    && decide (([e,f]:List Expr).length + ([]:List Keyword).length + (if ([]:List Keyword).isEmpty then 0 else 1) < 30)) = true
  line:(apos.endLine == cpos.line) = true
  trees:backTo cpos (starEach [e,f] X.env) = [(false,eval e X.env),(false,eval f X.env)]
section
variable {X:Cx} {pins:List (Addr × Obj)} {σ:St} {H:Hp} {s:Shared} {a:Addr} {y d:V} {u r:Value} {o:Option V} {A:Around} {E:Value → Shared → Prop}
end
section
variable {X:Cx} {o e f:Expr} {apos cpos:Pos} {td ty tx:TE}
end
section
variable {X:Cx} {pins:List (Addr × Obj)} {σ:St} {H:Hp} {s:Shared} {a:Addr} {kvs:List (Key × V)} {A:Around} {E:Value → Shared → Prop}
end
section
variable {X:Cx} {pins:List (Addr × Obj)} {σ:St} {H:Hp} {s:Shared} {a:Addr} {y:V} {u:Value} {A:Around} {E:Value → Shared → Prop}
end
end L2
set_option maxHeartbeats 4000000
namespace L2
open PySem PySem.Spec PyProof.Rows
section
variable {X:Cx} {pins:List (Addr × Obj)} {σ:St} {H:Hp} {s:Shared}
theorem Inv.re {H':Hp} (I:Inv X pins σ H s) (hn:∀ b,H b = none → H' b = none) (tups:∀ b xs,X.H₀ b = some (.tup xs) → H' b = some (.tup xs)) (frzs:∀ b o u,X.H₀ b = some (.frz o u) → H' b = some (.frz o u))
    (tbls:∀ b ps,X.H₀ b = some (.tbl ps) → ∃ more,H' b = some (.tbl (ps ++ more))) (hok:HOk X.prog X.w H' s.heap):Inv X pins σ H' s :=
  ⟨I.ok,I.os,I.bare,⟨I.base.keep,I.base.slot,fun b o e n hx => hn b (I.base.free b o e n hx),I.base.there,tups,frzs,tbls⟩,I.loc,I.cell,hn _ I.free,fun x c e => hn c (I.freeC x c e),fun p hp => by
    obtain ⟨a,b,c,d,e⟩:=I.pin p hp
    exact ⟨a,hn _ b,c,d,e⟩,hok,I.len⟩
def isDi:HO → Bool
  | .dK _ => true
  | .dT _ => true
  | _ => false
theorem Inv.freeze {a:Addr} {u:HO} {o:Obj} (I:Inv X pins σ H s) (ha:H a = some u) (hu:isDi u = true) (ho:s.heap.get? a = some o):Inv X pins σ (upd H a (.frz o u)) s:=by
  have ne:∀ c v,H c = some v → isDi v = false → c ≠ a:=fun c v q n z => by rw [z,ha] at q; cases q; rw [n] at hu; cases hu
  have own:∀ c y,H c = some (.own y) → upd H a (.frz o u) c = some (.own y):=fun c y q => by rw [upd_ne (ne c _ q rfl)]; exact q
  have tup:∀ c xs,H c = some (.tup xs) → upd H a (.frz o u) c = some (.tup xs):=fun c xs q => by rw [upd_ne (ne c _ q rfl)]; exact q
  refine I.re (fun b q => by rw [upd_ne (fun z => by rw [z,ha] at q; cases q)]; exact q) (fun b xs q => tup b xs (I.base.tups b xs q)) (fun b o' v q => ?_) (fun b ps q => ?_) (fun b v q => ?_)
  · have:=I.base.frzs b o' v q
    rw [upd_ne (ne b _ this rfl)]
    exact this
  · obtain ⟨m,e⟩:=I.base.tbls b ps q
    exact ⟨m,by rw [upd_ne (ne b _ e rfl)]; exact e⟩
  · by_cases hb:b = a
    · subst hb
      rw [upd_same] at q
      cases q
      exact (show s.heap.get? b = some o ∧ ObjOk X.prog X.w (upd H b (.frz o u)) s.heap b u from ⟨ho,(I.hok b _ ha).stay (fun _ _ _ q => q) (fun c => own c b) tup⟩)
    · rw [upd_ne hb] at q
      exact (I.hok b v q).stay (fun _ _ _ q => q) (fun c => own c b) tup
def unf (Hs H:Hp):Hp:=fun b => match H b with
  | some (.frz o u) => (match Hs b with | some (.frz _ _) => some (.frz o u) | _ => some u)
  | x => x
theorem unf_of {Hs H:Hp} {b:Addr} {u:HO} (h:H b = some u) (n:∀ o v,u ≠ .frz o v):unf Hs H b = some u:=by
  unfold unf
  rw [h]
  cases u <;> first | rfl | exact absurd rfl (n _ _)
theorem unf_none {Hs H:Hp} {b:Addr} (h:H b = none):unf Hs H b = none:=by unfold unf; rw [h]
theorem unf_frz {Hs H:Hp} {b:Addr} {o:Obj} {u:HO} (h:H b = some (.frz o u)) (n:∀ o v,Hs b ≠ some (.frz o v)):unf Hs H b = some u:=by
  unfold unf
  rw [h]
  dsimp only
  split
  · rename_i e
    exact absurd e (n _ _)
  · rfl
theorem unf_old {Hs H:Hp} {b:Addr} {o o':Obj} {u u':HO} (h:H b = some (.frz o u)) (n:Hs b = some (.frz o' u')):unf Hs H b = some (.frz o u):=by
  unfold unf
  rw [h]
  dsimp only
  rw [n]
theorem Inv.unfreeze {Hs:Hp} (I:Inv X pins σ H s) (h0:∀ b o u,X.H₀ b = some (.frz o u) → Hs b = some (.frz o u)):Inv X pins σ (unf Hs H) s:=by
  have own:∀ c y,H c = some (.own y) → unf Hs H c = some (.own y):=fun c y q => unf_of q fun _ _ z => by cases z
  have tup:∀ c xs,H c = some (.tup xs) → unf Hs H c = some (.tup xs):=fun c xs q => unf_of q fun _ _ z => by cases z
  refine I.re (fun b q => unf_none q) (fun b xs q => tup b xs (I.base.tups b xs q)) (fun b o u q => unf_old (I.base.frzs b o u q) (h0 b o u q)) (fun b ps q => ?_) (fun b u q => ?_)
  · obtain ⟨m,e⟩:=I.base.tbls b ps q
    exact ⟨m,unf_of e fun _ _ z => by cases z⟩
  · cases e:H b with
    | none => rw [unf_none e] at q; cases q
    | some v =>
      have ok:=I.hok b v e
      by_cases hf:∃ o v',v = .frz o v'
      · obtain ⟨o,v',rfl⟩:=hf
        have ok2:s.heap.get? b = some o ∧ ObjOk X.prog X.w H s.heap b v':=ok
        by_cases hs:∃ o' u',Hs b = some (.frz o' u')
        · obtain ⟨o',u',hs⟩:=hs
          rw [unf_old e hs] at q
          cases q
          exact ok.stay (fun _ _ _ q => q) (fun c => own c b) tup
        · rw [unf_frz e fun o v z => hs ⟨o,v,z⟩] at q
          cases q
          exact ok2.2.stay (fun _ _ _ q => q) (fun c => own c b) tup
      · rw [unf_of e fun o v' z => hf ⟨o,v',z⟩] at q
        cases q
        exact ok.stay (fun _ _ _ q => q) (fun c => own c b) tup
end
section
variable {X:Cx} {e:Expr} {st:Stmt}
end
section
variable {X:Cx} {tg:Expr}
theorem dict_obj {pins:List (Addr × Obj)} {σ:St} {H:Hp} {s:Shared} {a:Addr} {kvs:List (Key × V)} (I:Inv X pins σ H s) (ha:H a = some (.dK kvs)):∃ o es ep,s.heap.get? a = some o ∧ o.data = .dict es ep:=by
  obtain ⟨_,_,vs,_,o,es,ep,ho,_,hd,_⟩:=dk_of I.hok ha
  exact ⟨o,es,ep,ho,hd⟩
theorem frz_obj {pins:List (Addr × Obj)} {σ:St} {H:Hp} {s:Shared} {a:Addr} {o:Obj} {kvs:List (Key × V)} (I:Inv X pins σ H s) (ha:H a = some (.frz o (.dK kvs))):∃ ep,∃ es,o.data = .dict es ep:=by
  have ok:s.heap.get? a = some o ∧ (kvs.length ≤ sizeLine ∧ (a == sysModules) = false ∧ ∃ vs,KV kvs vs ∧ s.heap.DictOf (mixKind X.prog X.w) a vs):=I.hok a _ ha
  obtain ⟨e,_,_,vs,_,o',es,ep,ho,_,hd,_⟩:=ok
  rw [e] at ho
  cases ho
  exact ⟨ep,es,hd⟩
def toWalk (H:Hp) (a:Addr) (R:Obj → List (Key × V) → Hp → Prop):Prop:=(∃ kvs,H a = some (.dK kvs) ∧ ∀ o,R o kvs (upd H a (.frz o (.dK kvs)))) ∨ ∃ o kvs,H a = some (.frz o (.dK kvs)) ∧ R o kvs H
theorem walk_at {pins:List (Addr × Obj)} {σ:St} {H:Hp} {s:Shared} {a:Addr} {R:Obj → List (Key × V) → Hp → Prop} (I:Inv X pins σ H s) (h:toWalk H a R) :
    ∃ o kvs H' ep,Inv X pins σ H' s ∧ H' a = some (.frz o (.dK kvs)) ∧ (∃ es,o.data = .dict es ep) ∧ R o kvs H':=by
  rcases h with ⟨kvs,ha,q⟩ | ⟨o,kvs,ha,q⟩
  · obtain ⟨o,es,ep,ho,hd⟩:=dict_obj I ha
    exact ⟨o,kvs,_,ep,I.freeze ha rfl ho,upd_same,⟨es,hd⟩,q o⟩
  · obtain ⟨ep,es,hd⟩:=frz_obj I ha
    exact ⟨o,kvs,H,ep,I,ha,⟨es,hd⟩,q⟩
end
section
variable {a:Addr} {o:Obj} {kvs:List (Key × V)} {g:TG} {tb:TS} {D:Ends} {σ:St} {H:Hp} {R:It → Hp → Prop} {tl:TE}
end
section
variable {X:Cx} {o e:Expr} {es:List Expr} {to:TE} {t:TA} {name:Str} {apos cpos:Pos} {id:String} {r:V → List V → Hp → VK → Prop}
def mDix (x y:V) (H:Hp) (Q:VK):Prop:=∃ a v,x = .ref a ∧ DGet H a y (some v) ∧ Q v H
end
section
variable {σ:St} {H:Hp} {Q:VK} {D:Ends} {a:Addr} {kvs:List (Key × V)} {z:Str} {v w:V} {to td ty tv:TE} {t:TA} {r:V → List V → Hp → VK → Prop}
theorem s_dix (h:td σ H fun x H1 => ty σ H1 fun y H2 => mDix x y H2 Q):tDGet td ty σ H Q:=h
theorem s_dixL (e:Rd H a (.dK kvs)) (l:valV kvs (Sum.inr z) = some v) (h:Q v H):mDix (.ref a) (.str z) H Q:=⟨a,v,rfl,.inl ⟨kvs,.inr z,e,rfl,l.symm⟩,h⟩
end
end L2
set_option maxHeartbeats 4000000
namespace L2
open PySem PySem.Spec PyProof.Rows
open PySem.AutoSeq1 (wpAny_loadPart')
open PySem.MeetsSeq PySem.MeetsSeq2 PySem.MeetsSeq3
def EqW (P:Program) (w:World) (A:Around) (s:Shared) (u v:Value):Prop:=∀ (E:Value → Shared → Prop) (Q:Bool → Shared → Prop),Q true s → wpAny (model P w) A (eqBool u v) Q E s
theorem eqw_loop2 {P:Program} {w:World} (l b:Addr) (xs ys:Array Value) (n n2:Nat) (dd dd2:Option Addr) (sl sl2:Array (Option Value)) (hsz:xs.size = ys.size) (k:Nat) :
    ∀ i:Nat,xs.size - i = k → MeetsIn P w (Builtin.«list.__eq__.loop» ⟨[.ref l,.ref b,rawInt i,rawInt 2],[]⟩)
      (fun A R s => s.heap.get? l = some ⟨.type "list",dd,.seq xs n,sl⟩ ∧ s.heap.get? b = some ⟨.type "list",dd2,.seq ys n2,sl2⟩ ∧ (∀ j (h1:j < xs.size) (h2:j < ys.size),EqW P w A.in1 s xs[j] ys[j]) ∧ R (.ok (.ret (.bool true))) s):=by
  induction k with
  | zero =>
    intro i hk A R s h
    obtain ⟨hp,g,d,tk,os⟩:=s
    obtain ⟨ha,hq,he,h⟩:=h
    wp_walk using (wpAny_loadPart' ha),(wpAny_loadPart' hq)
    have n1:xs[((i:Nat):Int).toNat]? = none:=by simp; omega
    have n2':ys[((i:Nat):Int).toNat]? = none:=by simp; omega
    rw [n1,n2']
    wp_walk using (wpAny_loadPart' ha),(wpAny_loadPart' hq)
    show R (.ok (.ret (.bool (xs.size == ys.size)))) _
    rw [hsz,beq_self_eq_true]
    exact h
  | succ k ih =>
    intro i hk A R s h
    obtain ⟨hp,g,d,tk,os⟩:=s
    obtain ⟨ha,hq,he,h⟩:=h
    wp_walk using (wpAny_loadPart' ha),(wpAny_loadPart' hq)
    have l1:i < xs.size:=by omega
    have l2:i < ys.size:=by omega
    have n1:xs[((i:Nat):Int).toNat]? = some xs[i]:=by simp [l1]
    have n2':ys[((i:Nat):Int).toNat]? = some ys[i]:=by simp [l2]
    have hc:((i:Int) + 1) = ((i + 1:Nat):Int):=by push_cast; rfl
    rw [n1,n2']
    refine wpAny_bind (he i l1 l2 _ _ ?_)
    wp_walk
    rw [hc]
    refine ⟨plainId_quiet plain_eq_loop _,codeAny_builtin entry_eq_loop ?_⟩
    rw [Around.under_plainId plain_eq_loop _]
    exact ih (i + 1) (by omega) A R _ ⟨ha,hq,he,h⟩
theorem eqw_loop3 {P:Program} {w:World} (l b:Addr) (xs ys:Array Value) (n n2:Nat) (dd dd2:Option Addr) (sl sl2:Array (Option Value)) (hsz:xs.size = ys.size) (k:Nat) :
    ∀ i:Nat,xs.size - i = k → MeetsIn P w (Builtin.«list.__eq__.loop» ⟨[.ref l,.ref b,rawInt i,rawInt 3],[]⟩)
      (fun A R s => s.heap.get? l = some ⟨.type "list",dd,.seq xs n,sl⟩ ∧ s.heap.get? b = some ⟨.type "list",dd2,.seq ys n2,sl2⟩ ∧ (∀ j (h1:j < xs.size) (h2:j < ys.size),EqW P w A.in1 s xs[j] ys[j]) ∧ R (.ok (.ret (.bool false))) s):=by
  induction k with
  | zero =>
    intro i hk A R s h
    obtain ⟨hp,g,d,tk,os⟩:=s
    obtain ⟨ha,hq,he,h⟩:=h
    wp_walk using (wpAny_loadPart' ha),(wpAny_loadPart' hq)
    have n1:xs[((i:Nat):Int).toNat]? = none:=by simp; omega
    have n2':ys[((i:Nat):Int).toNat]? = none:=by simp; omega
    rw [n1,n2']
    wp_walk using (wpAny_loadPart' ha),(wpAny_loadPart' hq)
    show R (.ok (.ret (.bool (xs.size != ys.size)))) _
    rw [hsz,bne_self_eq_false]
    exact h
  | succ k ih =>
    intro i hk A R s h
    obtain ⟨hp,g,d,tk,os⟩:=s
    obtain ⟨ha,hq,he,h⟩:=h
    wp_walk using (wpAny_loadPart' ha),(wpAny_loadPart' hq)
    have l1:i < xs.size:=by omega
    have l2:i < ys.size:=by omega
    have n1:xs[((i:Nat):Int).toNat]? = some xs[i]:=by simp [l1]
    have n2':ys[((i:Nat):Int).toNat]? = some ys[i]:=by simp [l2]
    have hc:((i:Int) + 1) = ((i + 1:Nat):Int):=by push_cast; rfl
    rw [n1,n2']
    refine wpAny_bind (he i l1 l2 _ _ ?_)
    wp_walk
    rw [hc]
    refine ⟨plainId_quiet plain_eq_loop _,codeAny_builtin entry_eq_loop ?_⟩
    rw [Around.under_plainId plain_eq_loop _]
    exact ih (i + 1) (by omega) A R _ ⟨ha,hq,he,h⟩
section
variable {P:Program} {w:World} {A:Around} {E:Value → Shared → Prop} {s:Shared} {l b:Addr} {xs ys:Array Value}
theorem rcw_eq {Q:Value → Shared → Prop} (hl:s.heap.IsList l xs) (hb:s.heap.IsList b ys) (hsz:xs.size = ys.size) (hu:A.units < cLine) (he:∀ j (h1:j < xs.size) (h2:j < ys.size),EqW P w A.in1 s xs[j] ys[j]) (h:Q (.bool true) s) :
    wpAny (model P w) A (richCompare .Eq (.ref l) (.ref b)) Q E s:=by
  obtain ⟨⟨cls,dd,data,sl⟩,ho,hc,n,hd⟩:=id hl
  obtain ⟨⟨cls2,dd2,data2,sl2⟩,ho2,hc2,n2,hd2⟩:=id hb
  obtain rfl:cls = .type "list" := hc
  obtain rfl:data = .seq xs n:=hd
  obtain rfl:cls2 = .type "list" := hc2
  obtain rfl:data2 = .seq ys n2:=hd2
  have g:MeetsIn P w (Builtin.«list.__eq__» ⟨[.ref l,.ref b],[]⟩) (fun A R s => s.heap.get? l = some ⟨.type "list",dd,.seq xs n,sl⟩ ∧ s.heap.get? b = some ⟨.type "list",dd2,.seq ys n2,sl2⟩ ∧ (∀ j (h1:j < xs.size) (h2:j < ys.size),EqW P w A.in1 s xs[j] ys[j]) ∧ R (.ok (.ret (.bool true))) s):=by
    intro A R s h
    obtain ⟨hp,g,d,tk,os⟩:=s
    obtain ⟨ha,hq,he,h⟩:=h
    have f3:=AutoSeq1.sub_list_list
    have hne:¬ (xs.size != ys.size) = true:=by simp [hsz]
    wp_walk using (wpAny_loadPart' ha),(wpAny_loadPart' hq)
    refine ⟨plainId_quiet plain_eq_loop _,codeAny_builtin entry_eq_loop ?_⟩
    rw [Around.under_plainId plain_eq_loop _]
    exact eqw_loop2 l b xs ys n n2 dd dd2 sl sl2 hsz _ 0 rfl A R _ ⟨ha,hq,he,h⟩
  exact wpAny_richCompare_same_room (op:=.Eq) ⟨_,ho,rfl⟩ ⟨_,ho2,rfl⟩ PySem.F.slot_list_eq (call_meetsIn PySem.F.slot_list_eq ⟨_,ho,rfl⟩ PySem.F.entry_list_eq (PySem.F.args_list_eq_2 _ _) g ⟨ho,ho2,he,show Value.bool true ≠ Value.notImplemented ∧ Q (.bool true) s from ⟨(fun x => nomatch x),h⟩⟩) hu
theorem rcw_ne {Q:Value → Shared → Prop} (hl:s.heap.IsList l xs) (hb:s.heap.IsList b ys) (hsz:xs.size = ys.size) (hu:A.units < cLine) (he:∀ j (h1:j < xs.size) (h2:j < ys.size),EqW P w A.in1 s xs[j] ys[j]) (h:Q (.bool false) s) :
    wpAny (model P w) A (richCompare .NotEq (.ref l) (.ref b)) Q E s:=by
  obtain ⟨⟨cls,dd,data,sl⟩,ho,hc,n,hd⟩:=id hl
  obtain ⟨⟨cls2,dd2,data2,sl2⟩,ho2,hc2,n2,hd2⟩:=id hb
  obtain rfl:cls = .type "list" := hc
  obtain rfl:data = .seq xs n:=hd
  obtain rfl:cls2 = .type "list" := hc2
  obtain rfl:data2 = .seq ys n2:=hd2
  have g:MeetsIn P w (Builtin.«list.__ne__» ⟨[.ref l,.ref b],[]⟩) (fun A R s => s.heap.get? l = some ⟨.type "list",dd,.seq xs n,sl⟩ ∧ s.heap.get? b = some ⟨.type "list",dd2,.seq ys n2,sl2⟩ ∧ (∀ j (h1:j < xs.size) (h2:j < ys.size),EqW P w A.in1 s xs[j] ys[j]) ∧ R (.ok (.ret (.bool false))) s):=by
    intro A R s h
    obtain ⟨hp,g,d,tk,os⟩:=s
    obtain ⟨ha,hq,he,h⟩:=h
    have f3:=AutoSeq1.sub_list_list
    have hne:¬ (xs.size != ys.size) = true:=by simp [hsz]
    wp_walk using (wpAny_loadPart' ha),(wpAny_loadPart' hq)
    refine ⟨plainId_quiet plain_eq_loop _,codeAny_builtin entry_eq_loop ?_⟩
    rw [Around.under_plainId plain_eq_loop _]
    exact eqw_loop3 l b xs ys n n2 dd dd2 sl sl2 hsz _ 0 rfl A R _ ⟨ha,hq,he,h⟩
  exact wpAny_richCompare_same_room (op:=.NotEq) ⟨_,ho,rfl⟩ ⟨_,ho2,rfl⟩ PySem.F.slot_list_ne (call_meetsIn PySem.F.slot_list_ne ⟨_,ho,rfl⟩ PySem.F.entry_list_ne (PySem.F.args_list_ne_2 _ _) g ⟨ho,ho2,he,show Value.bool false ≠ Value.notImplemented ∧ Q (.bool false) s from ⟨(fun x => nomatch x),h⟩⟩) hu
theorem EqW.same (u:Value):EqW P w A s u u:=fun E Q hq => SeqAt.EqAt.same u P w E Q hq
theorem EqW.refs (hne:l ≠ b) (h:∀ (E:Value → Shared → Prop) (Q:Value → Shared → Prop),Q (.bool true) s → wpAny (model P w) A (richCompare .Eq (.ref l) (.ref b)) Q E s):EqW P w A s (.ref l) (.ref b):=fun E Q hq => by
  unfold eqBool
  refine wpAny_holding (wpAny_ite_split (fun hab => absurd (by have:=eq_of_beq hab; injection this) hne) (fun _ => ?_))
  exact wpAny_bind (h E _ (wpAny_truthy_bool hq))
end
def DEq (kvs kws:List (Key × V)):Prop:=kvs.length = kws.length ∧ ∀ kv ∈ kvs,flatV kv.2 = true ∧ valV kws kv.1 = some kv.2
theorem hits_of {A:Around} {s:Shared} {kws:List (Key × V)} {ws:List (Key × Value)} (rw':KV kws ws) {kvs:List (Key × V)} {vs:List (Key × Value)} (r:KV kvs vs) (h:∀ kv ∈ kvs,flatV kv.2 = true ∧ valV kws kv.1 = some kv.2):PySem.W.KeqHits A s ws vs true:=by
  unfold KV at r
  induction r with
  | nil => exact .nil
  | @cons kv vv _ _ hk t ih =>
    obtain ⟨k,v⟩:=kv
    obtain ⟨k',u⟩:=vv
    obtain ⟨e,ru⟩:=hk
    cases e
    obtain ⟨f,hv⟩:=h (k,v) (List.mem_cons_self ..)
    have ro:=rw'.val k
    rw [hv] at ro
    cases ey:valueAt ws k with
    | none => rw [ey] at ro; exact (show False from ro).elim
    | some y =>
      rw [ey] at ro
      have eq:=eqAt_V (A:=A) (s:=s) ru (show RelV v y from ro) f f
      rw [eqV_self f] at eq
      exact .hit (e:=true) (b:=true) ey eq (ih fun kv hkv => h kv (List.mem_cons_of_mem _ hkv))
theorem dict_rc {X:Cx} {pins:List (Addr × Obj)} {σ:St} {H:Hp} {s:Shared} (I:Inv X pins σ H s) {A:Around} {p q:Addr} {kvs kws:List (Key × V)} (hp:Rd H p (.dK kvs)) (hq:Rd H q (.dK kws)) (d:DEq kvs kws) (hu:A.units < cLine) (E:Value → Shared → Prop) (Q:Value → Shared → Prop) :
    (Q (.bool true) s → wpAny (model X.prog X.w) A (richCompare .Eq (.ref p) (.ref q)) Q E s) ∧ (Q (.bool false) s → wpAny (model X.prog X.w) A (richCompare .NotEq (.ref p) (.ref q)) Q E s):=by
  obtain ⟨z1,d1,vs,r1,dd1⟩:=dk_rd I.hok hp
  obtain ⟨z2,d2,ws,r2,dd2⟩:=dk_rd I.hok hq
  have hl:(vs.length == ws.length) = true:=beq_iff_eq.mpr (by rw [← r1.length,← r2.length]; exact d.1)
  refine ⟨fun h => PySem.W.keq_eq (r:=true) d1 d2 dd1 dd2 hu (fun _ => hits_of r2 r1 d.2) (by rw [hl]; exact h),fun h => PySem.W.keq_ne (r:=true) d1 d2 dd1 dd2 hu (fun _ => hits_of r2 r1 d.2) (by rw [hl]; exact h)⟩
def Alw (H:Hp):Nat → V → V → Prop
  | 0,x,y => x = y ∧ flatV x = true
  | n + 1,x,y => (x = y ∧ flatV x = true) ∨ ∃ p q,x = .ref p ∧ y = .ref q ∧ ((∃ xs ys,rdL H p = some xs ∧ rdL H q = some ys ∧ xs.length = ys.length ∧ ∀ (j:Nat) x' y',xs[j]? = some x' → ys[j]? = some y' → Alw H n x' y') ∨ ∃ kvs kws,Rd H p (.dK kvs) ∧ Rd H q (.dK kws) ∧ DEq kvs kws)
theorem Alw.flat {H:Hp} {n:Nat} {x:V} (h:flatV x = true):Alw H n x x:=by
  cases n with
  | zero => exact ⟨rfl,h⟩
  | succ n => exact .inl ⟨rfl,h⟩
theorem Alw.lst {H:Hp} {n:Nat} {p q:Addr} {xs ys:List V} (hp:rdL H p = some xs) (hq:rdL H q = some ys) (hl:xs.length = ys.length) (h:∀ (j:Nat) x y,xs[j]? = some x → ys[j]? = some y → Alw H n x y):Alw H (n + 1) (.ref p) (.ref q):=.inr ⟨p,q,rfl,rfl,.inl ⟨xs,ys,hp,hq,hl,h⟩⟩
theorem Alw.flats {H:Hp} {n:Nat} {xs:List V} (f:xs.all flatV = true):∀ (j:Nat) x y,xs[j]? = some x → xs[j]? = some y → Alw H n x y:=fun j x y hx hy => by
  rw [hx] at hy
  cases hy
  exact .flat (List.all_eq_true.mp f x (List.mem_of_getElem? hx))
section
variable {X:Cx}
end
section
variable {X:Cx} {e:Expr} {te:TE} {p2 pos pu pc:Pos} {j:Nat}
end
theorem Room.u1 {k:Nat} {A:Around} (r:Room k A):A.units + 1 < cLine:=by have:=r.un; omega
section
variable {X:Cx} {pu pc:Pos} {j:Nat}
def mPow:R2:=fun x y H Q => x = .int 10 ∧ y = .int 18 ∧ Q (.int 1000000000000000000) H
theorem m_pow:OpR X (binaryOp .Pow) mPow:=op_pow.imp fun x y H Q q => by
  obtain ⟨rfl,rfl,q⟩:=q
  exact ⟨10,18,rfl,rfl,⟨by decide,by decide,by decide⟩,by
    show Q (V.int ((10:Int) ^ (18:Int).toNat)) H
    rw [show (10:Int) ^ (18:Int).toNat = 1000000000000000000 by decide]
    exact q⟩
theorem s_pow {H:Hp} {Q:VK} (h:Q (.int 1000000000000000000) H):mPow (.int 10) (.int 18) H Q:=⟨rfl,rfl,h⟩
end
end L2
set_option maxHeartbeats 4000000
namespace L2
open PySem PySem.Spec PyProof.Rows
open PySem.AutoSeq1 (wpAny_loadPart')
section
variable {prog:Program} {w:World} {A:Around} {E:Value → Shared → Prop} {s:Shared}
theorem no_keys:typeLookup (.type "list") "keys" = pure none:=by rw [typeLookup_type,builtinLookup_eq_fast]; kernel_rfl
theorem keys_miss {a:Addr} {xs:Array Value} {k:Nat} {sl:Array (Option Value)} {Q:Option Value → Shared → Prop} (hx:s.heap.get? a = some ⟨.type "list",none,.seq xs k,sl⟩) (hA:A.handled = none)
    (h:∀ h' tk,(∀ b o,s.heap.get? b = some o → h'.get? b = some o) → Q none { s with heap:=h',toks:=tk }):wpAny (model prog w) A (getAttr? (.ref a) "keys") Q E s:=by
  obtain ⟨hp,g,d,tk,os⟩:=s
  have hT:∀ tk',(⟨hp,g,d,tk',os⟩:Shared).TypeIs (.ref a) "list" := fun _ => ⟨_,hx,rfl⟩
  have f1:=sub_AttributeError
  have f3:=PySem.F.slot_list_getattribute.lookup
  have f4:=PySem.F.slot_list_getattribute.bind (.ref a)
  have f5:=am_list_getattr_none
  unfold getAttr? getAttrBy? getAttrBy
  repeat (any_goals (first | assumption | exact hT _ | ((with_reducible show wpAny _ _ (call (Value.builtin "list.__getattribute__") _ _) _ _ _); refine call_meets PySem.F.slot_list_getattribute (hT _) am_entry_list_getattribute (PySem.F.args_list_getattribute_2 _ _) (meets_getattribute_miss_list a xs k sl "keys" _ no_keys (by decide +kernel) (by decide)) ⟨hx,hA,fun h' tk' e hx' => ?_⟩) | wp_step))
  obtain ⟨t',u',he⟩:=hx'.there
  show wpAny _ _ (getattributeRaised _ _ _ _ _ _ _) _ _ _
  unfold getattributeRaised
  repeat (any_goals (first | assumption | wp_step))
  exact h _ _ hx'.keeps
theorem seq_tuple {t:Addr} {xs:Array Value} {Q:Option (Array Value) → Shared → Prop} (h:s.heap.IsTuple t xs) (q:Q (some xs) s):wpAny (model prog w) A (seqItems? (.ref t)) Q E s:=by
  obtain ⟨o,ho,hc,n,hd⟩:=h
  unfold seqItems?
  refine wpAny_bind (wpAny_load ho ?_)
  rw [hd]
  exact wpAny_pure q
theorem plain_upd_loop:plainId "dict.update.loop" = true:=by decide +kernel
theorem entry_upd_loop:entryFor table "dict.update.loop" = some Builtin.«dict.update.loop» := entryFor_of_tree (by kernel_rfl)
theorem upd_loop {P:Program} {w:World} {K:Type} [DecidableEq K] {knd:PySem.KeyKind P w K} (d I l:Addr) (its:Array Value) (ps:List (K × Value)) (hpl:ps.length = its.size) (hdI:d ≠ I) (hlI:l ≠ I) (hld:l ≠ d) (k:Nat) :
    ∀ i:Nat,its.size - i = k → i ≤ its.size → ∀ kvs:List (K × Value),kvs.length + k ≤ sizeLine → MeetsIn P w (Builtin.«dict.update.loop» ⟨[.ref d,.ref I,rawInt i,.none],[]⟩)
      (fun A R s => A.handled = none ∧ s.heap.IsListIter I l i ∧ s.heap.IsList l its ∧ s.heap.DictOf knd d kvs ∧
        (∀ j (h:j < its.size),∃ t key val k',its[j] = .ref t ∧ t ≠ I ∧ t ≠ d ∧ s.heap.IsTuple t #[key,val] ∧ ps[j]? = some (k',val) ∧ knd.is k' key = true) ∧
        ∀ h' tk,(∀ b o,b ≠ I → b ≠ d → s.heap.get? b = some o → h'.get? b = some o) → h'.DictOf knd d (merged kvs (ps.drop i)) → R (.ok (.ret .none)) { s with heap:=h',toks:=tk }):=by
  induction k with
  | zero =>
    intro i hk hi kvs hz A R s h
    obtain ⟨hA,hit,hl,hd,hp,h⟩:=h
    unfold Builtin.«dict.update.loop»
    dsimp only [rawInt]
    refine wpAny_bind (wpAny_pyNext_list_end (show A.in1.handled = none from hA) hit hl (by simp; omega) fun h' eb => ?_)
    dsimp only
    unfold Builtin.Dict.addKeywords
    refine wpAny_bind (wpAny_pure (wpAny_pure ?_))
    refine h h' s.toks (fun b o hb _ e => eb b o hb e) ?_
    obtain ⟨o,es,ep,ho,r⟩:=hd
    rw [List.drop_of_length_le (by omega)]
    exact ⟨o,es,ep,eb d o hdI ho,r⟩
  | succ k ih =>
    intro i hk hi kvs hz A R s h
    obtain ⟨hA,hit,hl,hd,hp,h⟩:=h
    unfold Builtin.«dict.update.loop»
    dsimp only [rawInt]
    have hlt:i < its.size:=by omega
    obtain ⟨t,key,val,k',et,htI,htd,hT,hps,hk'⟩:=hp i hlt
    refine wpAny_bind (wpAny_pyNext_list_item hit hl (x:=its[i]) (by simp [hlt]) fun h' st' sb => ?_)
    dsimp only
    rw [et]
    have hT':h'.IsTuple t #[key,val]:=by
      obtain ⟨o,ho,r⟩:=hT
      exact ⟨o,(sb.2 t htI).trans ho,r⟩
    have hd':h'.DictOf knd d kvs:=by
      obtain ⟨o,es,ep,ho,r⟩:=hd
      exact ⟨o,es,ep,(sb.2 d hdI).trans ho,r⟩
    refine wpAny_bind (wpAny_holding (wpAny_bind (wpAny_tryCatch ?_)))
    unfold Builtin.Dict.pairItems
    refine wpAny_bind (wpAny_typeOf (T := "tuple") (s:={ s with heap:=h' }) (by obtain ⟨o,ho,hc,_⟩:=id hT'; exact ⟨o,ho,hc⟩) ?_)
    rw [if_pos (by decide)]
    obtain ⟨o,ho,hc,n,hdt⟩:=id hT'
    refine wpAny_bind (seq_tuple (s:={ s with heap:=h' }) hT' ?_)
    refine wpAny_pure ?_
    dsimp only [Option.getD]
    refine wpAny_holding (wpAny_dictSet_pairs (s:={ s with heap:=h' }) (knd:=knd) hk' hd' (fun h2 hd2 sb2 => ?_) (by omega))
    refine wpAny_pure ?_
    rw [show ((i:Int) + 1) = ((i + 1:Nat):Int) by push_cast; rfl]
    refine ⟨plainId_quiet plain_upd_loop _,codeAny_builtin entry_upd_loop ?_⟩
    rw [Around.under_plainId plain_upd_loop _]
    have hst:(stored kvs k' val).length ≤ kvs.length + 1:=by
      unfold stored
      split
      · rw [List.length_map]; omega
      · rw [List.length_append]; exact Nat.le_refl _
    refine ih (i + 1) (by omega) (by omega) (stored kvs k' val) (by omega) A R _ ⟨hA,?_,?_,hd2,fun j hj => ?_,fun h3 tk hk3 hd3 => ?_⟩
    · obtain ⟨oi,hoi,r⟩:=st'
      exact ⟨oi,(sb2.2 I (Ne.symm hdI)).trans hoi,r⟩
    · obtain ⟨ol,hol,r⟩:=hl
      exact ⟨ol,(sb2.2 l hld).trans ((sb.2 l hlI).trans hol),r⟩
    · obtain ⟨t2,key2,val2,k2,e2,n2,n3,⟨o2,ho2,r2⟩,p2,q2⟩:=hp j hj
      exact ⟨t2,key2,val2,k2,e2,n2,n3,⟨o2,(sb2.2 t2 n3).trans ((sb.2 t2 n2).trans ho2),r2⟩,p2,q2⟩
    · refine h h3 tk (fun b o hb1 hb2 e => hk3 b o hb1 hb2 ((sb2.2 b hb2).trans ((sb.2 b hb1).trans e))) ?_
      have hdr:ps.drop i = (k',val) :: ps.drop (i + 1):=by
        have hi':i < ps.length:=by omega
        rw [List.drop_eq_getElem_cons hi']
        have:=List.getElem?_eq_getElem hi'
        rw [hps] at this
        rw [← Option.some.inj this]
      rw [hdr]
      exact hd3
theorem call_dict_pairs {K:Type} [DecidableEq K] {knd:PySem.KeyKind prog w K} {l:Addr} {its:Array Value} {n:Nat} {ps:List (K × Value)} {Q:Value → Shared → Prop} (hx:s.heap.get? l = some ⟨.type "list",none,.seq its n,#[]⟩) (hA:A.handled = none) (hpl:ps.length = its.size) (hz:its.size ≤ sizeLine)
    (hp:∀ j (h:j < its.size),∃ t key val k',its[j] = .ref t ∧ s.heap.IsTuple t #[key,val] ∧ ps[j]? = some (k',val) ∧ knd.is k' key = true)
    (h:∀ h' tk,h'.DictOf knd s.heap.objs.size (merged [] ps) → (∀ b o,s.heap.get? b = some o → h'.get? b = some o) → Q (.ref s.heap.objs.size) { s with heap:=h',toks:=tk }) :
    wpAny (model prog w) A (call (.type "dict") [.ref l]) Q E s:=by
  refine callType_codes (Q₁:=fun ob s1 => ob = .ref s.heap.objs.size ∧ s1 = { s with heap:=s.heap.push { cls:=.type "dict",data:=.dict #[] } }) PySem.F.kt_called_dict (PySem.F.kt_typeCall_dict_1 _) PySem.F.entry_dict_init (kt_code_dict_new _ ⟨rfl,rfl⟩) ?_
  rintro ob s1 ⟨rfl,rfl⟩
  have hnw:(s.heap.push { cls:=.type "dict",data:=.dict #[] }).DictOf knd s.heap.objs.size []:=Heap.DictOf.new s.heap
  have hlx:(s.heap.push { cls:=.type "dict",data:=.dict #[] }).get? l = some ⟨.type "list",none,.seq its n,#[]⟩:=Heap.get?_push_of_some _ hx
  have hlt:l < s.heap.objs.size:=Heap.lt_size hx
  refine ⟨hnw.typeIs,PySem.F.args_dict_init_2 _ _,?_⟩
  unfold Builtin.«dict.__init__» Builtin.Dict.selfAndRest
  refine wpAny_bind (wpAny_bind (wpAny_notOrdered_dict hnw.typeIs (show wpAny _ _ (pure (s.heap.objs.size,[Value.ref l])) _ _ _ from wpAny_pure ?_)))
  show wpAny _ _ (Builtin.Dict.updateFrom "dict.__init__" s.heap.objs.size (.ref l) [] .none) _ _ _
  unfold Builtin.Dict.updateFrom
  refine wpAny_bind (wpAny_typeOf (T := "list") ⟨_,hlx,rfl⟩ ?_)
  rw [if_pos (by decide)]
  refine wpAny_bind (keys_miss (s:={ s with heap:=s.heap.push { cls:=.type "dict",data:=.dict #[] } }) hlx (show A.in1.in1.handled = none from hA) fun h1 tk1 k1 => ?_)
  rw [if_pos (show (none:Option Value).isNone = true from rfl)]
  refine wpAny_bind (wpAny_rule ?_)
  have hl1:h1.IsList l its:=⟨_,k1 _ _ hlx,rfl,n,rfl⟩
  refine wpAny_bind (wpAny_pyIter_list (s:={ s with heap:=h1,toks:=tk1 }) hl1 ?_)
  refine wpAny_pure ⟨plainId_quiet plain_upd_loop _,codeAny_builtin entry_upd_loop ?_⟩
  rw [Around.under_plainId plain_upd_loop _]
  have hd1:h1.DictOf knd s.heap.objs.size []:=by
    obtain ⟨o,es,ep,ho,r⟩:=hnw
    exact ⟨o,es,ep,k1 _ _ ho,r⟩
  have hdl:s.heap.objs.size < h1.objs.size:=by
    obtain ⟨o,_,_,ho,_⟩:=hd1
    exact Heap.lt_size ho
  have kk:∀ b o,s.heap.get? b = some o → (h1.push { cls:=.type "list_iterator",data:=.fields #[.ref l,.int 0 0] }).get? b = some o:=fun b o e => Heap.get?_push_of_some _ (k1 _ _ (Heap.get?_push_of_some _ e))
  refine upd_loop (knd:=knd) s.heap.objs.size h1.objs.size l its ps hpl (Nat.ne_of_lt hdl) (Nat.ne_of_lt (Nat.lt_trans hlt hdl)) (Nat.ne_of_lt hlt) _ 0 rfl (Nat.zero_le _) [] (by show 0 + its.size ≤ _; omega) A.in1 _ _ ⟨hA,⟨_,Heap.get?_push_size _ rfl,rfl,rfl⟩,hl1.push _,hd1.push _,fun j hj => ?_,fun h' tk k2 d2 => ⟨rfl,?_⟩⟩
  · obtain ⟨t,key,val,k',e,⟨ot,hot,r⟩,p,q⟩:=hp j hj
    have ltt:=Heap.lt_size hot
    exact ⟨t,key,val,k',e,Nat.ne_of_lt (Nat.lt_trans ltt hdl),Nat.ne_of_lt ltt,⟨ot,kk _ _ hot,r⟩,p,q⟩
  · exact h h' tk d2 fun b o e => k2 b o (Nat.ne_of_lt (Nat.lt_trans (Heap.lt_size e) hdl)) (Nat.ne_of_lt (Heap.lt_size e)) (kk b o e)
end
section
variable {X:Cx}
def PairsAt (H:Hp) (qs:List Addr) (kvs:List (Key × V)):Prop:=qs.length = kvs.length ∧ ∀ (j:Nat) q kv,qs[j]? = some q → kvs[j]? = some kv → H q = some (.tup [kV kv.1,kv.2])
def mDictPairs:List V → Hp → VK → Prop:=fun xs H Q => ∃ (p:Addr) (qs:List Addr) (kvs:List (Key × V)),xs = [.ref p] ∧ H p = some (.lst (qs.map V.ref)) ∧ PairsAt H qs kvs ∧ ∀ r,H r = none → Q (.ref r) (upd H r (.dK (mergeK [] kvs)))
theorem pair_vals {X:Cx} {pins:List (Addr × Obj)} {σ:St} {H:Hp} {s:Shared} (I:Inv X pins σ H s):∀ (kvs:List (Key × V)) (qs:List Addr),PairsAt H qs kvs → ∃ rs:List (Key × Value),KV kvs rs ∧ ∀ (j:Nat) q,qs[j]? = some q → ∃ key val k',s.heap.IsTuple q #[key,val] ∧ rs[j]? = some (k',val) ∧ (mixKind X.prog X.w).is k' key = true
  | [],qs,h => ⟨[],.nil,fun j q hq => by
      have:=(List.getElem?_eq_some_iff.mp hq).1
      rw [h.1] at this
      exact absurd this (Nat.not_lt_zero _)⟩
  | kv :: r,qs,h => by
    cases qs with
    | nil => exact absurd h.1 (by simp)
    | cons q qr =>
      obtain ⟨rs,rel,hr⟩:=pair_vals I r qr ⟨by have:=h.1; simpa using this,fun j q' kv' hq hk => h.2 (j + 1) q' kv' (by simpa using hq) (by simpa using hk)⟩
      have ht:=h.2 0 q kv rfl rfl
      obtain ⟨its,rv,pl,_⟩:=I.tuple (SqT.of (K:=X.K) ht)
      obtain ⟨key,val,rfl,r1,r2⟩:=vals2 rv
      refine ⟨(kv.1,val) :: rs,.cons ⟨rfl,r2⟩ rel,fun j q' hq => ?_⟩
      cases j with
      | zero =>
        cases hq
        exact ⟨key,val,kv.1,pl,rfl,kV_is r1⟩
      | succ j => exact hr j q' (by simpa using hq)
theorem m_dictPairs (hc:X.calm = true):CallR X (.type "dict") mDictPairs:=by
  intro pins s σ H xs us Q I r h
  obtain ⟨p,qs,kvs,rfl,hp,pa,q⟩:=h
  obtain ⟨u,rfl,ru⟩:=vals1 r
  cases ru
  obtain ⟨hz,its,n,rv,hx⟩:(qs.map V.ref).length ≤ sizeLine ∧ ∃ (its:List Value) (n:Nat),Vals (qs.map V.ref) its ∧ s.heap.get? p = some { cls:=.type "list",data:=.seq its.toArray n }:=I.hok p _ hp
  obtain ⟨rs,rel,hr⟩:=pair_vals I kvs qs pa
  have hl:=rv.length
  have hrl:=rel.length
  have hpk:=pa.1
  rw [List.length_map] at hl hz
  refine call_dict_pairs (knd:=mixKind X.prog X.w) (ps:=rs) hx (I.ok.hd hc) (by rw [List.size_toArray]; omega) (by rw [List.size_toArray]; omega) (fun j hj => ?_) (fun h' tk dd kk => ?_)
  · have hj':j < its.length:=by simpa using hj
    have hjq:j < qs.length:=by omega
    obtain ⟨u,hu,ru⟩:=rv.get (show (qs.map V.ref)[j]? = some (.ref qs[j]) by rw [List.getElem?_map,List.getElem?_eq_getElem hjq]; rfl)
    obtain ⟨key,val,k',a1,a2,a3⟩:=hr j _ (List.getElem?_eq_getElem hjq)
    rw [List.getElem?_eq_getElem hj'] at hu
    have ee:=Option.some.inj hu
    exact ⟨qs[j],key,val,k',by simpa using ee.trans ru,a1,a2,a3⟩
  · refine ⟨.ref s.heap.objs.size,_,I.laid (a:=s.heap.objs.size) (o:=.dK (mergeK [] kvs)) (t':=tk) kk (Nat.le_refl _) (dk_new (by have:=length_mergeK kvs []; rw [List.length_nil] at this; omega) (beq_eq_false_iff_ne.mpr (Ne.symm (Nat.ne_of_lt I.big))) (KV.merge rel .nil) dd),rfl,q _ (I.hok.fresh (Nat.le_refl _))⟩
theorem s_dictPairs {p:Addr} {qs:List Addr} {kvs:List (Key × V)} {H:Hp} {Q:VK} (hp:H p = some (.lst (qs.map V.ref))) (pa:PairsAt H qs kvs) (h:∀ r,H r = none → Q (.ref r) (upd H r (.dK (mergeK [] kvs)))):mDictPairs [.ref p] H Q:=⟨p,qs,kvs,rfl,hp,pa,h⟩
end
end L2
set_option maxHeartbeats 4000000
namespace L2
open PySem PySem.Spec PyProof.Rows PySem.W
section
variable {prog:Program} {w:World} {A:Around} {E:Value → Shared → Prop} {s:Shared} {K:Frag} {x D:Addr} {ox:Obj} {od:Option Obj}
theorem exc_init {e t0:Addr} {oe:Obj} {vs:Array Value} {rest:List Value} {Q:Value → Shared → Prop} (Z:ExK K D) (X:K.In s.heap) (I:InstAt s.heap e oe D od) (hb:PySem.W.subIn K (.ref D) (.type "ValueError") = some true) (hd:oe.data = .fields vs) (h0:vs[0]? = some (.ref t0)) (hr:rest.length ≤ sizeLine)
    (h:Q .none { s with heap:=(s.heap.push { cls:=.type "tuple",data:=.seq rest.toArray }).update e (Obj.mapFields (·.setIfInBounds 0 (.ref s.heap.objs.size))) }) :
    wpAny (model prog w) A (call (.builtin "ValueError.__init__") (.ref e :: rest)) Q E s:=by
  have he:=I.at_
  obtain ⟨cd,hc,_⟩:=any_some Z.cls
  have FB:=PySem.F.excBase_ValueError
  have L0:=I.type (M:=model prog w)
  have L1:=looks_subIn (M:=model prog w) X hb
  refine wpAny_call (codeAny_call_builtin FB.init.plain FB.initEntry ?_)
  have ck:∀ (Q:Unit → Shared → Prop) (E:Value → Shared → Prop) (B:Around),Q () s → wpAny (model prog w) B (checkBuiltinCall "ValueError.__init__" ⟨.ref e :: rest,[]⟩) Q E s:=fun Q E B hq => by
    simp only [checkBuiltinCall,FB.initKind,FB.initSplit,FB.initRow]
    refine wpAny_bind ((L0.andThen L1).at ?_)
    have hst:=FB.noStar
    have sg:∀ (a b:String) (n:Nat),Bind.check ⟨.positional, "*", "ValueError",.self,[⟨"args",.varPos,false⟩]⟩ a b n (List.map (fun x => x.fst) ({ pos:=Value.ref e :: rest }:Args).kw) = pure ():=fun a b n => check_star_args _ _ _ _ _ _
    repeat (first | wp_step)
    rw [I.cls]
    refine wpAny_bind ((looks_clsIn X hc).at (wpAny_pure ?_))
    repeat (first | wp_step)
    refine wpAny_onRaise ?_
    rw [sg]
    exact wpAny_pure hq
  refine ck _ _ _ ?_
  have hs0:0 < vs.size:=(Array.getElem?_eq_some_iff.mp h0).1
  have hg:=Heap.get?_push_of_some (h:=s.heap) { cls:=.type "tuple",data:=.seq rest.toArray } he
  unfold Builtin.«BaseException.__init__» newTuple Builtin.BaseException.bexcPut
  dsimp only
  rw [if_neg (by simp)]
  refine wpAny_bind (wpAny_newObj_type (wpAny_bind (wpAny_bind (wpAny_field hg hd h0 (wpAny_bind (wpAny_setField hg hd hs0 (wpAny_letGo (wpAny_pure h))))))) (by show rest.toArray.size ≤ sizeLine; rw [List.size_toArray]; exact hr))
def mroL (K:Frag) (D:Addr):Option (List Value):=(clsIn K D).map (·.mro)
theorem exc_setG {T dx:Addr} {name:Str} {v:Value} {h1:Heap} {m:Str → Option Value} {ns:List Str} {Q:Unit → Shared → Prop} (Z:ExK K D) (X:K.In s.heap) (I:InstAt s.heap x ox D od)
    (hs:findIn K (.ref D) "__setattr__" = some (some (.builtin "object.__setattr__"))) (hm:mroL K D = some [.ref D,.ref T,.type "ValueError",.type "Exception",.type "BaseException",.type "object"]) (hna:findIn K (.ref D) name = some none)
    (hi:∀ (B:Around) (Q':Option Addr → Shared → Prop) (E':Value → Shared → Prop),Q' (some dx) { s with heap:=h1,toks:=s.toks + 1 } → wpAny (model prog w) B (instanceDict x true) Q' E' { s with toks:=s.toks + 1 })
    (hn:h1.Ns1 dx m) (hw:Within m ns) (hz:ns.length < sizeLine)
    (h:∀ h' tk',h'.Ns1 dx (fun y => if y = name then some v else m y) → Heap.SameBut dx h1 h' → Q () { s with heap:=h',toks:=tk' }) :
    wpAny (model prog w) A (setAttr (.ref x) name v) Q E s:=by
  obtain ⟨cd,hc,hd'⟩:=any_some Z.cls
  have hmr:cd.mro = [.ref D,.ref T,.type "ValueError",.type "Exception",.type "BaseException",.type "object"]:=by
    unfold mroL at hm
    rw [hc] at hm
    exact Option.some.inj hm
  have SF:=PySem.F.store_ValueError
  have sub:Looks (model prog w) s.heap (isInstance (.ref x) (.type "object")) true:=I.type.andThen (looks_mroIn X Z.mo)
  have hmm:Looks (model prog w) s.heap (mroOf (.ref D)) cd.mro:=(looks_clsIn X hc).andThen .now
  have hx:=I.at_
  refine set_plain X I hs ?_
  refine codeAny_call_builtin SF.slot.plain SF.entry (@check_slot (model prog w) _ _ { s with toks:=s.toks + 1 } "object.__setattr__" "object" "__setattr__" (.ref x) [.str name s.toks,v] [] _ SF.kind SF.split sub (SF.args (.ref x) (.str name s.toks) v) ?_)
  rw [osa_eq,refuse_eq]
  refine wpAny_bind (wpAny_bind (I.type.here (s:={ s with toks:=s.toks + 1 }) (wpAny_bind (hmm.here (s:={ s with toks:=s.toks + 1 }) ?_))))
  rw [hmr,refuseLoop_ref,refuseLoop_ref,SF.passes]
  refine wpAny_pure (wpAny_bind (I.type.here (s:={ s with toks:=s.toks + 1 }) (wpAny_bind ((looks_findIn X hna).here (s:={ s with toks:=s.toks + 1 }) (wpAny_bind (wpAny_pure ?_))))))
  show wpAny (model prog w) A.in1 (Builtin.ObjectAttr.storeInOwnDict (Value.ref x) (Value.ref D) (Value.str name s.toks) name v false) _ _ _
  unfold Builtin.ObjectAttr.storeInOwnDict
  refine wpAny_bind (wpAny_pure ?_)
  rw [if_neg (show ¬ ((Value.ref D == Value.type "module") = true) by simp)]
  unfold Builtin.ObjectAttr.ownDictForStores
  refine wpAny_bind (hi _ _ _ ?_)
  show wpAny (model prog w) A.in1 (Builtin.ObjectAttr.storeInDict dx (Value.str name s.toks) name v) _ _ _
  unfold Builtin.ObjectAttr.storeInDict Builtin.ObjectAttr.newKeyGuard
  refine wpAny_bind (wpAny_pure (wpAny_bind (wpAny_nsSet1 hn fun h' hn' sb => ?_)))
  obtain ⟨oD,esD,epD,hoD,hdD,hcD⟩:=hn'.count (Within.cons name v hw)
  refine wpAny_bind (wpAny_lookBehind hoD (by rw [hdD]; exact pastItsLine_dict (Nat.le_trans hcD (by rw [List.length_cons]; omega))) ?_)
  exact wpAny_pure (h h' _ hn' sb)
theorem exc_set0 {T:Addr} {name:Str} {v:Value} {vs:Array Value} {Q:Unit → Shared → Prop} (Z:ExK K D) (X:K.In s.heap) (I:InstAt s.heap x ox D none) (hda:ox.data = .fields vs) (hdn:ox.dict = none)
    (hs:findIn K (.ref D) "__setattr__" = some (some (.builtin "object.__setattr__"))) (hm:mroL K D = some [.ref D,.ref T,.type "ValueError",.type "Exception",.type "BaseException",.type "object"]) (hna:findIn K (.ref D) name = some none)
    (h:∀ h' tk',h'.get? x = some { ox with dict:=some s.heap.objs.size } → h'.Ns1 s.heap.objs.size (fun y => if y = name then some v else none) → (∀ b o,b ≠ x → s.heap.get? b = some o → h'.get? b = some o) → Q () { s with heap:=h',toks:=tk' }) :
    wpAny (model prog w) A (setAttr (.ref x) name v) Q E s:=by
  obtain ⟨cd,hc,hd'⟩:=any_some Z.cls
  have hx:=I.at_
  have hx1:(s.heap.push { cls:=.type "dict",data:=.dict #[] }).get? x = some ox:=Heap.get?_push_of_some _ hx
  have hxs:x ≠ s.heap.objs.size:=Nat.ne_of_lt (Heap.lt_size hx)
  have hgd:((s.heap.push { cls:=.type "dict",data:=.dict #[] }).update x fun o => { o with dict:=some s.heap.objs.size }).get? s.heap.objs.size = some { cls:=.type "dict",data:=.dict #[] } :=
    (Heap.get?_update_ne _ _ _ _ hxs.symm).trans (Heap.get?_push_at rfl rfl)
  have hnd:((s.heap.push { cls:=.type "dict",data:=.dict #[] }).update x fun o => { o with dict:=some s.heap.objs.size }).Ns s.heap.objs.size (fun _ => none) :=
    ⟨_,#[],_,hgd,rfl,fun e he => absurd he (by simp),fun _ => rfl⟩
  have hxu:((s.heap.push { cls:=.type "dict",data:=.dict #[] }).update x fun o => { o with dict:=some s.heap.objs.size }).get? x = some { ox with dict:=some s.heap.objs.size }:=by
    refine Heap.get?_update_self _ hx1 ?_
    obtain ⟨a,b,c,d⟩:=ox
    cases hda
    rfl
  refine exc_setG Z X I hs hm hna (fun B Q' E' q => ?_) (Heap.Ns1.of_empty hnd) Within.nil (by rw [List.length_nil,sizeLine_eq]; omega) fun h' tk' n sb => h h' tk' ((sb.2 x hxs).trans hxu) n fun b o hb e =>
    (sb.2 b (Nat.ne_of_lt (Heap.lt_size e))).trans ((Heap.get?_update_ne _ _ _ _ hb).trans (Heap.get?_push_of_some _ e))
  unfold instanceDict
  refine wpAny_bind (wpAny_loadPart hx ?_)
  rw [I.cls]
  refine wpAny_bind ((looks_clsIn X hc).here (s:={ s with toks:=s.toks + 1 }) ?_)
  rw [hd',hdn,hda,if_neg (show ¬ ((!true) = true) by decide)]
  dsimp only
  rw [if_neg (show ¬ ((!true || !typeHasDict (Value.ref D)) = true) by simp [typeHasDict])]
  exact wpAny_bind (wpAny_alloc' (wpAny_bind (wpAny_update' hx1 (wpAny_pure q))))
theorem exc_set1 {T dx:Addr} {name:Str} {v:Value} {m:Str → Option Value} {ns:List Str} {odx:Obj} {Q:Unit → Shared → Prop} (Z:ExK K D) (X:K.In s.heap) (I:InstAt s.heap x ox D (some odx)) (hdn:ox.dict = some dx)
    (hs:findIn K (.ref D) "__setattr__" = some (some (.builtin "object.__setattr__"))) (hm:mroL K D = some [.ref D,.ref T,.type "ValueError",.type "Exception",.type "BaseException",.type "object"]) (hna:findIn K (.ref D) name = some none)
    (hn:s.heap.Ns1 dx m) (hw:Within m ns) (hz:ns.length < sizeLine)
    (h:∀ h' tk',h'.Ns1 dx (fun y => if y = name then some v else m y) → Heap.SameBut dx s.heap h' → Q () { s with heap:=h',toks:=tk' }) :
    wpAny (model prog w) A (setAttr (.ref x) name v) Q E s:=by
  obtain ⟨cd,hc,hd'⟩:=any_some Z.cls
  refine exc_setG Z X I hs hm hna (fun B Q' E' q => ?_) hn hw hz h
  unfold instanceDict
  refine wpAny_bind (wpAny_loadPart I.at_ ?_)
  rw [I.cls]
  refine wpAny_bind ((looks_clsIn X hc).here (s:={ s with toks:=s.toks + 1 }) ?_)
  rw [hd',hdn,if_neg (show ¬ ((!true) = true) by decide)]
  exact wpAny_pure q
end
end L2
set_option maxHeartbeats 4000000
namespace L2
open PySem PySem.Spec PyProof.Rows PySem.W
def excN (ea C:Addr) (d:Option Addr):HO:=.ext fun h => ∃ oe vs t0,h.get? ea = some oe ∧ oe.cls = .ref C ∧ oe.dict = d ∧ oe.data = .fields vs ∧ vs[1]? = some .none ∧ vs[0]? = some (.ref t0) ∧ vs[2]? = some .none
def xdO (dx:Addr) (fs:List (Str × V)):HO:=.ext fun h => ∃ mA,h.Ns1 dx mA ∧ (∀ f,RelO (fs.lookup f) (mA f)) ∧ Within mA (fs.map (·.1))
theorem excN_ok {P:Program} {w:World} {H:Hp} {h:Heap} {ea C:Addr} {d:Option Addr} {oe:Obj} {vs:Array Value} {t0:Addr} (g:h.get? ea = some oe) (c:oe.cls = .ref C) (di:oe.dict = d) (da:oe.data = .fields vs) (h1:vs[1]? = some .none) (h0:vs[0]? = some (.ref t0)) (c2:vs[2]? = some .none) :
    ObjOk P w H h ea (excN ea C d):=⟨⟨oe,vs,t0,g,c,di,da,h1,h0,c2⟩,⟨oe,g⟩,fun _ _ ⟨o,ws,t,g,q⟩ k => ⟨o,ws,t,k o g,q⟩⟩
theorem xdO_ok {P:Program} {w:World} {H:Hp} {h:Heap} {dx:Addr} {fs:List (Str × V)} {mA:Str → Option Value} (n:h.Ns1 dx mA) (r:∀ f,RelO (fs.lookup f) (mA f)) (wi:Within mA (fs.map (·.1))):ObjOk P w H h dx (xdO dx fs):=by
  refine ⟨⟨mA,n,r,wi⟩,?_,fun _ _ ⟨m,⟨o,es,ep,g,q⟩,r⟩ k => ⟨m,⟨o,es,ep,k o g,q⟩,r⟩⟩
  obtain ⟨o,es,ep,g,_⟩:=n
  exact ⟨o,g⟩
structure XcK (K:Frag) (C T:Addr):Prop where
  ex:ExK K C
  sa:findIn K (.ref C) "__setattr__" = some (some (.builtin "object.__setattr__"))
  mro:mroL K C = some [.ref C,.ref T,.type "ValueError",.type "Exception",.type "BaseException",.type "object"]
  vb:PySem.W.subIn K (.ref C) (.type "ValueError") = some true
def mroB (K:Frag) (C T:Addr):Bool:=(clsIn K C).any fun c => match c.mro with
  | [.ref a,.ref b,.type x,.type y,.type z,.type u] => a == C && b == T && x == "ValueError" && y == "Exception" && z == "BaseException" && u == "object"
  | _ => false
theorem mroL_of {K:Frag} {C T:Addr} (h:mroB K C T = true):mroL K C = some [.ref C,.ref T,.type "ValueError",.type "Exception",.type "BaseException",.type "object"]:=by
  obtain ⟨c,hc,h⟩:=any_some h
  unfold mroL
  rw [hc]
  split at h
  · rename_i hm
    simp only [Bool.and_eq_true,beq_iff_eq] at h
    obtain ⟨⟨⟨⟨⟨rfl,rfl⟩,rfl⟩,rfl⟩,rfl⟩,rfl⟩:=h
    exact congrArg some hm
  · cases h
theorem excN_inst {P:Program} {w:World} {H:Hp} {h:Heap} {ea D:Addr} {d:Option Addr} {oe:Obj} {vs:Array Value} (hok:HOk P w H h) (g:h.get? ea = some oe) (hc:oe.cls = .ref D) (hdi:oe.dict = d) (hda:oe.data = .fields vs) (hd:∀ dx,d = some dx → ∃ o,H dx = some o) :
    ∃ od,InstAt h ea oe D od:=by
  have no:notCls oe = true:=by
    obtain ⟨c,di,da,sl⟩:=oe
    cases hda
    rfl
  cases d with
  | none => exact ⟨none,g,hc,no,by rw [hdi]; trivial⟩
  | some dx =>
    obtain ⟨o,z⟩:=hd dx rfl
    obtain ⟨ob,g2⟩:=(hok dx o z).get
    exact ⟨some ob,g,hc,no,by rw [hdi]; exact g2⟩
theorem upd_as {H:Hp} {a:Addr} {o:HO} (e:H a = some o):upd H a o = H:=by
  funext b
  unfold upd
  split
  · rename_i z; rw [z,e]
  · rfl
def mXinit (K:Frag):List V → Hp → VK → Prop:=fun vs H Q => ∃ ea rest C T d,vs = .ref ea :: rest ∧ rest.length ≤ sizeLine ∧ H ea = some (excN ea C d) ∧ (∀ dx,d = some dx → ∃ o,H dx = some o) ∧ XcK K C T ∧ Q .non H
def tXinit (K:Frag) (t:TA):TE:=fun σ H Q => t σ H fun vs H1 => mXinit K vs H1 Q
theorem m_xinit {X:Cx}:CallR X (.builtin "ValueError.__init__") (mXinit X.K):=by
  intro pins s σ H xs us Q I r h
  obtain ⟨ea,rest,C,T,d,rfl,hl,he,hd,Z,q⟩:=h
  cases r with
  | @cons _ _ _ l2 r0 rr =>
    cases r0
    obtain ⟨oe,vs,t0,g,hc,hdi,hda,h1,h0,c2⟩:=(I.hok ea _ he).1
    obtain ⟨od,hI⟩:=excN_inst I.hok g hc hdi hda hd
    refine exc_init Z.ex I.kIn hI Z.vb hda h0 (by rw [← rr.length]; exact hl) ?_
    have g2:=Heap.get?_push_of_some (h:=s.heap) { cls:=.type "tuple",data:=.seq l2.toArray } g
    have hs0:0 < vs.size:=(Array.getElem?_eq_some_iff.mp h0).1
    have dm:=Obj.data_mapFields hda (·.setIfInBounds 0 (Value.ref s.heap.objs.size))
    refine ⟨.non,H,?_,rfl,q⟩
    have I2:=I.write (x:=ea) (e:=ea) (o:=excN ea C d) (t':=s.toks) (by rw [he]; exact True.intro) (.inl rfl) (fun b u hb z => (Heap.get?_update_other _ (Obj.mapFields (·.setIfInBounds 0 (Value.ref s.heap.objs.size))) (Ne.symm hb)).trans (Heap.get?_push_of_some _ z))
      ⟨_,Heap.get?_update_self _ g2 (Obj.isFreed_of_fields dm)⟩ (excN_ok (Heap.get?_update_self _ g2 (Obj.isFreed_of_fields dm)) (by rw [Obj.cls_mapFields]; exact hc) (by rw [dict_map]; exact hdi) dm (by rw [Array.getElem?_setIfInBounds]; simp [h1]) (t0:=s.heap.objs.size) (by simp [hs0]) ((Array.getElem?_setIfInBounds_ne (by decide)).trans c2))
    rw [upd_as he] at I2
    exact I2
section
variable {X:Cx} {x:Str} {T:Addr} {mc:Value} {e:Expr} {es:List Expr} {t:TA} {np apos pos:Pos}
theorem pe_xinit {pl:Sem Bool} (hg:Gl X x) (hm:X.mg x = some (.ref T)) (h1:specialIn X.K (.ref T) "__getattribute__" = some (some (.builtin "type.__getattribute__"))) (h2:readsIn X.K T mc = true)
    (h3:findCls X.K (.ref T) mc "__init__" = some (.val (.builtin "ValueError.__init__"))) (ha:PA X (e :: es) t) (hdb:(x == ("__debug__" : Str)) = false:=by decide)
    (hst:starEach (e :: es) X.env = (false,eval e X.env) :: starEach es X.env:=by rfl) (hpl:(backTo pos (starEach es X.env)).any (·.1) = false:=by rfl)
    (ht:eval (.Call (.Attribute (.Name x np) "__init__" apos) (e :: es) [] pos) X.env = (do
      let ov ← eval (.Name x np) X.env
      standAt apos.atName
      let (f,first) ← holding [ov] (getMethod ov "__init__" pl)
      callWith pos f first (backTo pos (starEach (e :: es) X.env)) (backToKw pos (keywordEach [] X.env))):=by rfl) :
    PE X (.Call (.Attribute (.Name x np) "__init__" apos) (e :: es) [] pos) (tXinit X.K t):=by
  intro pins s σ H Q I h
  refine PySem.W.methodCall_KW (pl:=pl) (ld_glob I hg hm ?_ hdb) ht
  refine method_cls I.kIn h1 (cls_value I.kIn h2 h3 rfl ?_)
  exact PyProof.Rows.callWith_builtin1 (thn (ha pos pins _ σ H _ (I.tok _) h) fun us s1 ⟨vs,H1,I1,r1,q1⟩ => m_xinit pins s1 σ H1 vs us Q I1 r1 q1) hst hpl
end
theorem Inv.freAt {X:Cx} {pins:List (Addr × Obj)} {σ:St} {H:Hp} {s:Shared} {a:Addr} (I:Inv X pins σ H s) (h:s.heap.objs.size ≤ a):Fre X pins a where
  s0:=Heap.get?_none_of_le (Nat.le_trans I.sz h)
  loc:=fun z => absurd (Nat.lt_of_lt_of_le I.lt h) (by rw [z]; exact Nat.lt_irrefl _)
  cell:=fun x c e z => by
    obtain ⟨_,o,g,_⟩:=I.cell x c e
    exact absurd (Nat.lt_of_lt_of_le (Heap.lt_size g) h) (by rw [z]; exact Nat.lt_irrefl _)
  pin:=fun p hp z => absurd (Nat.lt_of_lt_of_le (Heap.lt_size (I.pin p hp).1) h) (by rw [z]; exact Nat.lt_irrefl _)
def sXfld (K:Frag) (ta tv:TE) (f:Str):TS:=fun D σ H => tv σ H fun y H1 => ta σ H1 fun x H2 => ∃ ea C T,x = .ref ea ∧ XcK K C T ∧ findIn K (.ref C) f = some none ∧
  ((H2 ea = some (excN ea C none) ∧ ∀ dx,H2 dx = none → D.nx σ (upd (upd H2 ea (excN ea C (some dx))) dx (xdO dx [(f,y)]))) ∨
   (∃ dx fs,H2 ea = some (excN ea C (some dx)) ∧ H2 dx = some (xdO dx fs) ∧ fs.length < 100 ∧ D.nx σ (upd H2 dx (xdO dx ((f,y) :: fs)))))
theorem look_cons {f g:Str} {y:V} {fs:List (Str × V)}:List.lookup g ((f,y) :: fs) = if g = f then some y else fs.lookup g:=by
  rw [List.lookup_cons]
  by_cases z:g = f
  · rw [if_pos z,z]; simp
  · rw [if_neg z]
    have:(g == f) = false:=by simpa using z
    rw [this]
theorem ps_xfld {X:Cx} {o value:Expr} {f:Str} {pos pos':Pos} {ta tv:TE} (ha:PE X o ta) (hv:PE X value tv) (hs:swapsWith value (some (.Attribute o f pos')) pos.line X.env = pure false):PS X (.Assign [.Attribute o f pos'] value pos) (sXfld X.K ta tv f):=by
  intro pins s σ H D I h
  refine plainObj_wpAny_Assign_Attribute (thn (hv pins s σ H _ I h) fun u s1 ⟨y,H1,I1,ry,q⟩ => thn (ha pins s1 σ H1 _ I1 q) fun ov s2 ⟨x,H2,I2,rx,ea,C,T,ex,Z,hn,q2⟩ => ?_) hs
  subst ex
  obtain rfl:ov = Value.ref ea:=rx
  rcases q2 with ⟨he,q3⟩ | ⟨dx,fs,he,hdx,hl,q3⟩
  · obtain ⟨oe,vs,t0,g,hc,hdi,hda,h1,h0,c2⟩:=(I2.hok ea _ he).1
    obtain ⟨od,hI⟩:=excN_inst I2.hok g hc hdi hda (fun _ z => nomatch z)
    have hod:od = none:=by
      have z:=hI.dict
      rw [hdi] at z
      cases od with
      | none => rfl
      | some o => exact z.elim
    subst hod
    refine exc_set0 Z.ex I2.kIn hI hda hdi Z.sa Z.mro hn fun h' tk' gx ns kp => ?_
    have fr:=I2.freAt (Nat.le_refl _)
    have hfree:H2 s2.heap.objs.size = none:=I2.hok.fresh (Nat.le_refl _)
    have ne:s2.heap.objs.size ≠ ea:=fun z => by rw [z,he] at hfree; cases hfree
    have I3:=I2.write (x:=ea) (e:=ea) (o:=excN ea C (some s2.heap.objs.size)) (h':=h') (t':=tk') (by rw [he]; exact True.intro) (.inl rfl) kp ⟨_,gx⟩ (excN_ok gx hc rfl hda h1 h0 c2)
    have I4:=I3.adopt (a:=s2.heap.objs.size) (o:=xdO s2.heap.objs.size [(f,y)]) fr (by rw [upd_ne ne]; exact hfree) (xdO_ok ns (fun g => by
      rw [look_cons]
      split
      · exact ry
      · exact True.intro) (fun g hg => by
      by_cases z:g = f
      · rw [z]; exact List.mem_singleton.mpr rfl
      · exact absurd (show (if g = f then some u else none) = none by rw [if_neg z]) hg))
    exact ⟨σ,_,I4,q3 _ hfree⟩
  · obtain ⟨oe,vs,t0,g,hc,hdi,hda,h1,h0,c2⟩:=(I2.hok ea _ he).1
    obtain ⟨mA,n,r,wi⟩:=(I2.hok dx _ hdx).1
    obtain ⟨od,hI⟩:=excN_inst I2.hok g hc hdi hda (fun z e => by cases e; exact ⟨_,hdx⟩)
    have hod:∃ o,od = some o:=by
      have z:=hI.dict
      rw [hdi] at z
      cases od with
      | none => exact z.elim
      | some o => exact ⟨o,rfl⟩
    obtain ⟨o,rfl⟩:=hod
    refine exc_set1 Z.ex I2.kIn hI hdi Z.sa Z.mro hn n wi (by rw [List.length_map,sizeLine_eq]; omega) fun h' tk' ns sb => ?_
    have hd':∃ o,h'.get? dx = some o:=let ⟨o,_,_,e',_⟩:=ns; ⟨o,e'⟩
    have I3:=I2.write (x:=dx) (e:=dx) (o:=xdO dx ((f,y) :: fs)) (h':=h') (t':=tk') (by rw [hdx]; exact True.intro) (.inl rfl) (fun b q hb z => (sb.2 b hb).trans z) hd' (xdO_ok ns (fun g => by
      rw [look_cons]
      split
      · exact ry
      · exact r g) (fun g hg => by
      by_cases z:g = f
      · rw [z]; exact List.mem_cons_self
      · refine List.mem_cons_of_mem _ (wi g fun z2 => hg ?_)
        show (if g = f then some u else mA g) = none
        rw [if_neg z]; exact z2))
    exact ⟨σ,_,I3,q3⟩
end L2
set_option maxHeartbeats 4000000
namespace L2
open PySem PySem.Spec PyProof.Rows PySem.W
def excJ (K:Frag) (C:Addr) (bmB:List Value) (newId:String):Bool :=
  match K.lookup C with
  | some ⟨.type t,_,.cls c,sl⟩ => t == "type" && !c.hasDel && nsOkIn K c.ns &&
    (match c.mro with | .ref C1 :: bm => C1 == C && tailIn K bmB bm | _ => false) && (match sl.toList with | [_,_,_,_,some (.builtin n),_] => n == newId | _ => false)
  | _ => false
theorem objJ {K:Frag} {h:Heap} {C:Addr} {bmB:List Value} {newId:String} (X:K.In h) (q:excJ K C bmB newId = true) :
    ∃ bm N nm qn bs hd sn sub ab col dd k0 k1 k2 k3 k5,h.get? C = some (excClassObj nm qn C N bs bm hd sn sub ab col dd k0 k1 k2 k3 k5 newId) ∧ OwnTail h bmB bm:=by
  unfold excJ at q
  split at q
  · rename_i t dd c sl ho
    simp only [Bool.and_eq_true,beq_iff_eq,Bool.not_eq_true'] at q
    obtain ⟨⟨⟨⟨rfl,q1⟩,q2⟩,q3⟩,q4⟩:=q
    split at q3
    · rename_i C1 bm hm
      obtain ⟨rfl,q5⟩:C1 = C ∧ tailIn K bmB bm = true:=by simpa only [Bool.and_eq_true,beq_iff_eq] using q3
      split at q4
      · rename_i k0 k1 k2 k3 n k5 hs
        obtain rfl:n = newId:=by simpa using q4
        obtain ⟨nm,bs,mro,ns,qn,hd,sn,sub,ab,col,del⟩:=c
        dsimp only at hm q1 q2
        subst hm q1
        obtain ⟨l⟩:=sl
        cases (show l = _ from hs)
        exact ⟨bm,ns,nm,qn,bs,hd,sn,sub,ab,col,dd,k0,k1,k2,k3,k5,X _ _ ho,tail_of_in X q5⟩
      · cases q4
    · cases q3
  · cases q
section
variable {prog:Program} {w:World} {A:Around} {E:Value → Shared → Prop} {s:Shared} {K:Frag} {C f:Addr} {bmB:List Value} {B newId initId:String}
theorem type_make {rest:List Value} {Q:Fin → Shared → Prop} (FB:ExcBaseFacts B newId initId bmB) (X:K.In s.heap) (hx:excJ K C bmB newId = true) (hi:findIn K (.ref C) "__init__" = some (some (.ref f))) (hf:typeIn K (.ref f) = some (.type "function")) (hr:rest.length ≤ sizeLine)
    (hq:∀ h' e,Heap.MadeExcOf s.heap h' e (.ref C) rest → wpAny (model prog w) A (call (.ref f) (.ref e :: rest)) (fun r s' => r = .none ∧ Q (.done (.ret (.ref e))) s') E { s with heap:=h' }) :
    wpAny (model prog w) A (Builtin.«type.__call__» ⟨.ref C :: rest,[]⟩) Q E s:=by
  obtain ⟨h,g,d,t,os⟩:=s
  obtain ⟨bm,N,nm,qn,bs,hd,sn,sub,ab,col,dd,k0,k1,k2,k3,k5,hC,Tl⟩:=objJ X hx
  repeat (first | with_reducible refine wpAny_madeBy_exc hC ?_ | with_reducible refine wpAny_loadPart_at hC ?_ | wp_step)
  refine codeAny_call_builtin_code (Code.quiet_builtin _ FB.quiet) (wpAny_check_new_subT FB Tl hC (codeAny_exc_new_subT FB Tl hC ?_ hr))
  show wpAny _ _ _ _ _ _
  generalize hh1:(h.push { cls:=.type "tuple",data:=.seq rest.toArray }).push { cls:=.ref C,data:=.fields #[.ref h.objs.size,.none,.none,.none,.bool false,.none] } = h1
  have kp:∀ b o,h.get? b = some o → h1.get? b = some o:=fun b o e => by rw [← hh1]; exact Heap.get?_push_of_some _ (Heap.get?_push_of_some _ e)
  have hget:h1.get? (h.objs.size + 1) = some { cls:=.ref C,data:=.fields #[.ref h.objs.size,.none,.none,.none,.bool false,.none] }:=by rw [← hh1]; heap_get
  have X1:=X.keeps kp
  have hC1:=kp _ _ hC
  have hcC:(Value.ref C :: bm).contains (.ref C) = true:=by simp
  unfold isInstance
  repeat (first | (with_reducible refine wpAny_isSubtype_exc hC1 ?_; rw [hcC]) | with_reducible refine wpAny_loadPart_at hget ?_ | wp_step)
  show wpAny _ _ (typeLookup (.ref C) _) _ _ _
  refine (looks_findIn X1 hi).here (s:=⟨h1,g,d,t,os⟩) (wpAny_holding (wpAny_bind ?_))
  unfold bindSpecial
  refine wpAny_bind ((looks_typeIn X1 hf).here (s:=⟨h1,g,d,t,os⟩) ?_)
  rw [if_pos (by decide)]
  refine wpAny_pure (wpAny_bind (wpAny_mono (hq h1 (h.objs.size + 1) ⟨kp,Heap.get?_none_of_le (Nat.le_succ _),h.objs.size,hget,Heap.get?_none_of_le (Nat.le_refl _),?_⟩) (fun r s' hr => ?_) fun _ _ z => z))
  · rw [← hh1]
    exact Heap.get?_push_of_some _ (Heap.get?_push_at rfl rfl)
  · obtain ⟨rfl,z⟩:=hr
    wp_walk
    exact z
theorem exc_make {rest:List Value} {Q:Value → Shared → Prop} (FB:ExcBaseFacts B newId initId bmB) (X:K.In s.heap) (hx:excJ K C bmB newId = true) (hi:findIn K (.ref C) "__init__" = some (some (.ref f))) (hf:typeIn K (.ref f) = some (.type "function")) (hr:rest.length ≤ sizeLine)
    (hq:∀ h' e,Heap.MadeExcOf s.heap h' e (.ref C) rest → wpAny (model prog w) (A.under (.builtin "type.__call__" ⟨.ref C :: rest,[]⟩)) (call (.ref f) (.ref e :: rest)) (fun r s' => r = .none ∧ Q (.ref e) s') E { s with heap:=h' }) :
    wpAny (model prog w) A (call (.ref C) rest) Q E s:=by
  have X0:=X
  obtain ⟨h,g,d,t,os⟩:=s
  obtain ⟨bm,N,nm,qn,bs,hd,sn,sub,ab,col,dd,k0,k1,k2,k3,k5,hC,Tl⟩:=objJ X hx
  have c1:=tc_lookup
  have c2:=tc_bind (.ref C)
  have c3:(⟨h,g,d,t,os⟩:Shared).TypeIs (.ref C) "type" := ⟨_,hC,rfl⟩
  refine wpAny_call (codeAny_of_tree ?_)
  show wpAny _ _ (callAny (.ref C) _) _ _ _
  repeat (any_goals (first | with_reducible refine wpAny_loadPart_at hC ?_ | assumption | wp_step))
  exact ⟨rfl,codeAny_call_builtin_at (Code.quiet_builtin _ (by decide +kernel)) entry_typeCall (wpAny_check_type_call_sub hC (type_make FB X0 hx hi hf hr fun h' e hm => hq h' e hm))⟩
theorem raise_own {env:Env} {x:Sem Value} {Q:Flow → Shared → Prop} (hh:A.handled = none)
    (h:wpAny (model prog w) A x (fun v s1 => ∃ e oe vs bm N nm qn bs hd sn sub ab col dd k0 k1 k2 k3 k5,v = .ref e ∧ s1.heap.get? C = some (excClassObj nm qn C N bs bm hd sn sub ab col dd k0 k1 k2 k3 k5 newId) ∧ bm.contains (.type "BaseException") = true ∧
      s1.heap.get? e = some oe ∧ oe.cls = .ref C ∧ oe.data = .fields vs ∧ vs[1]? = some .none ∧ E (.ref e) s1) E s):wpAny (model prog w) A (raiseStmt env (some x) none) Q E s:=by
  unfold raiseStmt
  refine wpAny_bind (wpAny_mono h (fun v s1 q => ?_) fun _ _ z => z)
  obtain ⟨e,oe,vs,bm,N,nm,qn,bs,hd,sn,sub,ab,col,dd,k0,k1,k2,k3,k5,rfl,hC,hb,he,hc,hda,h1,hE⟩:=q
  obtain ⟨hp,g,d,tk,os⟩:=s1
  obtain ⟨oc,odi,oda,osl⟩:=oe
  dsimp only at hc hda
  subst hc hda
  have hcB:(Value.ref C :: bm).contains (.type "BaseException") = true:=by rw [List.contains_cons,hb,Bool.or_true]
  repeat (first | with_reducible refine wpAny_loadPart_at hC ?_ | with_reducible refine wpAny_loadPart_at he ?_ | (with_reducible refine wpAny_isSubtype_exc hC ?_; rw [hcB]) | wp_step)
  rw [h1]
  refine wpAny_pure ?_
  rw [if_neg (show ¬ ((Value.none != Value.none) = true) by decide)]
  exact wpAny_pure (wpAny_raiseNew_none hh hE)
end
def del (H:Hp) (a:Addr):Hp:=fun b => if b = a then none else H b
theorem del_ne {H:Hp} {a b:Addr} (h:b ≠ a):del H a b = H b:=if_neg h
theorem del_self {H:Hp} {a:Addr}:del H a a = none:=if_pos rfl
section
variable {X:Cx} {pins:List (Addr × Obj)} {σ:St} {H:Hp} {s:Shared}
theorem Inv.drop {ea:Addr} {φ:Heap → Prop} (I:Inv X pins σ H s) (e:H ea = some (.ext φ)):Inv X pins σ (del H ea) s:=by
  have ne:∀ b u,H b = some u → (∀ ψ,u ≠ .ext ψ) → b ≠ ea:=fun b u q n z => by
    rw [z,e] at q
    cases q
    exact n φ rfl
  refine I.re (fun b n => ?_) (fun b xs q => ?_) (fun b o u q => ?_) (fun b ps q => ?_) fun b o q => ?_
  · unfold del
    split
    · rfl
    · exact n
  · have q1:=I.base.tups b xs q
    rw [del_ne (ne b _ q1 fun _ z => nomatch z)]
    exact q1
  · have q1:=I.base.frzs b o u q
    rw [del_ne (ne b _ q1 fun _ z => nomatch z)]
    exact q1
  · obtain ⟨m,q1⟩:=I.base.tbls b ps q
    exact ⟨m,by rw [del_ne (ne b _ q1 fun _ z => nomatch z)]; exact q1⟩
  · have hb:b ≠ ea:=fun z => by rw [z,del_self] at q; cases q
    rw [del_ne hb] at q
    exact (I.hok b o q).stay (fun _ _ _ z => z) (fun c z => by rw [del_ne (ne c _ z fun _ z => nomatch z)]; exact z) fun c xs z => by rw [del_ne (ne c _ z fun _ z => nomatch z)]; exact z
theorem Inv.freNew {a:Addr} (I:Inv X pins σ H s) (hex:X.ex = []) (h:s.heap.get? a = none):Fre X pins a where
  s0:=by
    cases z:X.s₀.heap.get? a with
    | none => rfl
    | some o =>
      obtain ⟨o',z'⟩:=I.base.there a o z (by rw [hex]; simp)
      rw [h] at z'
      cases z'
  loc:=fun z => by
    obtain ⟨m,⟨o,_,_,g,_⟩,_⟩:=I.loc
    rw [← z,h] at g
    cases g
  cell:=fun x c e z => by
    obtain ⟨_,o,g,_⟩:=I.cell x c e
    rw [z,h] at g
    cases g
  pin:=fun p hp z => by
    have g:=(I.pin p hp).1
    rw [z,h] at g
    cases g
end
def CalI (P:Program) (w:World) (K:PySem.W.Frag) (mg:Str → Option Value) (base:Heap) (k:Nat) (C:Addr) (ps:List Str) (sp:Sp):Prop :=
  ∃ (f:Addr) (fd:FuncData),FnOk P w K mg base CX0 k f fd ps sp ∧ findIn K (.ref C) "__init__" = some (some (.ref f)) ∧ typeIn K (.ref f) = some (.type "function") ∧ Binds K fd ps []
structure XmK (K:Frag) (C:Addr):Prop where
  obj:excJ K C [.type "ValueError",.type "Exception",.type "BaseException",.type "object"] "ValueError.__new__" = true
  kp:keepIn K (.ref C) = true
def tRaiseI (C:Addr) (sp:Sp) (E:XK) (ta:TA):TS:=fun _ σ H => ta σ H fun vs H1 => vs.length ≤ sizeLine ∧ ∀ ea,H1 ea = none → sp (.ref ea :: vs) (upd H1 ea (excN ea C none)) (fun v H2 => v = .non ∧ ∃ d,H2 ea = some (excN ea C d) ∧ E (.ref C) d (del H2 ea)) E0
section
variable {X:Cx} {E:XK} {x:Str} {C:Addr} {e:Expr} {es:List Expr} {ta:TA} {np cpos pos:Pos} {k:Nat} {ps:List Str} {sp:Sp}
theorem run_xmake {pins:List (Addr × Obj)} {σ:St} {H1:Hp} {s1:Shared} {vs:List V} {us:List Value} {G:Addr → VK} {R:Value → Shared → Prop} (hex:X.ex = []) (M:XmK X.K C) (c:CalI X.prog X.w X.K X.mg X.base k C ps sp) (hr:Room (k + 1) X.A) (I1:Inv X pins σ H1 s1) (r:Vals vs us)
    (hl:vs.length ≤ sizeLine) (q:∀ ea,H1 ea = none → sp (.ref ea :: vs) (upd H1 ea (excN ea C none)) (G ea) E0)
    (hR:∀ ea H2 s2,X.s₀.heap.get? ea = none → Inv X pins σ H2 s2 → (G ea) .non H2 → R (.ref ea) s2) (hG:∀ ea v H2,G ea v H2 → v = .non):wpAny (model X.prog X.w) X.A (call (.ref C) us) R X.xe s1:=by
  obtain ⟨f,fd,F,hi,hf,hb⟩:=c
  refine exc_make PySem.F.excBase_ValueError I1.kIn M.obj hi hf (by rw [← r.length]; exact hl) fun h' ea hm => ?_
  obtain ⟨t,g,_,_⟩:=hm.there
  have hole:H1 ea = none:=I1.hok.hole hm.new
  have fr:=I1.freNew hex hm.new
  have I2:=(I1.kept (t':=s1.toks) hm.keeps).adopt (o:=excN ea C none) fr hole (excN_ok g rfl rfl rfl rfl rfl rfl)
  have r2:Vals (V.ref ea :: vs) (Value.ref ea :: us):=.cons rfl r
  have hq:=q ea hole
  have hl2:((Value.ref ea :: us) ++ []).length = ps.length:=by rw [List.append_nil,← r2.length]; exact F.len _ _ _ _ hq
  have hbb:=hb { s1 with heap:=h' } (Value.ref ea :: us) I2.kIn hl2
  rw [List.append_nil] at hbb
  refine wpAny_call (codeAny_mono (F.run _ X.stack { s1 with heap:=h' } _ ⟨Value.ref ea :: us,[]⟩ (Value.ref ea :: us) (V.ref ea :: vs) _ E0 (hr.make C us []) (I2.env0.make C us []) hbb r2 hq) fun rr s' hq' => ?_)
  cases rr with
  | error e => exact False.elim hq'
  | ok fl =>
    cases fl with
    | ret u =>
      obtain ⟨v,H',I3,rv,q3⟩:=I2.after hq'
      have ev:=hG ea v H' q3
      subst ev
      exact ⟨rv,hR ea H' s' fr.s0 I3 q3⟩
    | next => exact False.elim hq'
    | brk => exact False.elim hq'
    | cont => exact False.elim hq'
theorem ps_raiseI {k':Nat} (hR:Rais X E) (hex:X.ex = []) (hc:X.calm = true) (hg:Gl X x) (hm:X.mg x = some (.ref C)) (M:XmK X.K C) (c:CalI X.prog X.w X.K X.mg X.base k C ps sp) (hr:Room k' X.A) (hkk:k + 1 ≤ k') (ha:PA X (e :: es) ta)
    (hd:(x == ("__debug__" : Str)) = false:=by decide) (he:starEach (e :: es) X.env = (false,eval e X.env) :: starEach es X.env:=by rfl) (hpl:(backTo cpos (starEach es X.env)).any (·.1) = false:=by rfl) :
    PS X (.Raise (some (.Call (.Name x np) (e :: es) [] cpos)) none pos) (tRaiseI C sp E ta):=by
  intro pins s σ H D I h
  rw [arm_exec_Raise]
  simp only [evalOpt,Option.map]
  refine wpAny_bind (wpAny_standAt (raise_own (C:=C) (newId := "ValueError.__new__") (I.ok.hd hc) ?_))
  refine wpAny_bind (wpAny_mono (Q:=fun v s1 => ∃ e oe vs bm N nm qn bs hd sn sub ab col dd k0 k1 k2 k3 k5,v = .ref e ∧ s1.heap.get? C = some (excClassObj nm qn C N bs bm hd sn sub ab col dd k0 k1 k2 k3 k5 "ValueError.__new__") ∧ bm.contains (.type "BaseException") = true ∧
      s1.heap.get? e = some oe ∧ oe.cls = .ref C ∧ oe.data = .fields vs ∧ vs[1]? = some .none ∧ X.xe (.ref e) s1) ?_ (fun v s3 h3 => wpAny_bind (wpAny_standAt (wpAny_pure h3))) fun _ _ z => z)
  refine wpAny_Call_Name_kw (ld_glob I hg hm ?_ hd)
  refine PySem.W.callWith_K (h₀:=X.base) I.ok.mod.kin M.kp (thn (ha cpos pins s σ H _ I h) fun us s1 ⟨vs,H1,I1,r,hl,q⟩ => ⟨I1.kIn,?_⟩) he hpl
  refine run_xmake hex M c (hr.mono hkk) I1 r hl q (fun ea H' s' s0 I3 q3 => ?_) fun ea v H2 z => z.1
  obtain ⟨_,d,e2,q3⟩:=q3
  obtain ⟨oe,ws,t0,g2,hc2,hdi,hda,h1,h0,c2⟩:=(I3.hok ea _ e2).1
  obtain ⟨bm,N,nm,qn,bs,hdct,sn,sub,ab,col,dd,k0,k1,k2,k3,k5,hC,Tl⟩:=objJ I3.kIn M.obj
  refine ⟨ea,oe,ws,bm,N,nm,qn,bs,hdct,sn,sub,ab,col,dd,k0,k1,k2,k3,k5,rfl,hC,Tl.hasType PySem.F.excBase_ValueError.hasBase,g2,hc2,hda,h1,?_⟩
  exact hR pins σ (del H' ea) s' ea oe ws (I3.drop e2) g2 hda h1 c2 del_self s0 (by rw [hc2,hdi]; exact q3)
end
def clsAt (st:Stmt) (j:Nat):Stmt :=
  match st with
  | .ClassDef _ _ _ body _ _ _ _ _ _ _ => body.getD j (.Pass ⟨0,0,0,0⟩)
  | s => s
section
variable {g:TG} {tests:TT} {te:TE} {σ0:St} {Q:VK} {H1:Hp}
end
section
variable {K:PySem.W.Frag} {H:Hp} {Q:VK} {ea C D T dx tp:Addr} {c:V} {cs:List V} {cv:Value} {cvs:List Value} {b:Bool} {d:Option Addr} {σ:St} {D':Ends} {sp:Sp} {E:XK} {ta:TA} {te tv:TE} {f:Str}
theorem s_xinit (h:ta σ H fun vs H1 => mXinit K vs H1 Q):tXinit K ta σ H Q:=h
theorem s_raiseI (h:ta σ H fun vs H1 => vs.length ≤ sizeLine ∧ ∀ ea,H1 ea = none → sp (.ref ea :: vs) (upd H1 ea (excN ea C none)) (fun v H2 => v = .non ∧ ∃ d,H2 ea = some (excN ea C d) ∧ E (.ref C) d (del H2 ea)) E0):tRaiseI C sp E ta D' σ H:=h
theorem s_xfld (h:tv σ H fun y H1 => te σ H1 fun x H2 => ∃ ea C T,x = .ref ea ∧ XcK K C T ∧ PySem.W.findIn K (.ref C) f = some none ∧
  ((H2 ea = some (excN ea C none) ∧ ∀ dx,H2 dx = none → D'.nx σ (upd (upd H2 ea (excN ea C (some dx))) dx (xdO dx [(f,y)]))) ∨
   (∃ dx fs,H2 ea = some (excN ea C (some dx)) ∧ H2 dx = some (xdO dx fs) ∧ fs.length < 100 ∧ D'.nx σ (upd H2 dx (xdO dx ((f,y) :: fs)))))):sXfld K te tv f D' σ H:=h
end
end L2
set_option maxHeartbeats 4000000
namespace L2
open PySem PySem.Spec PyProof.Rows
section
variable {P:Program} {w:World} {K:PySem.W.Frag} {mg:Str → Option Value} {base:Heap}
end
section
variable {X:Cx} {pn:List (Addr × Obj)} {ea:Addr} {k k':Nat} {ps:List Str} {sp:Sp} {x:Str} {p pos:Pos} {e:Expr} {es:List Expr} {t:TA}
end
end L2
set_option maxHeartbeats 4000000
namespace L2
open PySem PySem.Spec PyProof.Rows
section
variable {prog:Program} {w:World} {A:Around} {E:Value → Shared → Prop}
end
def hid (H:Hp) (ps:List Addr):Hp:=fun b => if b ∈ ps then none else H b
end L2
set_option maxHeartbeats 4000000
namespace L2
open PySem PySem.Spec PyProof.Rows
open PySem.AutoSeq1 (wpAny_loadPart')
section
variable {prog:Program} {w:World} {A:Around} {E:Value → Shared → Prop} {s:Shared}
end
section
variable {X:Cx} {l:Expr} {ta tk:TA} {kws:List Keyword} {elts:List Expr} {x1:Nat} {tp p pos kp:Pos}
end
section
variable {K:PySem.W.Frag} {a:Addr} {k:Nat} {xs:List V} {g:TG} {tb:TS} {D:Ends} {σ σ0:St} {H H1:Hp} {tests:TT} {te:TE} {Q:VK} {z:Str} {ta tk:TA}
theorem s_neg {i:Int} (h:Q (.int (-i)) H):mNeg (.int i) H Q:=h
end
end L2
set_option maxHeartbeats 4000000
namespace L2
open PySem PySem.Spec PyProof.Rows
section
variable {X:Cx} {a b:Expr} {ta tb:TE} {pos:Pos} {rest:List Expr}
section
variable {σ:St} {H:Hp} {Q:VK} {p:Addr} {xs:List V} {z:Str} {j:Nat}
theorem cw_strF {g:TG} {tests:TT} {te:TE} {σ0:St} {H1:Hp} (f:Nat → Option V) (hl:z.length < sizeLine)
    (hs:∀ (i:Nat) c Hc (A:VK) (B:Hp → Prop),z.cps.toList[i]? = some c → Same H1 Hc → (∀ Hd,Same Hc Hd → match f c with | some y => A y Hd | none => B Hd) →
      g (.str ⟨#[c]⟩) σ0 Hc fun σ2 H2 => Wk σ0 σ2 ∧ tests σ2 H2 fun b H3 => if b = true then te σ2 H3 A else B H3)
    (fin:∀ D Hd,H1 D = none → Same H1 Hd → Hd D = some (.lst (z.cps.toList.filterMap f)) → Q (.ref D) Hd):tCompW g tests te σ0 Q (Its z) H1:=by
  intro D hD
  have hzz:z.cps.size = z.length:=rfl
  have hz2:z.cps.toList.length = z.length:=by simp [Str.length]
  refine ⟨fun i m Hc => m = z.length - i ∧ i ≤ z.length ∧ Same H1 Hc ∧ Hc D = some (.lst ((z.cps.toList.take i).filterMap f)),⟨z.length,by simp,Nat.zero_le _,same_upd hD _,by rw [upd_same]; rfl⟩,?_⟩
  rintro i m Hc ⟨rfl,hi,sm,hDc⟩
  by_cases hlt:i < z.length
  · refine .inr ⟨hlt,fun v H' y => ?_⟩
    obtain ⟨rfl,c,hz,rfl⟩:=y
    have hx:z.cps.toList[i]? = some c:=by rw [Array.getElem?_toList]; exact hz
    refine hs i c H' _ _ hx sm fun Hd sd => ?_
    have hDd:Hd D = some (.lst ((z.cps.toList.take i).filterMap f)):=sd _ _ hDc
    have sH:Same H1 Hd:=sm.trans sd
    cases e:f c with
    | some y =>
      refine ⟨_,hDd,?_,z.length - (i + 1),by omega,rfl,hlt,fun b o hb => ?_,?_⟩
      · have:=List.length_filterMap_le f (z.cps.toList.take i)
        rw [List.length_take] at this
        omega
      · rw [upd_ne (ne_of_none hb hD)]; exact sH b o hb
      · rw [upd_same,List.take_add_one,hx,List.filterMap_append]
        show some (HO.lst (_ ++ [y])) = some (HO.lst (_ ++ [c].filterMap f))
        rw [List.filterMap_cons_some e,List.filterMap_nil]
    | none =>
      refine ⟨z.length - (i + 1),by omega,rfl,hlt,sH,?_⟩
      rw [hDd,List.take_add_one,hx,List.filterMap_append]
      show some (HO.lst _) = some (HO.lst (_ ++ [c].filterMap f))
      rw [List.filterMap_cons_none e,List.filterMap_nil,List.append_nil]
  · have e:i = z.length:=by omega
    subst e
    refine .inl ⟨Nat.le_refl _,fin D Hc hD sm ?_⟩
    rw [hDc,List.take_of_length_le (by omega)]
theorem cw_rangeF {g:TG} {tests:TT} {te:TE} {σ0:St} {H1:Hp} {n:Nat} {lo:Int} (f:Nat → Option V) (hl:n < sizeLine)
    (hs:∀ (i:Nat) Hc (A:VK) (B:Hp → Prop),i < n → Same H1 Hc → (∀ Hd,Same Hc Hd → match f i with | some y => A y Hd | none => B Hd) →
      g (.int (lo + i)) σ0 Hc fun σ2 H2 => Wk σ0 σ2 ∧ tests σ2 H2 fun b H3 => if b = true then te σ2 H3 A else B H3)
    (fin:∀ D Hd,H1 D = none → Same H1 Hd → Hd D = some (.lst ((List.range n).filterMap f)) → Q (.ref D) Hd):tCompW g tests te σ0 Q (Itr lo n) H1:=by
  intro D hD
  refine ⟨fun i m Hc => m = n - i ∧ i ≤ n ∧ Same H1 Hc ∧ Hc D = some (.lst ((List.range i).filterMap f)),⟨n,by simp,Nat.zero_le _,same_upd hD _,by rw [upd_same]; rfl⟩,?_⟩
  rintro i m Hc ⟨rfl,hi,sm,hDc⟩
  by_cases hlt:i < n
  · refine .inr ⟨hlt,fun v H' y => ?_⟩
    obtain ⟨rfl,rfl⟩:=y
    refine hs i H' _ _ hlt sm fun Hd sd => ?_
    have hDd:Hd D = some (.lst ((List.range i).filterMap f)):=sd _ _ hDc
    have sH:Same H1 Hd:=sm.trans sd
    cases e:f i with
    | some y =>
      refine ⟨_,hDd,?_,n - (i + 1),by omega,rfl,hlt,fun b o hb => ?_,?_⟩
      · have:=List.length_filterMap_le f (List.range i)
        rw [List.length_range] at this
        omega
      · rw [upd_ne (ne_of_none hb hD)]; exact sH b o hb
      · rw [upd_same,List.range_succ,List.filterMap_append,List.filterMap_cons_some e,List.filterMap_nil]
    | none =>
      refine ⟨n - (i + 1),by omega,rfl,hlt,sH,?_⟩
      rw [hDd,List.range_succ,List.filterMap_append,List.filterMap_cons_none e,List.filterMap_nil,List.append_nil]
  · have e:i = n:=by omega
    subst e
    exact .inl ⟨Nat.le_refl _,fin D Hc hD sm hDc⟩
end
end
end L2
set_option maxHeartbeats 4000000
namespace L2
open PySem PySem.Spec PyProof.Rows
section
variable {X:Cx}
def mInD (neg:Bool):R2:=fun x y H Q => ∃ a ov,y = .ref a ∧ DGet H a x ov ∧ Q (.bl (if neg then !ov.isSome else ov.isSome)) H
theorem m_notInD (hu:X.A.units + 1 < cLine):OpR X (compareOp .NotIn) (mInD true):=by
  intro pins s σ H x y v u Q I rx ry h
  obtain ⟨a,ov,rfl,g,q⟩:=h
  cases ry
  exact d_notIn hu I g rx fun s3 I3 => ⟨.bl (!ov.isSome),H,I3,rfl,q⟩
def mEqE:R2:=fun x y H Q => ∃ p q xs,x = .ref p ∧ y = .ref q ∧ rdL H p = some xs ∧ rdL H q = some [] ∧ Q (.bl xs.isEmpty) H
theorem m_eqE (hu:X.A.units < cLine):OpR X (compareOp .Eq) mEqE:=by
  intro pins s σ H x y v u Q I rx ry h
  obtain ⟨p,q,xs,rfl,rfl,hp,hq,k⟩:=h
  cases rx
  cases ry
  obtain ⟨its,r1,l1,_⟩:=I.list (rdL_sq hp)
  obtain ⟨its2,r2,l2,_⟩:=I.list (rdL_sq hq)
  have e1:=r1.length
  have e2:=r2.length
  cases xs with
  | nil =>
    have z1:its.length = 0:=e1.symm
    have z2:its2.length = 0:=e2.symm
    refine SeqAt.eq_listAt (e:=fun j => true) l1.isList l2.isList (by simp only [List.size_toArray]; omega) hu (fun j h1 h2 => ?_) ?_
    · have h1':j < its.length:=by simpa using h1
      omega
    · refine ⟨.bl true,H,I,?_,k⟩
      show Value.bool _ = Value.bool true
      simp
  | cons x0 xr =>
    rw [List.length_cons] at e1
    have z2:its2.length = 0:=e2.symm
    exact SeqAt.eq_list_lengthsAt l1.isList l2.isList (by simp only [List.size_toArray,bne_iff_ne]; omega) hu ⟨.bl false,H,I,rfl,k⟩
section
variable {H:Hp} {Q:VK} {a:Addr} {kvs:List (Key × V)} {z:Str}
theorem cw_listS {K:PySem.W.Frag} {g:TG} {tests:TT} {te:TE} {σ0:St} {H1:Hp} {xs:List V} (f:V → Option V) (ha:rdL H1 a = some xs) (hl:xs.length < sizeLine)
    (hs:∀ (i:Nat) x Hc (A:VK) (B:Hp → Prop),xs[i]? = some x → Same H1 Hc → (∀ Hd,Same Hc Hd → match f x with | some y => A y Hd | none => B Hd) →
      g x σ0 Hc fun σ2 H2 => Wk σ0 σ2 ∧ tests σ2 H2 fun b H3 => if b = true then te σ2 H3 A else B H3)
    (fin:∀ D Hd,H1 D = none → Same H1 Hd → Hd D = some (.lst (xs.filterMap f)) → Q (.ref D) Hd):tCompW g tests te σ0 Q (Itl K a) H1:=by
  intro D hD
  refine ⟨fun i m Hc => m = xs.length - i ∧ i ≤ xs.length ∧ Same H1 Hc ∧ Hc D = some (.lst ((xs.take i).filterMap f)),⟨xs.length,by simp,Nat.zero_le _,same_upd hD _,by rw [upd_same]; rfl⟩,?_⟩
  rintro i m Hc ⟨rfl,hi,sm,hDc⟩
  have hr:=rdL_keep sm ha
  by_cases hlt:i < xs.length
  · refine .inr ⟨⟨xs,xs[i],rdL_sq hr,by simp [hlt]⟩,fun v H' y => ?_⟩
    obtain ⟨rfl,hz⟩:=y
    have hx:xs[i]? = some v:=hz xs (rdL_sq hr)
    refine hs i v H' _ _ hx sm fun Hd sd => ?_
    have hDd:Hd D = some (.lst ((xs.take i).filterMap f)):=sd _ _ hDc
    have sH:Same H1 Hd:=sm.trans sd
    cases e:f v with
    | some y =>
      refine ⟨_,hDd,?_,xs.length - (i + 1),by omega,rfl,hlt,fun b o hb => ?_,?_⟩
      · have:=List.length_filterMap_le f (xs.take i)
        rw [List.length_take] at this
        omega
      · rw [upd_ne (ne_of_none hb hD)]; exact sH b o hb
      · rw [upd_same,List.take_add_one,hx,List.filterMap_append]
        show some (HO.lst (_ ++ [y])) = some (HO.lst (_ ++ [v].filterMap f))
        rw [List.filterMap_cons_some e,List.filterMap_nil]
    | none =>
      refine ⟨xs.length - (i + 1),by omega,rfl,hlt,sH,?_⟩
      rw [hDd,List.take_add_one,hx,List.filterMap_append]
      show some (HO.lst _) = some (HO.lst (_ ++ [v].filterMap f))
      rw [List.filterMap_cons_none e,List.filterMap_nil,List.append_nil]
  · have e:i = xs.length:=by omega
    subst e
    refine .inl ⟨⟨xs,rdL_sq hr,Nat.le_refl _⟩,fin D Hc hD sm ?_⟩
    rw [hDc,List.take_of_length_le (by omega)]
theorem s_eqE {p q:Addr} {xs:List V} (e:rdL H p = some xs) (e':rdL H q = some []) (h:Q (.bl xs.isEmpty) H):mEqE (.ref p) (.ref q) H Q:=⟨p,q,xs,rfl,rfl,e,e',h⟩
theorem s_inD {neg:Bool} (e:Rd H a (.dK kvs)) (h:Q (.bl (if neg then !(valV kvs (Sum.inr z)).isSome else (valV kvs (Sum.inr z)).isSome)) H):mInD neg (.str z) (.ref a) H Q:=⟨a,_,rfl,.inl ⟨kvs,.inr z,e,rfl,rfl⟩,h⟩
end
end
end L2
set_option maxHeartbeats 4000000
namespace L2
open PySem PySem.Spec PyProof.Rows PySem.Builtin PySem.Builtin.Str
section
variable {X:Cx}
theorem vals_strs:∀ l:List (Str × Tok),Vals ((l.map (·.1)).map V.str) (strValues l)
  | [] => .nil
  | p :: r => .cons ⟨p.2,rfl⟩ (vals_strs r)
def mSplit:V → List V → Hp → VK → Prop:=fun x vs H Q => ∃ z y:Str,x = .str z ∧ vs = [.str y] ∧ (y.length == 0) = false ∧ z.length + 2 ≤ sizeLine ∧ ∀ l,H l = none → Q (.ref l) (upd H l (.lst ((Txt.split z y).map V.str)))
theorem m_split:MtR X "str.split" mSplit:=by
  intro pins s σ H x vs v us Q I rx rv h
  obtain ⟨z,y,rfl,rfl,hy,hsz,q⟩:=h
  obtain ⟨t,rfl⟩:=rx
  obtain ⟨u,rfl,ru⟩:=rv.one
  obtain ⟨u,rfl⟩:=ru
  have hn:(partsBetween z (occurrences z y 0 z.length (z.length + 1)) y.length).length ≤ sizeLine:=by
    have e1:=StrLaws.occ_length_le z y 0 z.length (z.length + 1)
    rw [length_partsBetween]; omega
  have fin:∀ (l:List (Str × Tok)) (k:Nat),l.map (·.1) = Txt.split z y → (Txt.split z y).length ≤ sizeLine → EP X pins σ Q (.ref s.heap.objs.size) { s with heap:=s.heap.push { cls:=.type "list",data:=.seq (strValues l).toArray },toks:=k }:=fun l k e hl =>
    ⟨.ref _,_,I.lnew (ys:=(Txt.split z y).map V.str) (t':=k) (by rw [← e]; exact vals_strs l) (by rw [List.length_map]; exact hl),rfl,q _ I.fresh⟩
  cases h1:(decide (z.length < y.length) || decide (strKind z < strKind y))
  · cases hf:(occurrences z y 0 z.length (z.length + 1)).isEmpty
    · have es:Txt.split z y = partsBetween z (occurrences z y 0 z.length (z.length + 1)) y.length:=(if_neg (ne_true_of_eq_false h1)).trans (if_neg (ne_true_of_eq_false hf))
      refine call_meets F.slot_str_split (typeIs_str _ _ _) F.entry_str_split (F.args_str_split_2 _ _) (meets_str_split_sep z y t u h1 hy hf (by omega) hn) ?_
      show wants _ _ _ { s with toks:=_,heap:=s.heap.push { cls:=.type "list",data:=.seq (strsFrom s.toks (partsBetween z (occurrences z y 0 z.length (z.length + 1)) y.length)).toArray } }
      rw [strsFrom_eq]
      exact fin (numbered s.toks _) _ ((numbered_texts _ _).trans es.symm) (by rw [es]; exact hn)
    · have es:Txt.split z y = [z]:=(if_neg (ne_true_of_eq_false h1)).trans (if_pos hf)
      exact call_meets F.slot_str_split (typeIs_str _ _ _) F.entry_str_split (F.args_str_split_2 _ _) (meets_str_split_not_found z y t u h1 hy hf)
        (fin [(z,t)] s.toks es.symm (by rw [es]; exact len_line (by show 1 ≤ _; omega)))
  · have es:Txt.split z y = [z]:=if_pos h1
    exact call_meets F.slot_str_split (typeIs_str _ _ _) F.entry_str_split (F.args_str_split_2 _ _) (meets_str_split_cannot_occur z y t u h1)
      (fin [(z,t)] s.toks es.symm (by rw [es]; exact len_line (by show 1 ≤ _; omega)))
theorem s_split {H:Hp} {Q:VK} {z y:Str} (hy:(y.length == 0) = false) (hl:z.length ≤ 10000) (h:∀ l,H l = none → Q (.ref l) (upd H l (.lst ((Txt.split z y).map V.str)))):mSplit (.str z) [.str y] H Q:=⟨z,y,rfl,rfl,hy,len_line (by omega),h⟩
end
def jc:List (List Nat) → List Nat
  | [] => []
  | [t] => t
  | t :: u :: r => t ++ 32 :: jc (u :: r)
theorem join_jc:∀ L:List Str,(Str.join ⟨#[32]⟩ L).cps.toList = jc (L.map fun z => z.cps.toList)
  | [] => rfl
  | [z] => rfl
  | z :: y :: r => by
    have e:Str.join ⟨#[32]⟩ (z :: y :: r) = z ++ ⟨#[32]⟩ ++ Str.join ⟨#[32]⟩ (y :: r):=rfl
    rw [e,FlT.app_cps,FlT.app_cps,join_jc (y :: r)]
    show z.cps.toList ++ [32] ++ _ = z.cps.toList ++ 32 :: _
    rw [List.append_assoc]
    rfl
theorem blank_inj:∀ (t u a b:List Nat),32 ∉ t → 32 ∉ u → t ++ 32 :: a = u ++ 32 :: b → t = u ∧ a = b
  | [],[],a,b,_,_,h => by injection h with _ h; exact ⟨rfl,h⟩
  | [],c :: u,a,b,_,h2,h => by injection h with h _; exact absurd (by rw [h]; exact List.mem_cons_self) h2
  | c :: t,[],a,b,h1,_,h => by injection h with h _; exact absurd (by rw [← h]; exact List.mem_cons_self) h1
  | c :: t,d :: u,a,b,h1,h2,h => by
    injection h with e h
    obtain ⟨e1,e2⟩:=blank_inj t u a b (fun m => h1 (List.mem_cons_of_mem _ m)) (fun m => h2 (List.mem_cons_of_mem _ m)) h
    exact ⟨by rw [e,e1],e2⟩
theorem jc_inj:∀ (L M:List (List Nat)),L ≠ [] → M ≠ [] → (∀ t ∈ L,32 ∉ t) → (∀ t ∈ M,32 ∉ t) → jc L = jc M → L = M
  | [],_,h,_,_,_,_ => absurd rfl h
  | _ :: _,[],_,h,_,_,_ => absurd rfl h
  | [t],[u],_,_,_,_,h => by rw [show t = u from h]
  | [t],u :: v :: r,_,_,h1,_,h => by
    have e:t = u ++ 32 :: jc (v :: r):=h
    exact absurd (by rw [e]; exact List.mem_append_right _ List.mem_cons_self) (h1 t List.mem_cons_self)
  | t :: u :: r,[v],_,_,_,h2,h => by
    have e:t ++ 32 :: jc (u :: r) = v:=h
    exact absurd (by rw [← e]; exact List.mem_append_right _ List.mem_cons_self) (h2 v List.mem_cons_self)
  | t :: u :: r,v :: w :: q,_,_,h1,h2,h => by
    obtain ⟨e1,e2⟩:=blank_inj t v _ _ (h1 t List.mem_cons_self) (h2 v List.mem_cons_self) h
    rw [e1,jc_inj (u :: r) (w :: q) (fun z => nomatch z) (fun z => nomatch z) (fun x hx => h1 x (List.mem_cons_of_mem _ hx)) (fun x hx => h2 x (List.mem_cons_of_mem _ hx)) e2]
theorem split_ne (x y:Str):Txt.split x y ≠ []:=by
  unfold Txt.split
  split
  · exact fun z => nomatch z
  · split
    · exact fun z => nomatch z
    · intro z
      have:=congrArg List.length z
      rw [length_partsBetween] at this
      cases this
theorem split_join {L:List Str} (hn:L ≠ []) (hf:∀ z ∈ L,32 ∉ z.cps.toList):Txt.split (Txt.join ⟨#[32]⟩ L) ⟨#[32]⟩ = L:=by
  have e1:=StrLaws.join_split (Txt.join ⟨#[32]⟩ L) ⟨#[32]⟩
  have f1:=StrLaws.split_free (Txt.join ⟨#[32]⟩ L) 32
  have n1:=split_ne (Txt.join ⟨#[32]⟩ L) ⟨#[32]⟩
  have e2:Txt.join ⟨#[32]⟩ L = Str.join ⟨#[32]⟩ L:=StrLaws.glued_eq_join _ _
  generalize Txt.split (Txt.join ⟨#[32]⟩ L) ⟨#[32]⟩ = M at e1 f1 n1 ⊢
  rw [e2] at e1
  have e3:=congrArg (fun z:Str => z.cps.toList) e1
  rw [join_jc,join_jc] at e3
  have q:=jc_inj _ _ (by intro z; exact n1 (List.map_eq_nil_iff.mp z)) (by intro z; exact hn (List.map_eq_nil_iff.mp z)) (fun t ht => by obtain ⟨z,hz,rfl⟩:=List.mem_map.mp ht; exact f1 z hz) (fun t ht => by obtain ⟨z,hz,rfl⟩:=List.mem_map.mp ht; exact hf z hz) e3
  exact List.map_inj_right (fun a b h => FlT.str_ext h) |>.mp q
end L2
set_option maxHeartbeats 1000000
namespace L2
open PySem PySem.Spec PyProof.Rows
section
variable {X:Cx}
def mMinL:List V → Hp → VK → Prop:=fun xs H Q => ∃ (p:Addr) (ns:List Int),xs = [.ref p] ∧ rdL H p = some (ns.map V.int) ∧ 0 < ns.length ∧ ∀ m,m ∈ ns → (∀ a ∈ ns,m ≤ a) → Q (.int m) H
theorem m_minL (hc:X.calm = true):CallR X (.builtin "min") mMinL:=by
  intro pins s σ H xs us Q I r h
  obtain ⟨p,ns,rfl,hp,hn,q⟩:=h
  obtain ⟨u,rfl,ru⟩:=vals1 r
  cases ru
  obtain ⟨its,rv,pl,hz⟩:=I.list (rdL_sq hp)
  have hl:=pl.isList
  have hlt:p < s.heap.objs.size:=by obtain ⟨_,e,_⟩:=hl; exact Heap.lt_size e
  have hle:its.length = ns.length:=by have:=rv.length; rw [List.length_map] at this; omega
  have at':∀ (i:Nat) (v:Value),its.toArray[i]? = some v → ∃ t,v = Value.int (ns.getD i 0) t:=fun i v hv => by
    have hv':its[i]? = some v:=by simpa using hv
    have hi:i < ns.length:=by rw [← hle]; exact (List.getElem?_eq_some_iff.mp hv').1
    obtain ⟨u,hu,ru⟩:=rv.get (show (ns.map V.int)[i]? = some (.int ns[i]) by rw [List.getElem?_map,List.getElem?_eq_getElem hi]; rfl)
    rw [hv'] at hu
    cases hu
    obtain ⟨t,rfl⟩:=ru
    exact ⟨t,by rw [List.getD_eq_getElem?_getD,List.getElem?_eq_getElem hi]; rfl⟩
  refine call_min_walk (wpAny_pyIter_list hl ?_)
  refine ⟨s.heap.objs.size,[s.heap.objs.size,p],[s.heap.objs.size],its.toArray.size,_,_,_,rfl,Walks.list (A:=X.A.in1) (I.ok.hd hc) _ p (Nat.ne_of_lt hlt) its.toArray,
    ⟨⟨_,Heap.get?_push_size _ rfl,rfl,rfl⟩,hl.push _⟩,fun b hb => ?_,by rw [List.size_toArray]; omega,CmpOf.ints_lt (fun i => ns.getD i 0) at',fun v h' tk hv hk => ?_⟩
  · rw [show ({ s with heap:=_ }:Shared).heap = _ from rfl]
    simp only [List.mem_cons,List.not_mem_nil,or_false] at hb
    rcases hb with e | e
    · rw [e]; simp [Heap.push]
    · rw [e]; exact Nat.lt_of_lt_of_le hlt (by simp [Heap.push])
  · obtain ⟨t,rfl⟩:=at' _ _ hv
    obtain ⟨h1,h2⟩:=argBest_lt (fun i => ns.getD i 0) (its.toArray.size - 1)
    rw [List.size_toArray,hle] at h1 h2
    have hb:argBest (fun i j => decide (ns.getD i 0 < ns.getD j 0)) (its.toArray.size - 1) < ns.length:=by rw [List.size_toArray,hle]; omega
    refine ⟨.int _,H,I.kept (LSm.kept_iter hk),⟨_,rfl⟩,q _ ?_ fun a ha => ?_⟩
    · rw [List.getD_eq_getElem?_getD,List.getElem?_eq_getElem hb]
      exact List.getElem_mem _
    · obtain ⟨j,hj,e⟩:=List.mem_iff_getElem.mp ha
      have:=h2 j (by omega)
      rw [List.size_toArray,hle]
      rw [← e]
      have e2:ns.getD j 0 = ns[j]:=by rw [List.getD_eq_getElem?_getD,List.getElem?_eq_getElem hj]; rfl
      rw [← e2]
      exact this
theorem s_minL {p:Addr} {ns:List Int} {H:Hp} {Q:VK} (e:rdL H p = some (ns.map V.int)) (hn:0 < ns.length) (h:∀ m,m ∈ ns → (∀ a ∈ ns,m ≤ a) → Q (.int m) H):mMinL [.ref p] H Q:=⟨p,ns,rfl,e,hn,h⟩
end
end L2
namespace L2
open PySem PySem.Spec PyProof.Rows
section
variable {prog:Program} {w:World} {A:Around} {R:Result → Shared → Prop} {J:Addr} {us ws:List Addr} {n:Nat} {P:Nat → Value → Prop} {St:Nat → Heap → Prop} {d:Value}
end
section
variable {prog:Program} {w:World} {A:Around} {E:Value → Shared → Prop} {s:Shared}
end
section
variable {X:Cx} {l:Expr} {ta:TA} {tk:TA} {p pos kp:Pos}
theorem blt_with_kw {M:Model} {A:Around} {E:Value → Shared → Prop} {s:Shared} {id:String} {args:List (Bool × Sem Value)} {kw:List (Option Str × Sem Value)} {Q:Value → Shared → Prop}
    (h1:args.any (·.1) = false) (h2:kw.any (·.1.isNone) = false) (h:wpAny M A (evalArgs (.builtin id) true args kw) (fun a s1 => wpAny M A (call (.builtin id) a.pos a.kw) Q E s1) E s):wpAny M A (callWith pos (.builtin id) [] args kw) Q E s:=by
  unfold callWith
  refine wpAny_bind (wpAny_holding (wpAny_mono h (fun a s1 q1 => wpAny_bind (wpAny_standAt ?_)) fun _ _ x => x))
  rw [h1,h2]
  exact wpAny_bind (wpAny_pure (wpAny_bind (wpAny_mono q1 (fun r s2 hr => wpAny_bind (wpAny_holding (wpAny_point (wpAny_pure hr)))) fun _ _ x => x)))
end
end L2
namespace L2
open PySem PySem.Spec PyProof.Rows
section
variable {X:Cx} {tg a b c:Expr} {p pos:Pos}
def cntD (lo hi:Int):Nat:=(lo - hi).toNat
theorem sizeD (lo hi:Int):Builtin.Range.rangeSize lo hi (-1) = ((cntD lo hi:Nat):Int):=by
  unfold Builtin.Range.rangeSize cntD
  rw [if_neg (by decide)]
  split
  · simp; omega
  · omega
theorem smallD {lo hi:Int} (h1:-1000000 ≤ lo) (h2:lo ≤ 1000000) (h3:-1000000 ≤ hi) (h4:hi ≤ 1000000):Builtin.Range.small lo hi (-1) = true:=by
  have hs:=sizeD lo hi
  unfold Builtin.Range.small
  rw [hs]
  unfold cntD
  simp only [Builtin.Range.rangeFitsLong,Bool.and_eq_true,Bool.or_eq_true,decide_eq_true_eq,beq_iff_eq]
  rcases Int.lt_or_le hi lo with hl | hl
  · refine ⟨by omega,.inr ?_⟩
    rw [if_neg (by decide),Bool.and_eq_true]
    exact ⟨decide_eq_true (by omega),decide_eq_true (by omega)⟩
  · refine ⟨by omega,.inl ?_⟩
    omega
def jRngD (ta:TA):TI:=fun σ H R => ta σ H (onI3 fun i j k H1 => (-1000000 ≤ i ∧ i ≤ 1000000 ∧ -1000000 ≤ j ∧ j ≤ 1000000 ∧ k = -1) ∧ R (Itr3 i (-1) (cntD i j)) H1)
theorem range_itD {pins:List (Addr × Obj)} {σ:St} {H:Hp} {s:Shared} {R:It → Hp → Prop} {E:Value → Shared → Prop} {lo hi:Int} {t u v:Tok} {tk:Nat} (I:Inv X pins σ H s) (h1:-1000000 ≤ lo) (h2:lo ≤ 1000000) (h3:-1000000 ≤ hi) (h4:hi ≤ 1000000)
    (q:R (Itr3 lo (-1) (cntD lo hi)) H):wpAny (model X.prog X.w) X.A (pyIter (.ref s.heap.objs.size)) (PIE X pins σ tg R) E { s with heap:=s.heap.push { cls:=.type "range",data:=.fields #[.int lo t,.int hi u,.int (-1) v] },toks:=tk }:=by
  refine wpAny_pyIter_range (IsRange.new ..) (smallD h1 h2 h3 h4) ?_
  have I1:Inv X pins σ H { s with heap:=s.heap.push { cls:=.type "range",data:=.fields #[.int lo t,.int hi u,.int (-1) v] },toks:=tk }:=I.kept fun b o e => Heap.get?_push_of_some _ e
  refine ⟨(s.heap.push { cls:=.type "range",data:=.fields #[.int lo t,.int hi u,.int (-1) v] }).objs.size,[(s.heap.push { cls:=.type "range",data:=.fields #[.int lo t,.int hi u,.int (-1) v] }).objs.size],_,_,H,rfl,
    I1.kept (t':=tk) fun b o e => Heap.get?_push_of_some _ e,turn_range3 _ lo (-1) (cntD lo hi),?_,fun b hb => ?_,q⟩
  · have e1:lo + ((0:Nat):Int) * (-1) = lo:=by simp
    have e2:((cntD lo hi:Nat):Int) - ((0:Nat):Int) = Builtin.Range.rangeSize lo hi (-1):=by rw [sizeD]; simp
    show IsRangeIter _ _ (lo + ((0:Nat):Int) * (-1)) (((cntD lo hi:Nat):Int) - ((0:Nat):Int)) (-1)
    rw [e1,e2]
    exact Heap.get?_push_size _ rfl
  · have e:b = (s.heap.push { cls:=.type "range",data:=.fields #[.int lo t,.int hi u,.int (-1) v] }).objs.size:=by simpa using hb
    subst e
    exact I1.fpOk (Nat.le_refl _) (I1.hok.fresh (Nat.le_refl _))
theorem pj_rangeD {ta:TA} (hg:Gl X "range") (hm:X.mg "range" = none) (ha:PA X [a,b,c] ta) (hs:starEach [a,b,c] X.env = [(false,eval a X.env),(false,eval b X.env),(false,eval c X.env)]:=by rfl) (hs2:starEach [b,c] X.env = [(false,eval b X.env),(false,eval c X.env)]:=by rfl) :
    PI X tg (.Call (.Name "range" p) [a,b,c] [] pos) (jRngD ta):=by
  intro pins s σ H R I h
  refine Call_ (ld_blt I hg hm boot_range (PyProof.Rows.callWith_type1 (thn (ha pos pins s σ H _ I h) fun us s1 ⟨vs,H1,I1,r1,q1⟩ => ?_) (by rw [hs,hs2]) (by rw [hs2]; rfl)))
  obtain ⟨i,j,k,e,⟨b1,b2,b3,b4,rfl⟩,q⟩:=onI3_ex q1
  subst e
  cases r1 with
  | cons r rr =>
    cases rr with
    | cons r' rr =>
      cases rr with
      | cons r'' rr =>
        cases rr
        obtain ⟨t,rfl⟩:=r
        obtain ⟨t',rfl⟩:=r'
        obtain ⟨t'',rfl⟩:=r''
        exact call_range_3 (by omega) (range_itD I1 b1 b2 b3 b4 q) (Or.inl (PyProof.noPylong_small (by omega)))
theorem s_jRngD {ta:TA} {σ:St} {H:Hp} {R:It → Hp → Prop} (h:ta σ H (onI3 fun i j k H1 => (-1000000 ≤ i ∧ i ≤ 1000000 ∧ -1000000 ≤ j ∧ j ≤ 1000000 ∧ k = -1) ∧ R (Itr3 i (-1) (cntD i j)) H1)):jRngD ta σ H R:=h
end
end L2
set_option maxHeartbeats 4000000
namespace L2
open PySem PySem.Spec PyProof.Rows
section
variable {g:TG} {tests:TT} {te:TE} {σ0:St} {Q:VK} {H1:Hp}
end
section
variable {X:Cx} {e:Expr} {te:TE} {p2 pos pu pc:Pos} {j:Nat}
end
end L2
set_option maxHeartbeats 4000000
namespace L2
open PySem PySem.Spec PyProof.Rows
section
variable {X:Cx}
end
end L2
set_option maxHeartbeats 4000000
namespace L2
open PySem PySem.Spec PyProof.Rows PySem.Builtin PySem.Builtin.Str
section
variable {X:Cx}
end
end L2
set_option maxHeartbeats 4000000
namespace L2
open PySem PySem.Spec PyProof.Rows
section
variable {prog:Program} {w:World} {A:Around} {E:Value → Shared → Prop} {s:Shared} {jt dq:Addr} {n0 ep:Nat} {en:Array DictEntry} {od:Obj}
end
section
variable {prog:Program} {w:World} {A:Around} {E:Value → Shared → Prop} {s:Shared} {dq:Addr} {en:Array DictEntry} {ep:Nat} {od:Obj}
end
section
variable {X:Cx} {tg:Expr} {pins:List (Addr × Obj)} {σ:St} {H:Hp} {s:Shared} {a:Addr}
end
section
variable {σ:St} {H:Hp} {Q:VK} {D:Ends} {a b:Addr} {kvs:List (List Key × V)} {k:List Key} {v w:V} {tl:TE} {R:It → Hp → Prop} {g:TG} {tb:TS} {o:Obj}
end
section
variable {X:Cx}
end
section
variable {H:Hp} {Q:VK} {a:Addr} {kvs:List (Key × V)} {z:Str}
end
section
variable {X:Cx}
end
end L2
set_option maxHeartbeats 4000000
namespace L2
open PySem PySem.Spec PyProof.Rows
open PySem.AutoSeq1 (wpAny_loadPart')
open PySem.MeetsSeq PySem.MeetsSeq2 PySem.MeetsSeq3
def EqB (P:Program) (w:World) (A:Around) (s:Shared) (u v:Value):Prop:=∃ b:Bool,∀ (E:Value → Shared → Prop) (Q:Bool → Shared → Prop),Q b s → wpAny (model P w) A (eqBool u v) Q E s
section
variable {P:Program} {w:World} {A:Around} {E:Value → Shared → Prop} {s:Shared} {l:Addr} {xs:Array Value}
theorem EqB.same (u:Value):EqB P w A s u u:=⟨true,fun E Q hq => SeqAt.EqAt.same u P w E Q hq⟩
end
section
variable {X:Cx}
end
section
variable {X:Cx} {l:Expr} {ta:TA} {elts:List Expr} {x1:Nat} {tp p pos:Pos}
end
end L2
set_option maxHeartbeats 4000000
namespace L2
open PySem PySem.Spec PyProof.Rows
section
variable {prog:Program} {w:World} {A:Around} {E:Value → Shared → Prop} {s:Shared}
def CtxNone (h:Heap) (ea:Addr):Prop:=∃ o fs,h.get? ea = some o ∧ o.data = .fields fs ∧ fs[2]? = some .none
theorem CtxNone.ext {h h':Heap} {ea:Addr} (c:CtxNone h ea) (k:∀ o,h.get? ea = some o → h'.get? ea = some o):CtxNone h' ea:=by
  obtain ⟨o,fs,h1,h2,h3⟩:=c
  exact ⟨o,fs,k o h1,h2,h3⟩
end
end L2
set_option maxHeartbeats 4000000
namespace L2
open PySem PySem.Spec PyProof.Rows
section
variable {X:Cx} {pins:List (Addr × Obj)} {σ:St} {H:Hp} {s:Shared} {ea:Addr}
end
section
variable {prog:Program} {w:World} {A:Around} {E:Value → Shared → Prop} {s:Shared}
theorem CtxNone.some {h:Heap} {ea:Addr} (c:CtxNone h ea):∃ o,h.get? ea = Option.some o:=by
  obtain ⟨o,_,e,_⟩:=c
  exact ⟨o,e⟩
end
end L2
set_option maxHeartbeats 4000000
namespace L2
open PySem PySem.Spec PyProof.Rows
section
variable {X:Cx} {tg:Expr}
end
section
variable {X:Cx} {tg l a b:Expr} {tl ta tb:TE} {p pos:Pos}
end
end L2
set_option maxHeartbeats 4000000
namespace L2
open PySem PySem.Spec PyProof.Rows
section
variable {P:Program} {w:World} {K:PySem.W.Frag} {mg:Str → Option Value} {base:Heap}
end
section
variable {X:Cx} {pn:List (Addr × Obj)} {ea:Addr} {k k':Nat} {ps:List Str} {sp:Sp} {x:Str} {p pos:Pos} {e:Expr} {es:List Expr} {t:TA}
end
section
variable {X:Cx} {pins:List (Addr × Obj)}
end
end L2
set_option maxHeartbeats 4000000
namespace L2
open PySem PySem.Spec PyProof.Rows
section
variable {M:Model} {A:Around} {E:Value → Shared → Prop} {s:Shared} {B:Heap} {env:Env} {outer l:List Env} {L e:Addr} {cls fl:Value} {d:Option Addr} {Q:Unit → Shared → Prop}
theorem fly_flightA {o:Option Addr} (F:Fly B l e cls d fl s.heap) (hQ:∀ h' fl',Fly B l e cls d fl' h' → s.heap.UpToSlots h' → Q () { s with heap:=h' }):wpAny M A (setFlight (.ref e) o) Q E s:=by
  obtain ⟨hB,hn,hl,oe,vs,T,oT,ts,he,hc,hd,h1,hT,hTe,gT,dT,t3,c2⟩:=F
  have z3:3 < ts.size:=(Array.getElem?_eq_some_iff.mp t3).1
  unfold setFlight
  refine wpAny_bind (wpAny_field he hd h1 ?_)
  rw [if_pos (show (Value.ref T != Value.none) = true by simp)]
  refine wpAny_setField gT dT z3 (hQ _ (o.elim .none fun f => rawInt f) ?_ fun b o q nf => ⟨o.slots,up_ne gT dT b o q nf⟩)
  have dm:=Obj.data_mapFields dT (·.setIfInBounds 3 (o.elim Value.none fun f => rawInt f))
  refine ⟨fun b u q => ?_,hn,hl.of_keeps fun b u q nf => ⟨u,up_ne gT dT b u q nf,rfl⟩,oe,vs,T,_,_,?_,hc,hd,h1,hT,hTe,Heap.get?_update_self _ gT (Obj.isFreed_of_fields dm),dm,by simp [z3],c2⟩
  · rw [Heap.get?_update_other _ _ (fun z:T = b => by rw [← z,hT] at q; cases q)]
    exact hB b u q
  · rw [Heap.get?_update_other _ _ hTe]
    exact he
theorem fly_passOn {α:Type} {what:String} {cenv:Env} {Q:α → Shared → Prop} (F:Fly B l e cls d fl s.heap) (hE:∀ h' fl',Fly B l e cls d fl' h' → s.heap.UpToSlots h' → E (.ref e) { s with heap:=h' }) :
    wpAny M A (passOn what (.ref e) cenv:Sem α) Q E s:=by
  obtain ⟨oe,vs,T,oT,ts,he,hc,hd,h1,_⟩:=id F.on
  unfold PySem.passOn
  refine wpAny_bind (wpAny_field he hd h1 ?_)
  rw [if_neg (show ¬ ((Value.ref T == Value.none) = true) by simp)]
  exact wpAny_bind (fly_flightA F fun h' fl' F' up => wpAny_throw (hE h' fl' F' up))
theorem Fly.hid {h h':Heap} {C:Addr} {oC:Obj} (F:Fly B l e cls d fl h) (hC:B.get? C = some oC) (sb:Heap.SameBut C h h'):Fly (PySem.W.hideAll B [C]) l e cls d fl h':=by
  have nC:∀ b,B.get? b = none → b ≠ C:=fun b hb z => by rw [z,hC] at hb; cases hb
  have gone:∀ b,B.get? b = none → (PySem.W.hideAll B [C]).get? b = none:=fun b hb => by
    cases q:(PySem.W.hideAll B [C]).get? b with
    | none => rfl
    | some o =>
      have:=PySem.W.of_hideAll _ q
      rw [hb] at this
      cases this
  obtain ⟨hB,hn,hl,oe,vs,T,oT,ts,he,hc,hd,h1,hT,hTe,gT,r⟩:=F
  refine ⟨fun b o q => ?_,gone e hn,?_,oe,vs,T,oT,ts,(sb.2 e (nC e hn)).trans he,hc,hd,h1,gone T hT,hTe,(sb.2 T (nC T hT)).trans gT,r⟩
  · have hb:b ≠ C:=fun z => by
      rw [z,PySem.W.hideAll_none _ List.mem_cons_self] at q
      cases q
    exact (sb.2 b hb).trans (hB b o (PySem.W.of_hideAll _ q))
  · have all:∀ l:List Env,h.FunFrames B l → h'.FunFrames (PySem.W.hideAll B [C]) l:=fun l => by
      induction l with
      | nil => exact fun _ => trivial
      | cons env r ih => exact fun ⟨hk,⟨L,o,hf,hn,ho,hd⟩,hr⟩ => ⟨hk,⟨L,o,hf,gone L hn,(sb.2 L (nC L hn)).trans ho,hd⟩,ih hr⟩
    exact all l hl
end
def LX (X:Cx) (Ex:XK):Value → Shared → Prop:=fun e s' => ∃ ea cls d B H' fl,e = .ref ea ∧ s'.os = X.s₀.os ∧ AllBare s'.gens ∧ Fly B X.stack ea cls d fl s'.heap ∧ HOk X.prog X.w H' B ∧ UnB X.fs X.H₀ H' X.s₀.heap B s'.heap ∧ Ex cls d H'
def Late (X:Cx) (Ex:XK):Prop:=∀ e s',X.Ok → LX X Ex e s' → X.xe e s'
def CErr (X:Cx) (Ex:XK) (C:Addr) (e:Value) (s':Shared):Prop:=∃ ea cls d B H' fl m,e = .ref ea ∧ s'.os = X.s₀.os ∧ AllBare s'.gens ∧ Fly B X.stack ea cls d fl s'.heap ∧ B.Ns C m ∧ HOk X.prog X.w H' B ∧ H' C = none ∧ UnB X.fs X.H₀ H' X.s₀.heap B s'.heap ∧ X.s₀.heap.objs.size ≤ C ∧ Ex cls d H'
theorem CErr.post {X:Cx} {Ex:XK} {C:Addr} {e:Value} {s':Shared} (h:CErr X Ex C e s') (ok:X.Ok) (hL:Late X Ex):∃ m,s'.heap.Ns C m ∧ ∀ h',Heap.SameBut C s'.heap h' → ∀ cenv:Env,cenv.locals = C →
    wpAny (model X.prog X.w) X.A (passOn "comprehension.variables-let-go" e cenv:Sem Value) (fun _ _ => False) X.xe { s' with heap:=h' }:=by
  obtain ⟨ea,cls,d,B,H',fl,m,rfl,os,bare,F,nB,hok,hC,un,hz,q⟩:=h
  refine ⟨m,nB.keeps fun b o e => F.stays b o e,fun h' sb cenv _ => ?_⟩
  obtain ⟨oC,_,_,gC,_⟩:=id nB
  refine fly_passOn (s:={ s' with heap:=h' }) (F.hid gC sb) fun h2 fl2 F2 up => hL _ _ ok ?_
  have neC:∀ b o,X.s₀.heap.get? b = some o → b ≠ C:=fun b o e z => absurd (Heap.lt_size e) (Nat.not_lt.mpr (by rw [z]; exact hz))
  have hid:∀ b o,B.get? b = some o → b ≠ C → (PySem.W.hideAll B [C]).get? b = some o:=fun b o e n => PySem.W.hideAll_get _ e fun hm => n (List.mem_singleton.mp hm)
  refine ⟨ea,cls,d,_,H',fl2,rfl,os,bare,F2,hok.down fun b o u e g => hid b o g fun z => ?_,⟨fun b o e n hb => hid b o (un.keep b o e n hb) (neC b o e),fun b o e n hb => ?_,un.free,fun b o e hb => ?_,un.tups,un.frzs,un.tbls⟩,q⟩
  · rw [z,hC] at e
    cases e
  · obtain ⟨sl,q1⟩:=un.slot b o e n hb
    obtain ⟨_,o2,g2,nf⟩:=ok.funs.mem hb
    rw [e] at g2
    cases g2
    obtain ⟨sl2,q2⟩:=up b _ ((sb.2 b (neC b o e)).trans q1) nf
    exact ⟨sl2,q2⟩
  · obtain ⟨o',q1⟩:=un.there b o e hb
    exact ⟨o',hid b o' q1 (neC b o e)⟩
section
variable {X:Cx} {Ex:XK} {N:List Str} {scope:Scope} {cl:List (Str × Addr)} {vals:St → St} {tg elt iter:Expr} {ifs:List Expr} {pos spos py:Pos} {wi:TI} {g:TG} {tests:TT} {te:TE}
end
end L2
set_option maxHeartbeats 4000000
namespace L2
open PySem PySem.Spec PyProof.Rows
end L2
set_option maxHeartbeats 4000000
namespace L2
open PySem PySem.Spec PyProof.Rows
section
variable {prog:Program} {w:World} {A:Around} {E:Value → Shared → Prop} {R:Result → Shared → Prop} {old:Heap} {S l it:Addr} {vs:List Value} {J:Nat → Obj → Prop}
end
section
variable {prog:Program} {w:World} {A:Around} {E:Value → Shared → Prop} {s:Shared}
def bare (led:Bool):Obj:={ cls:=.type "set",dict:=none,data:=.set #[] 0 (.fresh 0 0 led) }
end
end L2
set_option maxHeartbeats 4000000
namespace L2
open PySem PySem.Spec PyProof.Rows
def mRngV:List V → Hp → VK → Prop:=fun xs H Q => (∃ j:Int,xs = [.int j] ∧ ∀ r,H r = none → Q (.ref r) (upd H r (.rng 0 j))) ∨ (∃ i j:Int,xs = [.int i,.int j] ∧ ∀ r,H r = none → Q (.ref r) (upd H r (.rng i j)))
theorem Inv.rngNew {X:Cx} {pins:List (Addr × Obj)} {σ:St} {H:Hp} {s:Shared} {lo hi:Int} {t u v:Tok} {tk:Nat} (I:Inv X pins σ H s) :
    Inv X pins σ (upd H s.heap.objs.size (.rng lo hi)) { s with heap:=s.heap.push { cls:=.type "range",data:=.fields #[.int lo t,.int hi u,.int 1 v] },toks:=tk } :=
  (I.kept (t':=tk) fun b o e => Heap.get?_push_of_some _ e).adopt (I.freAt (Nat.le_refl _)) (I.hok.fresh (Nat.le_refl _)) ⟨t,u,v,Heap.get?_push_size _ rfl⟩
theorem m_rngV {X:Cx}:CallR X (.type "range") mRngV:=by
  intro pins s σ H xs us Q I r h
  rcases h with ⟨j,rfl,q⟩ | ⟨i,j,rfl,q⟩
  · obtain ⟨u,rfl,⟨t,rfl⟩⟩:=vals1 r
    exact call_range_1 ⟨.ref _,_,I.rngNew,rfl,q _ (I.hok.fresh (Nat.le_refl _))⟩
  · obtain ⟨u,w',rfl,⟨t,rfl⟩,⟨t',rfl⟩⟩:=vals2 r
    exact call_range_2 ⟨.ref _,_,I.rngNew,rfl,q _ (I.hok.fresh (Nat.le_refl _))⟩
theorem s_rngV1 {H:Hp} {Q:VK} {j:Int} (h:∀ r,H r = none → Q (.ref r) (upd H r (.rng 0 j))):mRngV [.int j] H Q:=.inl ⟨j,rfl,h⟩
end L2
set_option maxHeartbeats 4000000
namespace L2
open PySem PySem.Spec PyProof.Rows
theorem Lsts.app {H1 Hc:Hp} {ps qs:List Addr} {fs gs:List (List V)} (t:Lsts H1 Hc ps fs) (u:Lsts H1 Hc qs gs):Lsts H1 Hc (ps ++ qs) (fs ++ gs):=by
  refine ⟨by rw [List.length_append,List.length_append,t.1,u.1],fun j p v hp hv => ?_⟩
  by_cases h:j < ps.length
  · rw [List.getElem?_append_left h] at hp
    rw [List.getElem?_append_left (by rw [← t.1]; exact h)] at hv
    exact t.2 j p v hp hv
  · rw [List.getElem?_append_right (by omega)] at hp
    rw [List.getElem?_append_right (by rw [← t.1]; omega),← t.1] at hv
    exact u.2 _ p v hp hv
section
variable {g:TG} {tests:TT} {te:TE} {σ0:St} {Q:VK} {H1:Hp}
end
end L2
set_option maxHeartbeats 1000000
namespace L2
open PySem
def adv (t:SetTable) (p:SetTable.Probe):Nat → SetTable.Probe
  | 0 => p
  | n + 1 => adv t (t.advance p) n
def runAt (mask i per:Nat) (d:Option Nat):SetTable.Probe:={ j:=i,more:=SetTable.runEnd mask i - i,i:=i,perturb:=per,dummy:=d }
def leaps (mask:Nat) (x:Nat × Nat):Nat → Nat × Nat
  | 0 => x
  | n + 1 => leaps mask (SetTable.leap mask x.1 x.2) n
theorem leaps_add (mask m:Nat):∀ (n:Nat) (x:Nat × Nat),leaps mask x (n + m) = leaps mask (leaps mask x n) m
  | 0,x => by rw [Nat.zero_add]; rfl
  | n + 1,x => by rw [Nat.succ_add]; exact leaps_add mask m n _
theorem per_leaps (mask:Nat):∀ (n:Nat) (x:Nat × Nat),(leaps mask x n).2 = x.2 / 32 ^ n
  | 0,x => by show x.2 = x.2 / 1; rw [Nat.div_one]
  | n + 1,x => by
    show (leaps mask (SetTable.leap mask x.1 x.2) n).2 = _
    rw [per_leaps mask n]
    show x.2 / 32 / 32 ^ n = _
    rw [Nat.div_div_eq_div_mul,Nat.pow_succ,Nat.mul_comm]
def cyc (M:Nat):Nat → Nat
  | 0 => 0
  | n + 1 => (cyc M n * 5 + 1) % M
theorem leaps_cyc (mask:Nat):∀ (n a:Nat),(leaps mask (cyc (mask + 1) a,0) n) = (cyc (mask + 1) (a + n),0)
  | 0,a => rfl
  | n + 1,a => by
    show leaps mask (SetTable.leap mask (cyc (mask + 1) a) 0) n = _
    have e:SetTable.leap mask (cyc (mask + 1) a) 0 = (cyc (mask + 1) (a + 1),0):=by
      show ((cyc (mask + 1) a * 5 + 1 + 0 / 32) % (mask + 1),0 / 32) = _
      rw [Nat.zero_div,Nat.add_zero]
      rfl
    rw [e,leaps_cyc mask n (a + 1),Nat.add_right_comm,Nat.add_assoc]
def Full (M:Nat):Prop:=cyc M M = 0 ∧ ∀ e,e < M → ∃ n,n < M ∧ cyc M n = e
theorem cyc_add (M:Nat) (h:cyc M M = 0):∀ n,cyc M (M + n) = cyc M n
  | 0 => h
  | n + 1 => by
    show (cyc M (M + n) * 5 + 1) % M = _
    rw [cyc_add M h n]
    rfl
theorem Full.reach {mask:Nat} (F:Full (mask + 1)) {x e:Nat} (hx:x < mask + 1) (he:e < mask + 1):∃ m,m ≤ mask ∧ (leaps mask (x,0) m).1 = e:=by
  obtain ⟨a,ha,rfl⟩:=F.2 x hx
  obtain ⟨b,hb,rfl⟩:=F.2 e he
  by_cases h:a ≤ b
  · exact ⟨b - a,by omega,by rw [leaps_cyc,Nat.add_sub_cancel' h]⟩
  · exact ⟨mask + 1 + b - a,by omega,by rw [leaps_cyc,show a + (mask + 1 + b - a) = mask + 1 + b by omega,cyc_add _ F.1]⟩
theorem leap_lt {mask:Nat}:∀ (n:Nat) {x:Nat × Nat},x.1 < mask + 1 → (leaps mask x n).1 < mask + 1
  | 0,x,h => h
  | n + 1,x,h => leap_lt n (x:=SetTable.leap mask x.1 x.2) (Nat.mod_lt _ (Nat.succ_pos _))
theorem come {mask:Nat} (F:Full (mask + 1)) {i per e:Nat} (hi:i < mask + 1) (hp:per < 2 ^ 64) (he:e < mask + 1):∃ m,m ≤ mask + 13 ∧ (leaps mask (i,per) m).1 = e:=by
  obtain ⟨m,hm,e1⟩:=F.reach (x:=(leaps mask (i,per) 13).1) (leap_lt 13 hi) he
  refine ⟨13 + m,by omega,?_⟩
  rw [leaps_add]
  have hz:(leaps mask (i,per) 13).2 = 0:=by
    rw [per_leaps]
    exact Nat.div_eq_of_lt (Nat.lt_of_lt_of_le hp (by decide))
  rw [show leaps mask (i,per) 13 = ((leaps mask (i,per) 13).1,0) from Prod.ext rfl hz]
  exact e1
section
variable {prog:Program} {w:World} {A:Around} {E:Value → Shared → Prop} {s:Shared}
end
end L2
set_option maxHeartbeats 4000000
namespace L2
open PySem PySem.Spec PyProof.Rows
section
variable {X:Cx} {a b:Expr} {rest:List Expr} {pos:Pos} {ta tb:TE}
end
end L2
set_option maxHeartbeats 4000000
namespace L2
open PySem PySem.Spec PyProof.Rows
open PySem.AutoSeq1 (wpAny_loadPart')
open PySem.MeetsSeq PySem.MeetsSeq2 PySem.MeetsSeq3
section
variable {P:Program} {w:World} {A:Around} {E:Value → Shared → Prop} {s:Shared} {l b:Addr} {xs ys:Array Value} {as bs:List Int}
end
open PySem.W (KasT kas_sort kas_cmp kas_item kas_item_eq kas_range kas_runs kas_kind kas_st)
def krun {α:Type} (lt:Nat → Nat → Bool):KasT α → α
  | .ret a => a
  | .ask i j k => krun lt (k (lt i j))
def kok {α:Type} (lt:Nat → Nat → Bool) (n:Nat):KasT α → Bool
  | .ret _ => true
  | .ask i j k => decide (i < n) && decide (j < n) && kok lt n (k (lt i j))
section
variable {prog:Program} {w:World} {A:Around} {E:Value → Shared → Prop} {s:Shared}
end
theorem vals_refs:∀ {ps:List Addr} {us:List Value},Vals (ps.map V.ref) us → us = ps.map Value.ref
  | [],_,.nil => rfl
  | p :: ps,_,.cons r t => by cases r; rw [vals_refs t]; rfl
end L2
set_option maxHeartbeats 4000000
namespace L2
open PySem PySem.Spec PyProof.Rows
end L2
set_option maxHeartbeats 1000000
namespace L2
open PySem
def tabM (mask:Nat):SetTable:={ SetTable.fresh 0 0 false with mask:=mask }
def plc (mask:Nat) (h:Int) (n:Nat):Nat:=(adv (tabM mask) (runAt mask (SetTable.bits h % (mask + 1)) (SetTable.bits h) none) n).j
def Rch (mask:Nat) (O:Nat → (Int × Value) → Prop):Prop:=∀ j e,O j e → ∃ n,n < 10 * SetTable.turns mask ∧ plc mask e.1 n = j ∧ ∀ n',n' < n → ∃ e',O (plc mask e.1 n') e'
theorem Rch.add {mask:Nat} {O O':Nat → (Int × Value) → Prop} {e0:Int × Value} {n0:Nat} (R:Rch mask O) (sub:∀ j e,O j e → O' j e) (new:∀ j e,O' j e → O j e ∨ (e = e0 ∧ j = plc mask e0.1 n0)) (hn:n0 < 10 * SetTable.turns mask) (hne:∀ n',n' < n0 → ∃ e',O (plc mask e0.1 n') e'):Rch mask O':=fun j e h => by
  rcases new j e h with z | ⟨rfl,rfl⟩
  · obtain ⟨n,h1,h2,h3⟩:=R j e z
    exact ⟨n,h1,h2,fun n' hn' => (h3 n' hn').elim fun e' z => ⟨e',sub _ _ z⟩⟩
  · exact ⟨n0,hn,rfl,fun n' hn' => (hne n' hn').elim fun e' z => ⟨e',sub _ _ z⟩⟩
def Ris (xs:Array Nat):Prop:=∀ (i k a b:Nat),i < k → xs[i]? = some a → xs[k]? = some b → a < b
theorem getD_none {owner:Array (Option Nat)} {j:Nat} (h:owner.getD j (some 0) = none):j < owner.size ∧ owner.getD j none = none:=by
  have hj:j < owner.size:=by
    refine Nat.lt_of_not_le fun z => ?_
    rw [Array.getD_eq_getD_getElem?,Array.getElem?_eq_none z] at h
    cases h
  rw [Array.getD_eq_getD_getElem?,Array.getElem?_eq_getElem hj] at h ⊢
  exact ⟨hj,h⟩
theorem getD_some {owner:Array (Option Nat)} {j:Nat} (hj:j < owner.size) (h:owner.getD j (some 0) ≠ none):∃ k,owner.getD j none = some k:=by
  rw [Array.getD_eq_getD_getElem?,Array.getElem?_eq_getElem hj] at h ⊢
  cases e:owner[j] with
  | none => rw [e] at h; exact absurd rfl h
  | some k => exact ⟨k,rfl⟩
section
variable {prog:Program} {w:World} {A:Around} {E:Value → Shared → Prop} {s:Shared}
end
open PySem.Spec PyProof.Rows
def Alx (H:Hp):Nat → V → V → Prop
  | 0,x,y => x = y ∧ (flatV x = true ∨ ∃ p,x = .ref p)
  | n + 1,x,y => (x = y ∧ (flatV x = true ∨ ∃ p,x = .ref p)) ∨ ∃ p q,x = .ref p ∧ y = .ref q ∧ ((∃ xs ys,rdL H p = some xs ∧ rdL H q = some ys ∧ xs.length = ys.length ∧ ∀ (j:Nat) x' y',xs[j]? = some x' → ys[j]? = some y' → Alx H n x' y') ∨ ∃ kvs kws,Rd H p (.dK kvs) ∧ Rd H q (.dK kws) ∧ DEq kvs kws)
theorem Alx.same {H:Hp} {n:Nat} {x:V} (h:flatV x = true ∨ ∃ p,x = .ref p):Alx H n x x:=by
  cases n with
  | zero => exact ⟨rfl,h⟩
  | succ n => exact .inl ⟨rfl,h⟩
theorem eqw_same {X:Cx} {s:Shared} {A:Around} {x:V} {u v:Value} (h:flatV x = true ∨ ∃ p,x = .ref p) (ru:RelV x u) (rv:RelV x v):EqW X.prog X.w A s u v:=by
  rcases h with hf | ⟨p,rfl⟩
  · have:=eqAt_V (A:=A) (s:=s) ru rv hf hf
    rw [eqV_self hf] at this
    exact fun E Q hq => this X.prog X.w E Q hq
  · cases ru
    cases rv
    exact .same _
theorem alx_rc {X:Cx} {pins:List (Addr × Obj)} {σ:St} {H:Hp} {s:Shared} (I:Inv X pins σ H s) {A:Around} {p q:Addr} {xs ys:List V} (hp:rdL H p = some xs) (hq:rdL H q = some ys) (hl:xs.length = ys.length) (h:∀ (j:Nat) x' y' u v,xs[j]? = some x' → ys[j]? = some y' → RelV x' u → RelV y' v → EqW X.prog X.w A.in1 s u v) (hu:A.units < cLine) (E:Value → Shared → Prop) (Q:Value → Shared → Prop) :
    (Q (.bool true) s → wpAny (model X.prog X.w) A (richCompare .Eq (.ref p) (.ref q)) Q E s) ∧ (Q (.bool false) s → wpAny (model X.prog X.w) A (richCompare .NotEq (.ref p) (.ref q)) Q E s):=by
  obtain ⟨its,r1,l1,_⟩:=I.list (rdL_sq hp)
  obtain ⟨its2,r2,l2,_⟩:=I.list (rdL_sq hq)
  have e1:=r1.length
  have e2:=r2.length
  have he:∀ j (h1:j < its.toArray.size) (h2:j < its2.toArray.size),EqW X.prog X.w A.in1 s its.toArray[j] its2.toArray[j]:=fun j h1 h2 => by
    have h1':j < its.length:=by simpa using h1
    have h2':j < its2.length:=by simpa using h2
    obtain ⟨u',hu',ru'⟩:=r1.get (List.getElem?_eq_getElem (show j < xs.length by omega))
    obtain ⟨v',hv',rv'⟩:=r2.get (List.getElem?_eq_getElem (show j < ys.length by omega))
    rw [List.getElem?_eq_getElem h1'] at hu'
    rw [List.getElem?_eq_getElem h2'] at hv'
    cases hu'
    cases hv'
    simpa using h j _ _ _ _ (List.getElem?_eq_getElem _) (List.getElem?_eq_getElem _) ru' rv'
  have hs:its.toArray.size = its2.toArray.size:=by simp only [List.size_toArray]; omega
  exact ⟨fun q => rcw_eq l1.isList l2.isList hs hu he q,fun q => rcw_ne l1.isList l2.isList hs hu he q⟩
theorem alx_eq {X:Cx} {pins:List (Addr × Obj)} {σ:St} {H:Hp} {s:Shared} (I:Inv X pins σ H s):∀ (n:Nat) (A:Around) (x y:V) (u v:Value),Alx H n x y → RelV x u → RelV y v → A.units + n < cLine → EqW X.prog X.w A s u v:=by
  intro n
  induction n with
  | zero =>
    intro A x y u v h ru rv hu
    obtain ⟨rfl,hx⟩:=h
    exact eqw_same hx ru rv
  | succ n ih =>
    intro A x y u v h ru rv hu
    rcases h with ⟨rfl,hx⟩ | ⟨p,q,rfl,rfl,hpq⟩
    · exact eqw_same hx ru rv
    · cases ru
      cases rv
      by_cases e:p = q
      · subst e
        exact .same _
      rcases hpq with ⟨xs,ys,hp,hq,hl,h⟩ | ⟨kvs,kws,hp,hq,d⟩
      · exact .refs e fun E Q hq' => (alx_rc I hp hq hl (fun j x' y' u v hx hy hu' hv' => ih A.in1 x' y' u v (h j x' y' hx hy) hu' hv' (by show A.units + 1 + n < cLine; omega)) (by omega) E Q).1 hq'
      · exact .refs e fun E Q hq' => (dict_rc I hp hq d (by omega) E Q).1 hq'
def mEqX (neg:Bool):R2:=fun x y H Q => ∃ n p q xs ys,n ≤ 50 ∧ x = .ref p ∧ y = .ref q ∧ rdL H p = some xs ∧ rdL H q = some ys ∧ xs.length = ys.length ∧ (∀ (j:Nat) x' y',xs[j]? = some x' → ys[j]? = some y' → Alx H n x' y') ∧ Q (.bl (!neg)) H
theorem m_neX {X:Cx} (hu:X.A.units + 64 < cLine):OpR X (compareOp .NotEq) (mEqX true):=by
  intro pins s σ H x y v u Q I rx ry h
  obtain ⟨n,p,q,xs,ys,hn,rfl,rfl,hp,hq,hl,al,k⟩:=h
  cases rx
  cases ry
  exact (alx_rc I hp hq hl (fun j x' y' u v hx hy hu' hv' => alx_eq I n X.A.in1 x' y' u v (al j x' y' hx hy) hu' hv' (by show X.A.units + 1 + n < cLine; omega)) (by omega) _ _).2 ⟨.bl false,H,I,rfl,k⟩
theorem s_alx {neg:Bool} {p q:Addr} {H:Hp} {Q:VK} {xs ys:List V} (n:Nat) (hp:rdL H p = some xs) (hq:rdL H q = some ys) (hl:xs.length = ys.length) (al:∀ (j:Nat) x' y',xs[j]? = some x' → ys[j]? = some y' → Alx H n x' y') (h:Q (.bl (!neg)) H) (hn:n ≤ 50:=by omega):mEqX neg (.ref p) (.ref q) H Q:=⟨n,p,q,xs,ys,hn,rfl,rfl,hp,hq,hl,al,h⟩
end L2
set_option maxHeartbeats 1000000
namespace L2
open PySem PySem.Spec PyProof.Rows
def hdl (i:Nat) (ts:TS) (D:Ends) (cls:Value) (d:Option Addr) (σ1:St) (H1:Hp):Prop:=∀ ea,H1 ea = none →
  ts { nx:=fun σ2 H2 => D.nx (σ2.set i none) H2,rt:=D.rt,bk:=fun σ2 H2 => D.bk (σ2.set i none) H2,ct:=fun σ2 H2 => D.ct (σ2.set i none) H2 } (σ1.set i (some (.ref ea))) (upd H1 ea (excO ea cls d))
section
variable {X:Cx} {pins:List (Addr × Obj)}
end
end L2
set_option maxHeartbeats 1000000
namespace L2
open PySem PySem.Spec PyProof.Rows
section
variable {X:Cx}
end
end L2
set_option maxHeartbeats 1000000
namespace L2
open PySem PySem.Spec PyProof.Rows
open PySem.AutoSeq1 (wpAny_loadPart')
section
variable {X:Cx}
end
section
variable {X:Cx} {a b:Expr} {rest:List Expr} {pos:Pos} {ta tb:TE}
end
section
variable {X:Cx}
theorem KV.at {kvs:List (Key × V)} {vs:List (Key × Value)} (r:KV kvs vs):∀ {i:Nat} {k:Key} {u:Value},vs[i]? = some (k,u) → ∃ v,kvs[i]? = some (k,v) ∧ RelV v u:=by
  unfold KV at r
  induction r with
  | nil => intro i k u h; cases h
  | @cons kv vv _ _ hk t ih =>
    intro i k u h
    obtain ⟨e,ru⟩:=hk
    cases i with
    | zero => cases h; exact ⟨kv.2,by rw [List.getElem?_cons_zero]; exact congrArg some (Prod.ext e rfl),ru⟩
    | succ i => exact ih h
end
end L2
set_option maxHeartbeats 1000000
namespace L2
open PySem PySem.Spec PyProof.Rows
section
variable {X:Cx}
end
section
variable {X:Cx} {a b:Expr} {rest:List Expr} {pos:Pos} {ta tb:TE}
end
end L2
set_option maxHeartbeats 4000000
namespace L2
open PySem PySem.Spec PyProof.Rows
open PySem.AutoSeq1 (wpAny_loadPart')
open PySem.MeetsSeq PySem.MeetsSeq2 PySem.MeetsSeq3
open PySem.W (KasT kas_sort kas_cmp kas_item kas_item_eq kas_range kas_runs kas_kind kas_st kat_kind kat_lt kat_cons kat_nil kat_yes kat_no kat_go kat_one KatTups KatLex)
section
variable {prog:Program} {w:World} {A:Around} {E:Value → Shared → Prop} {s:Shared}
end
def ltPr (a b:Int × Int):Prop:=a.1 < b.1 ∨ (a.1 = b.1 ∧ a.2 < b.2)
section
variable {X:Cx}
end
end L2
set_option maxHeartbeats 1000000
namespace L2
open PySem PySem.Spec PyProof.Rows
section
variable {X:Cx}
end
end L2
set_option maxHeartbeats 1000000
namespace L2
open PySem PySem.Spec PyProof.Rows
def Alt (H:Hp):Nat → V → V → Prop
  | 0,x,y => x = y ∧ flatV x = true
  | n + 1,x,y => (x = y ∧ flatV x = true) ∨ ∃ p q xs ys,x = .ref p ∧ y = .ref q ∧ ((rdL H p = some xs ∧ rdL H q = some ys) ∨ (H p = some (.tup xs) ∧ H q = some (.tup ys))) ∧ xs.length = ys.length ∧ ∀ (j:Nat) x' y',xs[j]? = some x' → ys[j]? = some y' → Alt H n x' y'
theorem Alt.flat {H:Hp} {n:Nat} {x:V} (h:flatV x = true):Alt H n x x:=by
  cases n with
  | zero => exact ⟨rfl,h⟩
  | succ n => exact .inl ⟨rfl,h⟩
theorem Alt.flats {H:Hp} {n:Nat} {xs:List V} (f:xs.all flatV = true):∀ (j:Nat) x y,xs[j]? = some x → xs[j]? = some y → Alt H n x y:=fun j x y hx hy => by
  rw [hx] at hy
  cases hy
  exact .flat (List.all_eq_true.mp f x (List.mem_of_getElem? hx))
theorem Alt.lst {H:Hp} {n:Nat} {p q:Addr} {xs ys:List V} (hp:rdL H p = some xs) (hq:rdL H q = some ys) (hl:xs.length = ys.length) (h:∀ (j:Nat) x y,xs[j]? = some x → ys[j]? = some y → Alt H n x y):Alt H (n + 1) (.ref p) (.ref q):=.inr ⟨p,q,xs,ys,rfl,rfl,.inl ⟨hp,hq⟩,hl,h⟩
theorem Alt.tup {H:Hp} {n:Nat} {p q:Addr} {xs ys:List V} (hp:H p = some (.tup xs)) (hq:H q = some (.tup ys)) (hl:xs.length = ys.length) (h:∀ (j:Nat) x y,xs[j]? = some x → ys[j]? = some y → Alt H n x y):Alt H (n + 1) (.ref p) (.ref q):=.inr ⟨p,q,xs,ys,rfl,rfl,.inr ⟨hp,hq⟩,hl,h⟩
section
variable {X:Cx}
end
end L2
set_option maxHeartbeats 4000000
namespace L2
open PySem PySem.Spec PyProof.Rows
section
variable {X:Cx} {N:List Str} {scope:Scope} {cl:List (Str × Addr)} {vals:St → St} {tg elt iter:Expr} {ifs:List Expr} {pos spos py:Pos} {wi:TI} {g:TG} {tests:TT} {te:TE}
end
section
variable {prog:Program} {w:World} {A:Around} {E:Value → Shared → Prop} {s:Shared}
end
section
variable {X:Cx}
end
end L2
set_option maxHeartbeats 1000000
namespace L2
open PySem PySem.Spec PyProof.Rows
section
variable {X:Cx}
end
end L2
namespace L2
open PySem PySem.Spec PyProof.Rows
def btV (val:Nat → Int) (i j:Nat):Bool:=decide (val i > val j)
section
variable {prog:Program} {w:World} {A:Around} {R:Result → Shared → Prop} {J B f:Addr} {us ws:List Addr} {n:Nat} {P:Nat → Value → Prop} {St:Nat → Heap → Prop} {G:Shared → Prop} {val:Nat → Int}
theorem int_gt {s:Shared} {i j:Int} {t u:Tok} {Q:Value → Shared → Prop} {E:Value → Shared → Prop} (h:Q (.bool (decide (i > j))) s):wpAny (model prog w) A (richCompare .Gt (.int i t) (.int j u)) Q E s :=
  CmpOf.ints_gt (P:=fun k v => (k = 0 → ∃ t,v = Value.int i t) ∧ (k = 1 → ∃ t,v = .int j t) ∧ k ≤ 1) (fun k => if k = 0 then i else j) (fun k v hv => by
    obtain ⟨h0,h1,h2⟩:=hv
    by_cases e:k = 0
    · obtain ⟨t,rfl⟩:=h0 e; exact ⟨t,by rw [if_pos e]⟩
    · obtain ⟨t,rfl⟩:=h1 (by omega); exact ⟨t,by rw [if_neg e]⟩) 0 1 _ _ s Q E ⟨fun _ => ⟨t,rfl⟩,fun e => absurd e (by decide),by decide⟩ ⟨fun e => absurd e (by decide),fun _ => ⟨u,rfl⟩,by decide⟩ h
theorem maxK_step (W:Walks prog w A.in1 J us ws n P St) (nB:B ∉ us)
    (hG:∀ (s:Shared) h' tk,G s → (∀ b o,b ∉ ws → b ≠ B → s.heap.get? b = some o → h'.get? b = some o) → G { s with heap:=h',toks:=tk })
    (hcall:∀ (i:Nat) v (s:Shared) (Q:Value → Shared → Prop) (E:Value → Shared → Prop),P i v → G s → (∀ t s',G s' → (∀ b o,b ∈ B :: us → s.heap.get? b = some o → s'.heap.get? b = some o) → Q (.int (val i) t) s') → wpAny (model prog w) A.in1 (call (.ref f) [v]) Q E s)
    (hR:∀ z s',P (argBest (btV val) (n - 1)) z → G s' → R (.ok (.ret z)) s') :
    ∀ (r i:Nat) (s:Shared) (y:Value) (t:Tok) (c:Nat),n - (i + 1) = r → i + 1 ≤ n → St (i + 1) s.heap → P (argBest (btV val) i) y → s.heap.get? B = some { cls:=.type "list",data:=.seq #[y,.int (val (argBest (btV val) i)) t] c } → G s →
    codeAny (model prog w) A (.builtin "max.loop" ⟨[.ref J,.ref f,.ref B],[]⟩) R s:=by
  have nBw:B ∉ ws:=fun z => nB (W.sub _ z)
  have nm:(toString "max" ++ toString ".loop" : String) = "max.loop" := by decide
  intro r
  induction r with
  | zero =>
    intro i s y t c er hi st py eB g
    have en:i + 1 = n:=by omega
    refine codeAny_builtin PySem.F.entry_max_loop ?_
    rw [Around.under_plainId PySem.F.plain_max_loop _]
    show wpAny _ A.in1 (seqItems? (.ref B) >>= _) _ _ s
    refine wpAny_bind (wpAny_seqItems eB rfl ?_)
    show wpAny _ A.in1 (tryCatch (pyNext (.ref J)) _ >>= _) _ _ s
    refine wpAny_bind (wpAny_tryCatch (W.done s _ _ (en ▸ st) fun h' tk kp => ?_))
    have eB2:=kp B _ nBw eB
    show wpAny _ A.in1 (updateSeq B (fun _ => #[]) >>= _) _ _ _
    refine wpAny_bind (wpAny_updateSeq eB2 rfl (wpAny_bind (wpAny_letGo (wpAny_pure ?_))))
    exact hR y _ (by rw [← en]; exact py) (hG s _ tk g fun b o n1 n2 e => (Heap.get?_update_other _ _ (Ne.symm n2)).trans (kp b o n1 e))
  | succ r ih =>
    intro i s y t c er hi st py eB g
    have lt:i + 1 < n:=by omega
    refine codeAny_builtin PySem.F.entry_max_loop ?_
    rw [Around.under_plainId PySem.F.plain_max_loop _]
    show wpAny _ A.in1 (seqItems? (.ref B) >>= _) _ _ s
    refine wpAny_bind (wpAny_seqItems eB rfl ?_)
    show wpAny _ A.in1 (tryCatch (pyNext (.ref J)) _ >>= _) _ _ s
    refine wpAny_bind (wpAny_tryCatch (W.item (i + 1) s _ _ lt st fun z h' tk pz st2 kp => ?_))
    have eB2:=kp B _ nBw eB
    have g2:G { s with heap:=h',toks:=tk }:=hG _ _ tk g fun b o n1 _ e => kp b o n1 e
    show wpAny _ A.in1 (tryCatch (holding [z] (call (.ref f) [z])) _ >>= _) _ _ _
    refine wpAny_bind (wpAny_tryCatch (wpAny_holding (hcall (i + 1) z _ _ _ pz g2 fun u s3 g3 k3 => ?_)))
    have eB3:=k3 B _ List.mem_cons_self eB2
    have st3:=W.frame _ _ _ st2 fun b hb o e => k3 b o (List.mem_cons_of_mem _ hb) e
    show wpAny _ A.in1 (tryCatch (holding [z,.int (val (i + 1)) u] (richCompare .Gt (.int (val (i + 1)) u) (.int (val (argBest (btV val) i)) t) >>= _)) _ >>= _) _ _ _
    refine wpAny_bind (wpAny_tryCatch (wpAny_holding (wpAny_bind (int_gt ?_))))
    refine wpAny_bind (wpAny_holding (wpAny_truthy_bool (wpAny_bind (wpAny_letGo (wpAny_pure ?_)))))
    have eb:decide (val (i + 1) > val (argBest (btV val) i)) = btV val (i + 1) (argBest (btV val) i):=rfl
    rw [eb]
    cases e:btV val (i + 1) (argBest (btV val) i) with
    | true =>
      simp only [if_true]
      refine wpAny_bind (wpAny_updateSeq eB3 rfl (wpAny_bind (wpAny_letGo ?_)))
      rw [nm]
      have ea:argBest (btV val) (i + 1) = i + 1:=by unfold argBest; rw [e]; rfl
      refine wpAny_pure ⟨plainId_quiet PySem.F.plain_max_loop _,ih (i + 1) _ z u _ (by omega) lt (W.frame _ _ _ st3 fun b hb o q => (Heap.get?_update_other _ _ (fun y:B = b => nB (y ▸ hb))).trans q) (by rw [ea]; exact pz) (by rw [ea]; exact Heap.get?_update_self _ eB3 rfl) (hG s3 _ s3.toks g3 fun b o n1 n2 q => (Heap.get?_update_other _ _ (Ne.symm n2)).trans q)⟩
    | false =>
      simp only [Bool.false_eq_true,if_false]
      refine wpAny_bind (wpAny_letGo ?_)
      rw [nm]
      have ea : argBest (btV val) (i + 1) = argBest (btV val) i := by conv => lhs; unfold argBest; rw [e]
                                                                      rfl
      refine wpAny_pure ⟨plainId_quiet PySem.F.plain_max_loop _,ih (i + 1) s3 y t c (by omega) lt st3 (by rw [ea]; exact py) (by rw [ea]; exact eB3) g3⟩
end
end L2
set_option maxHeartbeats 1000000
namespace L2
open PySem PySem.Spec PyProof.Rows
def SetIt (h:Heap) (it a:Addr) (slot i n ep:Nat):Prop:=∃ o,h.get? it = some o ∧ o.cls = .type "set_iterator" ∧ o.data = .fields #[.int slot 0,.int i 0,.ref a,.int n 0,.int ep 0]
structure SetAt (h:Heap) (a:Addr) (es:Array (Int × Value)) (ep:Nat) (t:SetTable):Prop where
  ob:∃ o,h.get? a = some o ∧ o.cls = .type "set" ∧ o.data = .set es ep t
  fits:t.fits es.size = true
  plain:t.plain = true
  ris:Ris t.place
  sz:t.place.size = es.size
section
variable {prog:Program} {w:World} {A:Around} {E:Value → Shared → Prop} {s:Shared} {a it:Addr} {es:Array (Int × Value)} {ep:Nat} {t:SetTable}
end
end L2
set_option maxHeartbeats 1000000
namespace L2
open PySem PySem.Spec PyProof.Rows
section
variable {prog:Program} {w:World} {A:Around} {E:Value → Shared → Prop} {R:Result → Shared → Prop} {old:Heap} {S l it:Addr} {vs:List Value} {J:Nat → Obj → Prop}
end
section
variable {prog:Program} {w:World} {A:Around} {E:Value → Shared → Prop} {s:Shared}
end
end L2
set_option maxHeartbeats 1000000
namespace L2
open PySem PySem.Spec PyProof.Rows
section
variable {prog:Program} {w:World} {A:Around} {E:Value → Shared → Prop} {s:Shared}
end
end L2
set_option maxHeartbeats 1000000
namespace L2
open PySem PySem.Spec PyProof.Rows
end L2
set_option maxHeartbeats 1000000
namespace L2
open PySem PySem.Spec PyProof.Rows
theorem SetIt.at {h h':Heap} {it a:Addr} {slot i n ep:Nat} (x:SetIt h it a slot i n ep) (k:∀ o,h.get? it = some o → h'.get? it = some o):SetIt h' it a slot i n ep:=by
  obtain ⟨o,e,q⟩:=x
  exact ⟨o,k o e,q⟩
theorem SetAt.at {h h':Heap} {a:Addr} {es:Array (Int × Value)} {ep:Nat} {t:SetTable} (x:SetAt h a es ep t) (k:∀ o,h.get? a = some o → h'.get? a = some o):SetAt h' a es ep t:=by
  obtain ⟨⟨o,e,q⟩,r1,r2,r3,r4⟩:=x
  exact ⟨⟨o,k o e,q⟩,r1,r2,r3,r4⟩
section
variable {prog:Program} {w:World} {A:Around} {E:Value → Shared → Prop} {s:Shared} {a it ea:Addr} {es:Array (Int × Value)} {ep:Nat} {t:SetTable}
end
end L2
set_option maxHeartbeats 1000000
namespace L2
open PySem PySem.Spec PyProof.Rows
open PySem.W (KasT kas_sort kas_rev kas_asc kas_desc kas_tail3 kas_descPart kas_count kas_place kas_bin)
def KR {α:Type} (lt:Nat → Nat → Bool) (n:Nat) (t:KasT α) (a:α):Prop:=kok lt n t = true ∧ krun lt t = a
theorem KR.ret {α:Type} {lt:Nat → Nat → Bool} {n:Nat} (a:α):KR lt n (.ret a) a:=⟨rfl,rfl⟩
theorem KR.ask {α:Type} {lt:Nat → Nat → Bool} {n i j:Nat} {k:Bool → KasT α} {a:α} (hi:i < n) (hj:j < n) (h:KR lt n (k (lt i j)) a):KR lt n (.ask i j k) a:=⟨by simp only [kok,hi,hj,decide_true,Bool.true_and]; exact h.1,h.2⟩
theorem KR.bind {α β:Type} {lt:Nat → Nat → Bool} {n:Nat} {f:α → KasT β} {b:β}:∀ {t:KasT α} {a:α},KR lt n t a → KR lt n (f a) b → KR lt n (t.bind f) b
  | .ret a',a,h,g => by
    obtain ⟨_,rfl⟩:=h
    exact g
  | .ask i j k,a,h,g => by
    obtain ⟨h1,h2⟩:=h
    simp only [kok,Bool.and_eq_true,decide_eq_true_eq] at h1
    exact KR.ask h1.1.1 h1.1.2 (KR.bind (t:=k (lt i j)) ⟨h1.2,h2⟩ g)
section
variable {r:Nat → Nat} {n:Nat}
structure Ord (r:Nat → Nat) (n:Nat) (p:Array Nat):Prop where
  perm:p.toList.Perm (List.range n)
  inj:∀ i j,i < n → j < n → r i = r j → i = j
theorem Ord.size {p:Array Nat} (h:Ord r n p):p.size = n:=by
  have:=h.perm.length_eq
  simpa using this
theorem Ord.lt {p:Array Nat} (h:Ord r n p) {i:Nat} (hi:i < n):p.getD i 0 < n:=by
  have hs:=h.size
  have:p.getD i 0 ∈ p.toList:=by
    rw [Array.getD_eq_getD_getElem?,Array.getElem?_eq_getElem (by omega)]
    exact Array.getElem_mem_toList _
  exact List.mem_range.mp (h.perm.subset this)
theorem Ord.ne {p:Array Nat} (h:Ord r n p) {i j:Nat} (hij:i < j) (hj:j < n):r (p.getD i 0) ≠ r (p.getD j 0):=fun z => by
  have hs:=h.size
  have e:=h.inj _ _ (h.lt (by omega)) (h.lt hj) z
  have nd:p.toList.Nodup:=h.perm.nodup_iff.mpr List.nodup_range
  rw [Array.getD_eq_getD_getElem?,Array.getD_eq_getD_getElem?,Array.getElem?_eq_getElem (by omega),Array.getElem?_eq_getElem (by omega)] at e
  have:=(List.pairwise_iff_getElem.mp nd) i j (by simp; omega) (by simp; omega) hij
  exact this (by simpa using e)
def Up (r:Nat → Nat) (p:Array Nat) (k:Nat):Prop:=∀ i j,i < j → j < k → r (p.getD i 0) < r (p.getD j 0)
def Dn (r:Nat → Nat) (p:Array Nat) (k:Nat):Prop:=∀ i j,i < j → j < k → r (p.getD j 0) < r (p.getD i 0)
theorem Up.succ {p:Array Nat} {k:Nat} (h:Up r p k) (hk:1 ≤ k) (e:r (p.getD (k - 1) 0) < r (p.getD k 0)):Up r p (k + 1):=fun i j hij hj => by
  by_cases z:j = k
  · subst z
    by_cases y:i = j - 1
    · subst y; exact e
    · exact Nat.lt_trans (h i (j - 1) (by omega) (by omega)) e
  · exact h i j hij (by omega)
theorem Dn.succ {p:Array Nat} {k:Nat} (h:Dn r p k) (hk:1 ≤ k) (e:r (p.getD k 0) < r (p.getD (k - 1) 0)):Dn r p (k + 1):=fun i j hij hj => by
  by_cases z:j = k
  · subst z
    by_cases y:i = j - 1
    · subst y; exact e
    · exact Nat.lt_trans e (h i (j - 1) (by omega) (by omega))
  · exact h i j hij (by omega)
end
end L2
set_option maxHeartbeats 1000000
namespace L2
open PySem PySem.Spec PyProof.Rows
open PySem.W (KasT kas_sort kas_cmp kas_item kas_item_eq kas_range kas_runs kas_kind kas_st)
section
variable {prog:Program} {w:World} {A:Around} {E:Value → Shared → Prop} {s:Shared}
end
end L2
set_option maxHeartbeats 1000000
namespace L2
open PySem PySem.Spec PyProof.Rows
open PySem.W (KasT kas_sort KatTups kat_kind kat_lt kat_cons kat_yes kat_no kat_nil kat_one KatGo)
section
variable {prog:Program} {w:World} {A:Around} {E:Value → Shared → Prop} {s:Shared}
end
end L2
set_option maxHeartbeats 1000000
namespace L2
open PySem PySem.Spec PyProof.Rows
end L2
set_option maxHeartbeats 1000000
namespace L2
open PySem PySem.Spec PyProof.Rows
open PySem.W (KasT kas_sort)
end L2
set_option maxHeartbeats 1000000
namespace L2
open PySem PySem.Spec PyProof.Rows
open PySem.W (KasT kas_sort)
section
variable {prog:Program} {w:World} {A:Around} {E:Value → Shared → Prop} {s:Shared}
end
end L2
set_option maxHeartbeats 1000000
namespace L2
open PySem PySem.Spec PyProof.Rows
open PySem.W (KasT kas_sort)
end L2
set_option maxHeartbeats 1000000
namespace L2
open PySem PySem.Spec PyProof.Rows
open PySem.W (CodeHd tabObj)
structure LamB (mg:Str → Option Value) (base:Heap) (c Pt:Addr):Prop where
  code:CodeHd base c Pt
  bm:∃ bm ob,mg "__builtins__" = some (.ref bm) ∧ bm ≠ builtinsNs ∧ base.get? bm = some ob ∧ ob.cls = .type "module" ∧ ob.dict = some builtinsNs ∧ ob.data = .plain
def TabHd (h:Heap) (mg:Str → Option Value) (x:Str) (c:Addr):Prop:=∃ f o fd,mg x = some (.ref f) ∧ h.get? f = some o ∧ o.data = .func fd ∧ fd.code = .ref c
theorem law_callT {P:Program} {w:World} {K:PySem.W.Frag} {mg mb:Str → Option Value} {CX:CXT} {k:Nat} {fa a c Pt:Addr} {fd:FuncData} {x:Str} {sp:Sp} {s₁:Shared} {vs:List Value} {ns:List Int}
    (KX:K.In s₁.heap) (hns:s₁.heap.Ns mainGlobals mg) (hb:s₁.heap.Ns builtinsNs mb) (hbb:∀ x:Str,x ≠ "__name__" → mb x = bootBuiltins x) (hlim:s₁.heap.NoLimit) (hg:s₁.gens = #[])
    (ha:s₁.heap.get? a = some { cls:=.type "list",data:=.seq vs.toArray }) (hi:IntsAre vs ns) (hl:ns.length ≤ sizeLine) (hr:Room k callerA)
    (hC:CodeHd s₁.heap c Pt) (hP:s₁.heap.get? Pt = some (tabObj #[])) (hbm:∃ bm ob,mg "__builtins__" = some (.ref bm) ∧ bm ≠ builtinsNs ∧ s₁.heap.get? bm = some ob ∧ ob.cls = .type "module" ∧ ob.dict = some builtinsNs ∧ ob.data = .plain) (hKP:K.lookup Pt = none)
    (F:∀ base:Heap,K.In base → base.Ns mainGlobals mg → LamB mg base c Pt → FnOk P w K mg base CX k fa fd [x] sp) (hbind:∀ (s:Shared) (u:Value),BindsTo s fd ⟨[u],[]⟩ [(x,u)])
    (hsp:∀ H:Hp,H Pt = some (.tbl #[]) → SqL K H a (ns.map V.int) → sp [.ref a] H (fun v _ => v = .bl true) fun _ _ _ => False)
    (hCX:∀ H e s',CX [] H s₁ (fun _ _ _ => False) e s' → False) :
    codeAny (model P w) callerA (.call (.ref fa) ⟨[.ref a],[]⟩) (fun r s' => r = .ok (.ret (.bool true)) ∧ OldK s₁.heap s'.heap ∧ s'.os = s₁.os ∧ AllBare s'.gens) s₁:=by
  have rv:=vals_ints hi
  have lenV:=hi.length
  have naP:a ≠ Pt:=fun z => by rw [z,hP] at ha; cases ha
  have core:∀ H:Hp,(∀ b,H b = none ∨ (∃ o xs,H b = some (.frz o (.lst xs))) ∨ b = Pt) → H Pt = some (.tbl #[]) → SqL K H a (ns.map V.int) → HOk P w H s₁.heap → (∀ b,H b ≠ none → b = a ∨ b = Pt) → (H a ≠ none → K.lookup a = none) →
      codeAny (model P w) callerA (.call (.ref fa) ⟨[.ref a],[]⟩) (fun r s' => r = .ok (.ret (.bool true)) ∧ OldK s₁.heap s'.heap ∧ s'.os = s₁.os ∧ AllBare s'.gens) s₁:=by
    intro H hO hHP hS hok hA hK
    have base_of:∀ {b:Addr} {o:Obj},s₁.heap.get? b = some o → H b = none → (hidT s₁.heap H).get? b = some o:=fun e n => hidT_get e n
    have noT:∀ {b:Addr} {o:Obj},s₁.heap.get? b = some o → (∀ its n,o.data ≠ .seq its n) → (∀ ps,o.cls = .none → o.data ≠ .fields ps) → H b = none:=fun {b o} e d d2 => by
      cases q:H b with
      | none => rfl
      | some u =>
        rcases hA b (by rw [q]; simp) with e' | e'
        · subst e'
          rw [ha] at e; cases e
          exact absurd rfl (d _ _)
        · subst e'
          rw [hP] at e; cases e
          exact absurd rfl (d2 _ rfl)
    have noA:∀ {b:Addr} {o:Obj} {es:Array DictEntry} {ep:Nat},s₁.heap.get? b = some o → o.data = .dict es ep → H b = none:=fun {b o es ep} e d => noT e (fun _ _ z => by rw [d] at z; cases z) fun _ _ z => by rw [d] at z; cases z
    have nsK:∀ {b:Addr} {m:Str → Option Value},s₁.heap.Ns b m → (hidT s₁.heap H).Ns b m:=fun {b m} ⟨o,es,ep,e,d,r⟩ => ⟨o,es,ep,base_of e (noA e d),d,r⟩
    have hKb:K.In (hidT s₁.heap H):=fun b o e => base_of (KX b o e) (by
      cases q:H b with
      | none => rfl
      | some u =>
        rcases hA b (by rw [q]; simp) with e' | e'
        · subst e'
          rw [hK (by rw [q]; simp)] at e; cases e
        · subst e'
          rw [hKP] at e; cases e)
    have hM:Mod K mg (hidT s₁.heap H):=⟨hKb,nsK hns,⟨mb,nsK hb,hbb⟩,let ⟨mc,h1,h2⟩:=hlim; ⟨mc,nsK h1,h2⟩⟩
    have hLB:LamB mg (hidT s₁.heap H) c Pt:=by
      refine ⟨?_,?_⟩
      · obtain ⟨o,vs,file,tf,flags,tg,inF,text,tt,e,ecl,eda,r⟩:=hC
        exact ⟨o,vs,file,tf,flags,tg,inF,text,tt,base_of e (noT e (fun _ _ z => by rw [eda] at z; cases z) fun _ z => by rw [ecl] at z; cases z),ecl,eda,r⟩
      · obtain ⟨bm,ob,b1,b2,b3,b4,b5,b6⟩:=hbm
        exact ⟨bm,ob,b1,b2,base_of b3 (noT b3 (fun _ _ z => by rw [b6] at z; cases z) fun _ z => by rw [b4] at z; cases z),b4,b5,b6⟩
    have e0:Env0 P w K mg (hidT s₁.heap H) callerA [] s₁ H:=⟨rfl,hM,fun b o e => of_hidT e,Nat.le_of_eq (hidT_size _ _),trivial,fun b hb => absurd (show b ∈ ([]:List Addr) from hb) (by simp),hok,.of_eq hg⟩
    refine codeAny_mono ((F _ hKb (nsK hns) hLB).run callerA [] s₁ H ⟨[.ref a],[]⟩ [.ref a] [.ref a] _ _ hr e0 (hbind s₁ (.ref a)) (.cons rfl .nil) (hsp H hHP hS)) fun r s' h => ?_
    cases r with
    | error e => exact (hCX H e s' h).elim
    | ok fl =>
      cases fl with
      | next => exact False.elim h
      | brk => exact False.elim h
      | cont => exact False.elim h
      | ret u =>
        obtain ⟨v,H',os,bare,un,hok',r',q⟩:=h
        have q':v = .bl true:=q
        subst q'
        obtain rfl:u = Value.bool true:=r'
        refine ⟨rfl,⟨fun b o e => ?_,fun b o e => ?_⟩,os,bare⟩
        · cases q:H b with
          | none => exact .inl (un.keep b o e q (by intro z; exact absurd (show b ∈ ([]:List Addr) from z) (by simp)) (by simp))
          | some u =>
            rcases hO b with z | ⟨ob,xs,z⟩ | z
            · rw [q] at z; cases z
            · have z2:=un.frzs b ob _ z
              obtain ⟨e1,_⟩:=hok b _ z
              obtain ⟨e2,_⟩:=hok' b _ z2
              rw [e] at e1; cases e1
              exact .inl e2
            · subst z
              rw [hP] at e
              cases e
              obtain ⟨more,z2⟩:=un.tbls b _ hHP
              exact .inr (.inl ⟨(hC.tab hP).isCodeTable,rfl,#[],more,rfl,hok' b _ z2⟩)
        · exact un.there b o e (by simp)
  have tblOk:∀ H:Hp,H Pt = some (.tbl #[]) → ObjOk P w H s₁.heap Pt (.tbl #[]):=fun _ _ => hP
  cases hk:K.lookup a with
  | some o =>
    have e:=KX a o hk
    rw [ha] at e
    cases e
    refine core (fun b => if b = Pt then some (.tbl #[]) else none) (fun b => ?_) (if_pos rfl) (.inr ⟨_,vs.toArray,_,hk,rfl,rfl,rfl,by rw [List.size_toArray,lenV]; exact hl,by simpa using rv⟩) (fun b u z => ?_) (fun b z => ?_) fun z => ?_
    · by_cases hb:b = Pt
      · exact .inr (.inr hb)
      · exact .inl (if_neg hb)
    · by_cases hb:b = Pt
      · have z':=(if_pos hb).symm.trans z
        cases z'
        subst hb
        exact hP
      · have z':=(if_neg hb).symm.trans z
        cases z'
    · by_cases hb:b = Pt
      · exact .inr hb
      · exact absurd (if_neg hb) z
    · exact absurd (if_neg naP) z
  | none =>
    refine core (fun b => if b = a then some (.frz { cls:=.type "list",data:=.seq vs.toArray } (.lst (ns.map V.int))) else if b = Pt then some (.tbl #[]) else none) (fun b => ?_) ((if_neg naP.symm).trans (if_pos rfl)) (.inl (.inr ⟨{ cls:=.type "list",data:=.seq vs.toArray },if_pos rfl⟩)) (fun b u z => ?_) (fun b z => ?_) fun _ => hk
    · by_cases hb:b = a
      · exact .inr (.inl ⟨_,_,if_pos hb⟩)
      · by_cases hb2:b = Pt
        · exact .inr (.inr hb2)
        · exact .inl ((if_neg hb).trans (if_neg hb2))
    · by_cases hb:b = a
      · have z':=(if_pos hb).symm.trans z
        cases z'
        subst hb
        exact ⟨ha,by rw [List.length_map]; exact hl,vs,_,rv,ha⟩
      · by_cases hb2:b = Pt
        · have z':=((if_neg hb).trans (if_pos hb2)).symm.trans z
          cases z'
          subst hb2
          exact hP
        · have z':=((if_neg hb).trans (if_neg hb2)).symm.trans z
          cases z'
    · by_cases hb:b = a
      · exact .inl hb
      · by_cases hb2:b = Pt
        · exact .inr hb2
        · exact absurd ((if_neg hb).trans (if_neg hb2)) z
theorem walk_ofT {l:PySem.W.OpenLaw} {n k:Nat} {q:Program} {loose:List Str} {XP:(Str → Option Value) → Heap → Prop} {YP:World → Heap → Prop} {d d2:DefRec} {K:Params → PySem.W.Frag} {CX:World → CXT} {sp:World → Addr → Sp} {x:Str}
    (hn:l.most = some n) (hn2:n ≤ sizeLine) (hdf:d.params.defaults = []) (hr:Room k callerA)
    (hd2:d2 ∈ recsOf q) (hno:∀ w:World,PySem.W.noTabs (K w.params) = true)
    (hY:∀ (w:World) (h:Heap),YP w h → (K w.params).In h)
    (F:∀ (w:World) (mg:Str → Option Value) (fa:Addr) (h:Heap) (c Pt:Addr),(K w.params).In h → h.Ns mainGlobals mg → mg d.name = some (.ref fa) → TabHd h mg d2.name c →
      ∃ fd:FuncData,(∀ (s:Shared) (u:Value),BindsTo s fd ⟨[u],[]⟩ [(x,u)]) ∧
        ∀ base:Heap,(K w.params).In base → base.Ns mainGlobals mg → LamB mg base c Pt → FnOk l.prog w (K w.params) mg base (CX w) k fa fd [x] (sp w Pt))
    (hsp:∀ (w:World) (H:Hp) (a Pt:Addr) (ns:List Int),ns.length ≤ n → H Pt = some (.tbl #[]) → SqL (K w.params) H a (ns.map V.int) → sp w Pt [.ref a] H (fun v _ => v = .bl true) fun _ _ _ => False)
    (hCX:∀ (w:World) (H:Hp) (s:Shared) (e:Value) (s':Shared),CX w [] H s (fun _ _ _ => False) e s' → False) :
    PySem.W.WalkO q loose XP YP l.row.toRowW d [] (fun f vs => PySem.call f vs):=by
  refine Att.attach_call hn hdf fun w s₀ s₁ mg mb fa o pm cd doc a vs ns G Y ho hd hcd hmg hobj hints hlen hg => ?_
  have KX:=hY w _ Y
  obtain ⟨a2,o2,fd2,c,Pt,t1,t2,t3,t4,t5,t6⟩:=G.T.tab d2 hd2
  have hC:=CodeHd.of t5 t6
  have hP:s₁.heap.get? Pt = some (tabObj #[]):=t6.2
  have hKP:(K w.params).lookup Pt = none:=by
    cases e:(K w.params).lookup Pt with
    | none => rfl
    | some o =>
      have h1:=KX _ _ e
      rw [hP] at h1
      cases h1
      have h2:=List.all_eq_true.mp (hno w) (Pt,tabObj #[]) (PySem.W.mem_of_lookupK e)
      exact absurd (show false = true from h2) Bool.false_ne_true
  obtain ⟨fd,hb,hF⟩:=F w mg fa _ c Pt KX G.T.g hmg ⟨a2,o2,fd2,t1,t2,t3,t4⟩
  exact law_callT KX G.T.g G.T.b G.T.builtins G.T.nolimit hg hobj hints (Nat.le_trans hlen hn2) hr hC hP G.T.bmain hKP hF hb (fun H hO hS => hsp w H a Pt ns hlen hO hS) fun H e s' => hCX w H s₁ e s'
theorem Fun.okC {P:Program} {w:World} {K:PySem.W.Frag} {mg:Str → Option Value} {base:Heap} {x qual:Str} {st:Stmt} {f c:Addr} {fd:FuncData} {N ps:List Str} {k:Nat} {sp:Sp} (F:Fun K x qual st f fd) (hc:fd.code = .ref c) (S:FnScope N ps (defScope st)) (len:∀ vs H Q E,sp vs H Q E → vs.length = ps.length)
    (hbody:∀ (cdv:Value) (A:Around) (outer:List Env) (s:Shared) (H:Hp) (vs:List V) (Q:VK) (E:XK),cdv = .ref c → Room k (A.deeper (envOfC qual (defScope st) s.heap.objs.size f cdv)) → sp vs H Q E →
      ∃ t,PSs (cxOf CX0 P w K mg base N qual (defScope st) f cdv A outer s H E).nox (defBody st) t ∧ t { nx:=fun _ H' => Q .non H',rt:=Q } (start N vs) H):FnOk P w K mg base CX0 (k + 1) f fd ps sp:=by
  obtain ⟨oc,od,kV,doc,pm,an,cdv,ct,osl,rfl,lk,hcd⟩:=F.ex
  refine fn_of lk hcd S len fun A outer s H vs Q E hr hsp => ?_
  obtain ⟨t,h,q⟩:=hbody cdv A outer s H vs Q E hc hr hsp
  exact ⟨t,h.nox,q⟩
theorem code_at {h:Heap} {K:PySem.W.Frag} {mg:Str → Option Value} {x:Str} {f c:Addr} {fd:FuncData} {oc:Value} {od:Option Addr} {osl:Array (Option Value)} (T:TabHd h mg x c) (KX:K.In h) (hm:mg x = some (.ref f)) (lk:K.lookup f = some ⟨oc,od,.func fd,osl⟩):fd.code = .ref c:=by
  obtain ⟨f',o',fd',e1,e2,e3,e4⟩:=T
  rw [hm] at e1
  cases e1
  have:=KX _ _ lk
  rw [e2] at this
  cases this
  cases e3
  exact e4
end L2
set_option maxHeartbeats 1000000
namespace L2
open PySem PySem.Spec PyProof.Rows
open PySem.W (CodeHd tabObj kla_obj kla_fn envX)
def codeO (c:Addr) (q:Str):HO:=.ext fun h => h.CodeRec (.ref c) q
theorem codeO_ok {P:Program} {w:World} {H:Hp} {h:Heap} {c:Addr} {q:Str} (r:h.CodeRec (.ref c) q):ObjOk P w H h c (codeO c q):=by
  obtain ⟨c2,oc,vs,t,e,ho,hd,hv⟩:=id r
  cases e
  refine ⟨r,⟨oc,ho⟩,fun h1 h2 r1 k => ?_⟩
  obtain ⟨c3,oc,vs,t,e,ho,hd,hv⟩:=r1
  cases e
  exact ⟨_,oc,vs,t,rfl,k _ ho,hd,hv⟩
def LamT (Pt:Addr) (q:Str) (pos:Pos) (H:Hp):Prop:=H Pt = some (.tbl #[]) ∨ ∃ c,H Pt = some (.tbl (#[] ++ #[rawInt pos.line,rawInt pos.col,.ref c])) ∧ H c = some (codeO c q)
def SameP (Pt:Addr) (H H':Hp):Prop:=∀ b o,b ≠ Pt → H b = some o → H' b = some o
theorem SameP.refl {Pt:Addr} {H:Hp}:SameP Pt H H:=fun _ _ _ e => e
theorem SameP.trans {Pt:Addr} {H H1 H2:Hp} (a:SameP Pt H H1) (b:SameP Pt H1 H2):SameP Pt H H2:=fun c o n e => b c o n (a c o n e)
theorem Same.p {Pt:Addr} {H H':Hp} (s:Same H H'):SameP Pt H H':=fun b o _ e => s b o e
theorem LamT.keep {Pt:Addr} {q:Str} {pos:Pos} {H H':Hp} (h:LamT Pt q pos H) (s:Same H H'):LamT Pt q pos H':=by
  rcases h with h | ⟨c,h1,h2⟩
  · exact .inl (s _ _ h)
  · exact .inr ⟨c,s _ _ h1,s _ _ h2⟩
theorem LamT.tb {Pt:Addr} {q:Str} {pos:Pos} {H:Hp} (h:LamT Pt q pos H):∃ ps,H Pt = some (.tbl ps):=by
  rcases h with h | ⟨c,h1,h2⟩
  · exact ⟨_,h⟩
  · exact ⟨_,h1⟩
structure ClOkL (X:Cx) (N:List Str) (scope:Scope) (cl:List (Str × Addr)) (vals:St → St) (x:Str):Prop where
  clos:closureFor scope X.env = pure cl
  sub:∀ y c,cl.lookup y = some c → X.env.cells.lookup y = some c
  has:∀ y,(scope.names.lookup y = some .cell ∨ scope.names.lookup y = some .free) → ∃ c,cl.lookup y = some c
  len:∀ σ,(vals σ).length + 1 = N.length
  par:N[0]? = some x ∧ scope.names.lookup x = some .local
  val:∀ σ (i:Nat) y v,N[i + 1]? = some y → (vals σ)[i]? = some (some v) → ∃ (j:Nat),X.N[j]? = some y ∧ σ[j]? = some (some v) ∧ X.env.scope.names.lookup y = some .cell ∧ (∃ c,cl.lookup y = some c) ∧ scope.names.lookup y = some .free
def valsL (ix:List Nat):St → St:=fun σ => ix.map fun j => (σ[j]?).join
def chkL (N XN:List Str) (sn dn:List (Str × NameKind)) (ix:List Nat) (x:Str):Bool :=
  (ix.length + 1 == N.length) && (N[0]? == some x) && (sn.lookup x == some .local) && (sn.all fun y => y.2 != .cell && (y.2 != .free || dn.lookup y.1 == some .cell)) &&
  ((List.range ix.length).all fun i => match ix[i]? with | some j => N[i + 1]? == XN[j]? && (match N[i + 1]? with | some y => sn.lookup y == some .free | none => false) | _ => true)
theorem lookup_mem' {α:Type} {x:Str} {k:α}:∀ {l:List (Str × α)},l.lookup x = some k → (x,k) ∈ l:=fun {l} h => PySem.mem_of_lookup h
theorem clOkL {X:Cx} {N:List Str} {scope:Scope} {x:Str} (XN:List Str) (sc:Scope) (ix:List Nat) (hN:X.N = XN) (hsc:X.env.scope = sc) (hcell:∀ x,sc.names.lookup x = some .cell → ∃ c,X.env.cells.lookup x = some c)
    (hchk:chkL N XN scope.names sc.names ix x = true):ClOkL X N scope (clF X.env scope.names []) (valsL ix) x:=by
  unfold chkL at hchk
  simp only [Bool.and_eq_true] at hchk
  obtain ⟨⟨⟨⟨h1,h2⟩,h3⟩,h4⟩,h5⟩:=hchk
  have h4':=List.all_eq_true.mp h4
  have fr:∀ y,(y,NameKind.free) ∈ scope.names → ∃ c,X.env.cells.lookup y = some c:=fun y hy => by
    have:=h4' _ hy
    simp at this
    exact hcell y this
  have hfree:∀ y,scope.names.lookup y = some .free → ∃ c,(clF X.env scope.names []).lookup y = some c:=fun y hy => Option.isSome_iff_exists.mp (clF_has scope.names [] (lookup_mem' hy))
  refine ⟨?_,fun y c e => ?_,fun y hy => ?_,fun σ => ?_,⟨by simpa using h2,by simpa using h3⟩,fun σ i y v e1 e2 => ?_⟩
  · unfold closureFor
    exact (congrArg (· >>= fun r => pure r) (clos_go scope.names [] fun y hy hk => by obtain ⟨n,k⟩:=y; cases (show k = .free from hk); exact fr n hy)).trans (by simp)
  · rcases clF_mem scope.names [] e with z | ⟨z,rfl⟩
    · cases z
    · obtain ⟨c,hc⟩:=fr y z
      rw [hc]
      rfl
  · rcases hy with hy | hy
    · have:=h4' _ (lookup_mem' hy)
      simp at this
    · exact hfree y hy
  · unfold valsL
    rw [List.length_map]
    simpa using h1
  · unfold valsL at e2
    rw [List.getElem?_map] at e2
    cases ej:ix[i]? with
    | none => rw [ej] at e2; cases e2
    | some j =>
      rw [ej] at e2
      have e2':(σ[j]?).join = some v:=Option.some.inj e2
      have hi:i < ix.length:=(List.getElem?_eq_some_iff.mp ej).1
      have h6:=List.all_eq_true.mp h5 i (List.mem_range.mpr hi)
      rw [ej] at h6
      dsimp only at h6
      rw [e1] at h6
      simp at h6
      have hsg:σ[j]? = some (some v):=by
        cases q:σ[j]? with
        | none => rw [q] at e2'; cases e2'
        | some o => rw [q] at e2'; exact congrArg some e2'
      have hdn:=h4' _ (lookup_mem' h6.2)
      simp at hdn
      exact ⟨j,by rw [hN]; exact h6.1.symm,hsg,by rw [hsc]; exact hdn,hfree y h6.2,h6.2⟩
def cxL (X:Cx) (A:Around) (N:List Str) (q:Str) (scope:Scope) (cl:List (Str × Addr)) (f c:Addr) (s₀:Shared) (H₀:Hp):Cx where
  prog:=X.prog
  w:=X.w
  K:=X.K
  mg:=X.mg
  base:=X.base
  A:=A.deeper (envX q scope s₀.heap.objs.size f (.ref c) cl)
  N:=N
  s₀:=s₀
  H₀:=H₀
  env:=envX q scope s₀.heap.objs.size f (.ref c) cl
  outer:=X.stack
  stack:=envX q scope s₀.heap.objs.size f (.ref c) cl :: X.stack
  ex:=[]
  fn:=fun _ => false
  calm:=true
  pn:=[]
  xe:=fun _ _ => False
section
variable {X:Cx} {pins:List (Addr × Obj)} {σ:St} {H:Hp} {s:Shared} {A:Around} {N:List Str} {q:Str} {scope:Scope} {cl:List (Str × Addr)} {vals:St → St} {x:Str} {f c c' Pt:Addr}
theorem lam_start {h1:Heap} {t1:Nat} {y:V} {v:Value} (I:Inv X pins σ H s) (ck:ClOkL X N scope cl vals x) (hA:A.frames = some X.stack) (hh:A.handled = none) (hkind:scope.kind = .function) (rv:RelV y v)
    (hns:h1.Ns s.heap.objs.size fun z => [(x,v)].reverse.lookup z) (hsb:Heap.SameBut s.heap.objs.size (s.heap.push { cls:=.type "frame",data:=.dict #[] }) h1) :
    Inv (cxL X A N q scope cl f c' s H) [] (some y :: vals σ) H { s with heap:=h1,toks:=t1 }:=by
  have old:∀ b o,s.heap.get? b = some o → h1.get? b = some o:=fun b o e => (hsb.2 b (Nat.ne_of_lt (Heap.lt_size e))).trans (Heap.get?_push_of_some _ e)
  have hC:H s.heap.objs.size = none:=I.hok.fresh (Nat.le_refl _)
  have noA:∀ b:Addr,b ∉ (cxL X A N q scope cl f c' s H).ex:=fun b z => absurd (show b ∈ ([]:List Addr) from z) (by simp)
  refine ⟨⟨I.ok.mod,hkind,rfl,rfl,Nat.le_refl _,fun y z c h1 h2 => I.ok.inj y z c (ck.sub y c h1) (ck.sub z c h2),ck.has,(fun x c h => nomatch h),fun _ => hh,Around.frames_deeper hA,.inr ⟨rfl,rfl⟩,fun b z => absurd z (noA b),
    I.bs,Nat.le_trans I.ok.bsz I.sz,fun b _ _ => noA b,fun b z => absurd z (noA b),I.stack,I.stkFree⟩,rfl,I.bare,Un.kept old,⟨_,hns,fun i z v' e1 e2 _ => ?_⟩,fun y c e => ?_,hC,fun y c e => I.freeC y c (ck.sub y c e),fun p hp => absurd (show p ∈ ([]:List (Addr × Obj)) from hp) (by simp),I.hok.kept old,?_⟩
  · cases i with
    | zero =>
      have e1':N[0]? = some z:=e1
      rw [ck.par.1] at e1'
      cases e1'
      cases e2
      refine ⟨v,rv,.inl ⟨ck.par.2,?_⟩⟩
      show [(x,v)].lookup x = some v
      rw [List.lookup_cons,beq_self_eq_true]
    | succ i =>
      obtain ⟨j,h1,h2,h3,⟨c,h4⟩,h5⟩:=ck.val σ i z v' e1 e2
      obtain ⟨m,hn,hl⟩:=I.loc
      obtain ⟨u,r,l⟩:=hl j z v' h1 h2 (.inr (.inl h3))
      refine ⟨u,r,.inr ⟨.inr h5,c,h4,?_⟩⟩
      rcases l with ⟨z',_⟩ | ⟨_,c',e',z'⟩
      · have z2:X.env.scope.names.lookup z = some .local:=z'
        rw [h3] at z2; cases z2
      · rw [ck.sub z c h4] at e'
        cases e'
        obtain ⟨o,ho,hd⟩:=z'
        exact ⟨o,old _ o ho,hd⟩
  · obtain ⟨v,o,ho,hd⟩:=I.cell y c (ck.sub y c e)
    exact ⟨v,o,old _ o ho,hd⟩
  · show (some y :: vals σ).length = N.length
    rw [List.length_cons]
    exact ck.len σ
theorem lam_call {params:Arguments} {body:Expr} {pm ctv v:Value} {y:V} {tb:TE} {Q:VK} (I:Inv X pins σ H s) (ck:ClOkL X N scope cl vals x) (hA:A.frames = some X.stack) (hh:A.handled = none) (hroom:A.depth < recursionLimit)
    (hf:s.heap.get? f = some (kla_obj "<lambda>" q params body scope cl pm c' ctv)) (hcd:s.heap.CodeRec (.ref c') q) (hco:scope.isCoroutine = false) (hgen:scope.isGenerator = false) (hk:scope.kind = .function) (hcell:∀ z ∈ scope.names,z.2 ≠ .cell)
    (hbind:bindArgs (kla_fn "<lambda>" q params body scope cl pm (.ref c') ctv) ⟨[v],[]⟩ = pure [(x,v)]) (rv:RelV y v) (hb:PE (cxL X A N q scope cl f c' s H) body tb) (h:tb (some y :: vals σ) H Q) :
    codeAny (model X.prog X.w) A (.call (.ref f) ⟨[v],[]⟩) (fun r s' => match r with | .ok (.ret u) => CE X.stack X.prog X.w H s Q u s' | _ => False) s:=by
  refine PySem.W.kla_callFunE hroom hf rfl hco hgen rfl hcd ?_
  rw [hbind]
  refine wpAny_pure (wpAny_newFunctionEnv hcell (fun z hz => by rw [List.mem_singleton.mp hz]; exact ck.par.2) (fun h1 hns hsb => ⟨(I.nolimit).fresh _ hsb,?_⟩) hk)
  show codeAny _ _ (.expr body (envX q scope s.heap.objs.size f (.ref c') cl)) _ _
  refine PySem.W.kla_codeExpr ?_
  have I1:=lam_start (A:=A) (q:=q) (f:=f) (c':=c') (t1:=s.toks + [(x,v)].length) I ck hA hh hk rv hns hsb
  exact wpAny_mono (hb [] _ _ H _ I1 h) (fun u s' ⟨v',H',J,r,q⟩ => ⟨v',H',J.os,J.bare,J.base,J.hok,r,q⟩) fun e s' z => z.elim
theorem Inv.table {ps more:Array Value} {h':Heap} {t':Nat} (I:Inv X pins σ H s) (hP:H Pt = some (.tbl ps)) (hx:Heap.ExtBut Pt s.heap h') (ht:h'.get? Pt = some (tabObj (ps ++ more))):Inv X pins σ (upd H Pt (.tbl (ps ++ more))) { s with heap:=h',toks:=t' }:=by
  have neP:∀ b u,H b = some u → (∀ z,u ≠ .tbl z) → b ≠ Pt:=fun b u e n z => by rw [z,hP] at e; cases e; exact n _ rfl
  have nn:∀ b,H b = none → b ≠ Pt:=fun b e z => by rw [z,hP] at e; cases e
  refine I.un ⟨fun b o e n _ _ => hx b o (nn b n) e,fun b o e n _ _ => ⟨o.slots,hx b o (nn b n) e⟩,fun b o e n _ => by rw [upd_ne (nn b n)]; exact n,fun b o e _ => ?_,fun b xs e => by rw [upd_ne (neP b _ e fun _ => nofun)]; exact e,fun b o u e => by rw [upd_ne (neP b _ e fun _ => nofun)]; exact e,fun b qs e => ?_⟩ fun b u e => ?_
  · by_cases hb:b = Pt
    · exact ⟨_,hb ▸ ht⟩
    · exact ⟨o,hx b o hb e⟩
  · by_cases hb:b = Pt
    · subst hb
      rw [hP] at e
      cases e
      exact ⟨more,upd_same⟩
    · exact ⟨#[],by rw [upd_ne hb,e]; simp⟩
  · by_cases hb:b = Pt
    · subst hb
      rw [upd_same] at e
      cases e
      exact ht
    · rw [upd_ne hb] at e
      refine (I.hok b u e).stay (fun c v hc q => hx c v ?_ q) (fun c q => by rw [upd_ne (neP c _ q fun _ => nofun)]; exact q) fun c xs q => by rw [upd_ne (neP c _ q fun _ => nofun)]; exact q
      rcases hc with z | z
      · rw [z]; exact hb
      · exact neP c _ z fun _ => nofun
theorem Inv.fsLt (I:Inv X pins σ H s) {b:Addr} (h:b ∈ X.fs):b < s.heap.objs.size:=by
  obtain ⟨_,o',g',_⟩:=I.ok.funs.mem h
  exact Nat.lt_of_lt_of_le (Heap.lt_size g') I.sz
def fnO (f:Addr) (o:Obj):HO:=.ext fun h => h.get? f = some o
theorem fnO_ok {P:Program} {w:World} {H:Hp} {h:Heap} {f:Addr} {o:Obj} (e:h.get? f = some o):ObjOk P w H h f (fnO f o):=⟨e,⟨o,e⟩,fun h1 h2 e1 k => k o e1⟩
def tLam (Pt:Addr) (q:Str) (params:Arguments) (body:Expr) (scope:Scope) (cl:List (Str × Addr)) (pos:Pos):TE:=fun σ H Q => LamT Pt q pos H ∧ ∀ f c' pm ctv H',SameP Pt H H' → LamT Pt q pos H' → H' c' = some (codeO c' q) → H' f = some (fnO f (kla_obj "<lambda>" q params body scope cl pm c' ctv)) → Q (.ref f) H'
theorem pe_lam {params:Arguments} {body:Expr} {pos:Pos} (ck:ClOkL X N scope cl vals x) (hcode:X.env.code = .ref c) (LB:LamB X.mg X.base c Pt) (hdef:defaultsOf params X.env = ([],[])) :
    PE X (.Lambda params body scope pos) (tLam Pt (X.env.qual ++ "<lambda>") params body scope cl pos):=by
  intro pins s σ H Q I hT
  obtain ⟨T,h⟩:=hT
  refine PySem.W.kla_eval hdef ?_
  generalize X.env.qual ++ "<lambda>" = q at T h ⊢
  have hg:s.heap.Ns mainGlobals X.mg:=I.mod.glob.keeps I.bk
  obtain ⟨ps0,hHP⟩:=T.tb
  have hPs:s.heap.get? Pt = some (tabObj ps0):=I.hok Pt _ hHP
  obtain ⟨bm,ob,b1,b2,b3,b4,b5,b6⟩:=LB.bm
  have hbG:bm ≠ mainGlobals:=fun z => by
    obtain ⟨o,es,ep,e,hd,_⟩:=I.mod.glob
    rw [z,e] at b3; cases b3; rw [hd] at b6; cases b6
  have hbP:bm ≠ Pt:=fun z => by
    have:=(I.bs _ _ b3).2
    rw [z,hHP] at this; cases this
  have hgP:mainGlobals ≠ Pt:=fun z => by
    obtain ⟨o,es,ep,e,hd,_⟩:=I.mod.glob
    have:=(I.bs _ _ e).2
    rw [z,hHP] at this; cases this
  have hB:s.heap.BuiltinsAt X.mg Pt:=⟨bm,ob,b1,b2,hbG,hbP,I.bk _ _ b3,b4,b5,b6⟩
  have hPlt:Pt < s.heap.objs.size:=Heap.lt_size hPs
  rcases T with T | ⟨c',T,Tc⟩
  · have hP0:s.heap.get? Pt = some (tabObj #[]):=I.hok Pt _ T
    refine PySem.W.kla_makeFunction ck.clos I.ok.glob hg hcode (LB.code.keeps I.bk) hP0 trivial rfl hgP hB fun c' ctv h' tk hx hge hlt hrec htb => ?_
    have I1:=I.table (t':=tk) T hx htb
    have hle:s.heap.objs.size ≤ h'.objs.size:=Nat.le_trans hge (Nat.le_of_lt hlt)
    have nc:c' ≠ Pt:=Nat.ne_of_gt (Nat.lt_of_lt_of_le hPlt hge)
    have hcn:(upd H Pt (.tbl (#[] ++ #[rawInt pos.line,rawInt pos.col,.ref c']))) c' = none:=by rw [upd_ne nc]; exact I.hok.fresh hge
    have fr:=I.freAt hge
    have I2:=I1.adopt (a:=c') (o:=codeO c' q) ⟨fr.s0,fr.loc,fr.cell,fr.pin⟩ hcn (codeO_ok hrec)
    have I3:=I2.kept (t':=tk) (h':=h'.push (kla_obj "<lambda>" q params body scope cl ((X.mg "__name__").getD .none) c' ctv)) fun b u e => Heap.get?_push_of_some _ e
    have nfP:h'.objs.size ≠ Pt:=Nat.ne_of_gt (Nat.lt_of_lt_of_le hPlt hle)
    have nfc:h'.objs.size ≠ c':=Nat.ne_of_gt hlt
    have ff:=I.freAt hle
    have hfn:(upd (upd H Pt (.tbl (#[] ++ #[rawInt pos.line,rawInt pos.col,.ref c']))) c' (codeO c' q)) h'.objs.size = none:=by
      rw [upd_ne nfc,upd_ne nfP]
      exact I.hok.fresh hle
    have I4:=I3.adopt (a:=h'.objs.size) (o:=fnO h'.objs.size (kla_obj "<lambda>" q params body scope cl ((X.mg "__name__").getD .none) c' ctv)) ⟨ff.s0,ff.loc,ff.cell,ff.pin⟩ hfn (fnO_ok (Heap.get?_push_size _ rfl))
    refine ⟨.ref h'.objs.size,_,I4,rfl,h h'.objs.size c' ((X.mg "__name__").getD .none) ctv _ (fun b o n e => ?_) (.inr ⟨c',?_,?_⟩) ?_ upd_same⟩
    · rw [upd_ne (fun z => by rw [z,I.hok.fresh hle] at e; cases e),upd_ne (fun z => by rw [z,I.hok.fresh hge] at e; cases e),upd_ne n]
      exact e
    · rw [upd_ne nfP.symm,upd_ne nc.symm]
      exact upd_same
    · rw [upd_ne nfc.symm]
      exact upd_same
    · rw [upd_ne nfc.symm]
      exact upd_same
  · have hP0:s.heap.get? Pt = some (tabObj (#[] ++ #[rawInt pos.line,rawInt pos.col,.ref c'])):=I.hok Pt _ T
    refine PySem.W.kla_makeFunctionHit (cv:=.ref c') ck.clos I.ok.glob hg hcode (LB.code.keeps I.bk) hP0 trivial (codeAmong_snoc [] trivial rfl) hB fun ctv h' tk hk hsz => ?_
    have I3:=I.kept (t':=tk) (h':=h'.push (kla_obj "<lambda>" q params body scope cl ((X.mg "__name__").getD .none) c' ctv)) fun b u e => Heap.get?_push_of_some _ (hk b u e)
    have ff:=I.freAt hsz
    have hfn:=I.hok.fresh hsz
    have I4:=I3.adopt (a:=h'.objs.size) (o:=fnO h'.objs.size (kla_obj "<lambda>" q params body scope cl ((X.mg "__name__").getD .none) c' ctv)) ⟨ff.s0,ff.loc,ff.cell,ff.pin⟩ hfn (fnO_ok (Heap.get?_push_size _ rfl))
    have sm:=same_upd hfn (fnO h'.objs.size (kla_obj "<lambda>" q params body scope cl ((X.mg "__name__").getD .none) c' ctv))
    exact ⟨.ref h'.objs.size,_,I4,rfl,h h'.objs.size c' ((X.mg "__name__").getD .none) ctv _ (Same.p sm) (LamT.keep (.inr ⟨c',T,Tc⟩) sm) (sm _ _ Tc) upd_same⟩
end
end L2
set_option maxHeartbeats 1000000
namespace L2
open PySem PySem.Spec PyProof.Rows
open PySem.W (CodeHd tabObj kla_obj kla_fn envX)
theorem args_maxK (a v:Value):argsOk "max" ⟨[a],[(Str.ofString "key",v)]⟩:=by unfold argsOk; kernel_rfl
section
variable {prog:Program} {w:World} {A:Around} {E:Value → Shared → Prop} {s:Shared} {l f:Addr} {its:List Value} {G:Shared → Prop} {val:Nat → Int} {Q:Value → Shared → Prop}
theorem call_maxK (hl:s.heap.IsList l its.toArray) (hne:0 < its.length) (hh:A.handled = none)
    (hG0:∀ h' tk,(∀ b o,s.heap.get? b = some o → h'.get? b = some o) → G { s with heap:=h',toks:=tk })
    (hG:∀ (s1:Shared) h' tk,G s1 → (∀ b o,b ≠ s.heap.objs.size → b ≠ s.heap.objs.size + 1 → s1.heap.get? b = some o → h'.get? b = some o) → G { s1 with heap:=h',toks:=tk })
    (hcall:∀ (i:Nat) v (s1:Shared) (Q:Value → Shared → Prop) (E:Value → Shared → Prop),its[i]? = some v → G s1 → (∀ t s',G s' → (∀ b o,(b = s.heap.objs.size ∨ b = s.heap.objs.size + 1 ∨ b = l) → s1.heap.get? b = some o → s'.heap.get? b = some o) → Q (.int (val i) t) s') → wpAny (model prog w) A.in1 (call (.ref f) [v]) Q E s1)
    (hQ:∀ z s',its[argBest (btV val) (its.length - 1)]? = some z → G s' → Q z s') :
    wpAny (model prog w) A (call (.builtin "max") [.ref l] [(Str.ofString "key",.ref f)]) Q E s:=by
  have hname:(toString "max" ++ toString ".loop" : String) = "max.loop" := by decide
  obtain ⟨ol,hol,_⟩:=id hl
  have hll:l < s.heap.objs.size:=Heap.lt_size hol
  refine kmk_tree PySem.F.kind_max PySem.F.plain_max PySem.F.entry_max (args_maxK _ _) ?_
  show wpAny _ A.in1 (Builtin.Builtins.bindParams "max" ["key", "default"] 0 ⟨[],[(Str.ofString "key",.ref f)]⟩ >>= _) _ _ s
  refine wpAny_bind (wpAny_of_eq (show Builtin.Builtins.bindParams "max" ["key", "default"] 0 ⟨[],[(Str.ofString "key",.ref f)]⟩ = pure [some (.ref f),none] from rfl) ?_)
  refine wpAny_bind (wpAny_pure ?_)
  refine wpAny_bind (wpAny_pyIter_list hl ?_)
  refine wpAny_bind (wpAny_newList ?_ (Nat.zero_le _))
  rw [hname]
  have hS:(s.heap.push { cls:=.type "list_iterator",data:=.fields #[.ref l,.int 0 0] }).objs.size = s.heap.objs.size + 1:=by rw [Heap.size_push]
  have nlJ:l ≠ s.heap.objs.size:=Nat.ne_of_lt hll
  have nlB:l ≠ s.heap.objs.size + 1:=Nat.ne_of_lt (Nat.lt_succ_of_lt hll)
  have W:=Walks.list (prog:=prog) (w:=w) (A:=A.in1) hh s.heap.objs.size l nlJ its.toArray
  have hsz:its.toArray.size = its.length:=List.size_toArray ..
  have nB:s.heap.objs.size + 1 ∉ [s.heap.objs.size,l]:=fun z => by
    simp only [List.mem_cons,List.not_mem_nil,or_false] at z
    rcases z with z | z
    · exact Nat.succ_ne_self _ z
    · exact nlB z.symm
  rw [hS]
  refine wpAny_pure ⟨plainId_quiet PySem.F.plain_max_loop _,?_⟩
  generalize hhp:(s.heap.push { cls:=.type "list_iterator",data:=.fields #[.ref l,.int 0 0] }).push { cls:=.type "list",data:=.seq #[] } = h0
  have k0:∀ b o,s.heap.get? b = some o → h0.get? b = some o:=fun b o e => by rw [← hhp]; exact Heap.get?_push_of_some _ (Heap.get?_push_of_some _ e)
  have gJ:h0.get? s.heap.objs.size = some { cls:=.type "list_iterator",data:=.fields #[.ref l,.int 0 0] }:=by rw [← hhp]; exact Heap.get?_push_of_some _ (Heap.get?_push_size _ rfl)
  have gB:h0.get? (s.heap.objs.size + 1) = some { cls:=.type "list",data:=.seq #[] }:=by rw [← hhp,← hS]; exact Heap.get?_push_size _ rfl
  have hl0:h0.IsList l its.toArray:=by obtain ⟨o,e,r⟩:=hl; exact ⟨o,k0 _ _ e,r⟩
  refine codeAny_builtin PySem.F.entry_max_loop ?_
  rw [Around.under_plainId PySem.F.plain_max_loop _]
  show wpAny _ A.in1 (seqItems? (.ref (s.heap.objs.size + 1)) >>= _) _ _ _
  refine wpAny_bind (wpAny_seqItems gB rfl ?_)
  show wpAny _ A.in1 (tryCatch (pyNext (.ref s.heap.objs.size)) _ >>= _) _ _ _
  refine wpAny_bind (wpAny_tryCatch (W.item 0 _ _ _ (by rw [hsz]; exact hne) ⟨⟨_,gJ,rfl,rfl⟩,hl0⟩ fun v h' tk' hP st1 hk' => ?_))
  have hv:its[0]? = some v:=by simpa using hP
  have g1:G { s with heap:=h',toks:=tk' }:=by
    refine hG { s with heap:=h0,toks:=s.toks } h' tk' (hG0 h0 s.toks k0) fun b o n1 n2 e => hk' b o (fun z => n1 (by simpa using z)) e
  have gB1:=hk' (s.heap.objs.size + 1) _ (fun z => absurd (show s.heap.objs.size + 1 = s.heap.objs.size by simpa using z) (Nat.succ_ne_self _)) gB
  show wpAny _ A.in1 (tryCatch (holding [v] (call (.ref f) [v])) _ >>= _) _ _ _
  refine wpAny_bind (wpAny_tryCatch (wpAny_holding (hcall 0 v _ _ _ hv g1 fun t2 s2 g2 k2 => ?_)))
  have gB2:=k2 _ _ (.inr (.inl rfl)) gB1
  have st2:=W.frame _ _ _ st1 fun b hb o e => k2 b o (by
    simp only [List.mem_cons,List.not_mem_nil,or_false] at hb
    rcases hb with z | z
    · exact .inl z
    · exact .inr (.inr z)) e
  show wpAny _ A.in1 (updateSeq (s.heap.objs.size + 1) (fun _ => #[v,.int (val 0) t2]) >>= _) _ _ _
  refine wpAny_bind (wpAny_updateSeq gB2 rfl ?_)
  rw [hname]
  refine wpAny_pure ⟨plainId_quiet PySem.F.plain_max_loop _,?_⟩
  refine maxK_step (J:=s.heap.objs.size) (B:=s.heap.objs.size + 1) (f:=f) (G:=G) (val:=val) W nB (fun s1 h1 tk g k => hG s1 h1 tk g fun b o n1 n2 e => k b o (fun z => n1 (by simpa using z)) n2 e)
    (fun i u s1 Q1 E1 hu g k => hcall i u s1 Q1 E1 (by simpa using hu) g fun t s3 g3 k3 => k t s3 g3 fun b o hb e => k3 b o (by
      simp only [List.mem_cons,List.not_mem_nil,or_false] at hb
      rcases hb with z | z | z
      · exact .inr (.inl z)
      · exact .inl z
      · exact .inr (.inr z)) e)
    (fun z s' pz g => hQ z s' (by rw [hsz] at pz; simpa using pz) g) (its.toArray.size - 1) 0 _ v t2 _ (by omega) (by omega) (W.frame _ _ _ st2 fun b hb o e => (Heap.get?_update_other _ _ (fun z:s.heap.objs.size + 1 = b => nB (z ▸ hb))).trans e) (show its.toArray[0]? = some v by simpa using hv) (Heap.get?_update_self _ gB2 rfl)
    (hG s2 _ s2.toks g2 fun b o n1 n2 e => (Heap.get?_update_other _ _ (Ne.symm n2)).trans e)
end
section
variable {X:Cx} {pins:List (Addr × Obj)} {σ:St} {H:Hp} {s:Shared}
theorem Inv.freezeL {a:Addr} {xs:List V} {o:Obj} (I:Inv X pins σ H s) (ha:H a = some (.lst xs)) (ho:s.heap.get? a = some o):Inv X pins σ (upd H a (.frz o (.lst xs))) s:=by
  have ne:∀ c v,H c = some v → (∀ z,v ≠ .lst z) → c ≠ a:=fun c v q n z => by rw [z,ha] at q; cases q; exact n _ rfl
  have own:∀ c y,H c = some (.own y) → upd H a (.frz o (.lst xs)) c = some (.own y):=fun c y q => by rw [upd_ne (ne c _ q fun _ => nofun)]; exact q
  have tup:∀ c zs,H c = some (.tup zs) → upd H a (.frz o (.lst xs)) c = some (.tup zs):=fun c zs q => by rw [upd_ne (ne c _ q fun _ => nofun)]; exact q
  refine I.re (fun b q => by rw [upd_ne (fun z => by rw [z,ha] at q; cases q)]; exact q) (fun b zs q => tup b zs (I.base.tups b zs q)) (fun b o' v q => ?_) (fun b ps q => ?_) (fun b v q => ?_)
  · have:=I.base.frzs b o' v q
    rw [upd_ne (ne b _ this fun _ => nofun)]
    exact this
  · obtain ⟨m,e⟩:=I.base.tbls b ps q
    exact ⟨m,by rw [upd_ne (ne b _ e fun _ => nofun)]; exact e⟩
  · by_cases hb:b = a
    · subst hb
      rw [upd_same] at q
      cases q
      exact (show s.heap.get? b = some o ∧ ObjOk X.prog X.w (upd H b (.frz o (.lst xs))) s.heap b (.lst xs) from ⟨ho,(I.hok b _ ha).stay (fun _ _ _ q => q) (fun c => own c b) tup⟩)
    · rw [upd_ne hb] at q
      exact (I.hok b v q).stay (fun _ _ _ q => q) (fun c => own c b) tup
theorem unf_back {a:Addr} {xs:List V} {o:Obj} (ha:H a = some (.lst xs)):unf H (upd H a (.frz o (.lst xs))) = H:=by
  funext b
  by_cases hb:b = a
  · subst hb
    rw [unf_frz upd_same (fun o v z => by rw [ha] at z; cases z),ha]
  · cases e:H b with
    | none => exact unf_none (by rw [upd_ne hb]; exact e)
    | some u =>
      by_cases hf:∃ o v,u = .frz o v
      · obtain ⟨o',v,rfl⟩:=hf
        exact unf_old (by rw [upd_ne hb]; exact e) e
      · exact unf_of (by rw [upd_ne hb]; exact e) fun o v z => hf ⟨o,v,z⟩
theorem Inv.turned2 {t':Nat} {a b:Addr} {h':Heap} (I:Inv X pins σ H s) (k:∀ c o,c ≠ a → c ≠ b → s.heap.get? c = some o → h'.get? c = some o) (fa:Fre X pins a) (fb:Fre X pins b) (na:H a = none) (nb:H b = none) (ha:X.s₀.heap.objs.size ≤ a) (hb:X.s₀.heap.objs.size ≤ b) :
    Inv X pins σ H { s with heap:=h',toks:=t' }:=by
  have nit:∀ c u,H c = some u → c ≠ a ∧ c ≠ b:=fun c u e => ⟨(fun z => by rw [z,na] at e; cases e),(fun z => by rw [z,nb] at e; cases e)⟩
  have nch:∀ {c},c ∉ [a,b] → c ≠ a ∧ c ≠ b:=fun {c} h => ⟨fun z => h (by simp [z]),fun z => h (by simp [z])⟩
  refine I.step (g':=s.gens) (d':=s.drawn) (ch:=[a,b]) (fun c hc => ?_) (fun c o _ _ hc e _ => k c o (nch hc).1 (nch hc).2 e) (fun c o _ _ hc e _ => ⟨o.slots,k c o (nch hc).1 (nch hc).2 e⟩) (fun _ _ _ _ n => n)
    (fun c o hc e => ⟨o,k c o (nch hc).1 (nch hc).2 e⟩) (fun _ _ e => e) (fun _ _ _ e => e) (fun b ps e => ⟨#[],by rw [e]; simp⟩) (fun m hm => ?_) (fun c u e => ?_) I.bare
  · simp only [List.mem_cons,List.not_mem_nil,or_false] at hc
    rcases hc with rfl | rfl
    · exact ⟨.inr ha,fa.loc,fa.cell,fa.pin⟩
    · exact ⟨.inr hb,fb.loc,fb.cell,fb.pin⟩
  · obtain ⟨o,es,ep,ho,r⟩:=hm
    exact ⟨o,es,ep,k _ o fa.loc.symm fb.loc.symm ho,r⟩
  · refine (I.hok c u e).stay (fun d v hd q => k d v ?_ ?_ q) (fun _ q => q) fun _ _ q => q
    · rcases hd with z | z
      · rw [z]; exact (nit c u e).1
      · exact (nit d _ z).1
    · rcases hd with z | z
      · rw [z]; exact (nit c u e).2
      · exact (nit d _ z).2
end
def tMaxLam (Pt:Addr) (q:Str) (lpos:Pos) (tb:TE) (vals:St → St) (ta:TA):TE:=fun σ H Q => ta σ H fun xs H1 => ∃ (p:Addr) (ns:List Int) (val:Nat → Int),xs = [.ref p] ∧ rdL H1 p = some (ns.map V.int) ∧ 0 < ns.length ∧ LamT Pt q lpos H1 ∧
  (∀ H2,(∀ a zs,rdL H1 a = some zs → rdL H2 a = some zs) → ∀ (i:Nat) n,ns[i]? = some n → tb (some (.int n) :: vals σ) H2 fun v H3 => v = .int (val i) ∧ H3 = H2) ∧
  ∀ (i:Nat) m H2,ns[i]? = some m → (∀ j,j < ns.length → val j ≤ val i) → SameP Pt H1 H2 → LamT Pt q lpos H2 → Q (.int m) H2
theorem argBest_top (val:Nat → Int):∀ n,argBest (btV val) n ≤ n ∧ ∀ j,j ≤ n → val j ≤ val (argBest (btV val) n):=fun n => argBest_gt val n
theorem rdL_P {Pt:Addr} {H H':Hp} {a:Addr} {xs:List V} (s:SameP Pt H H') (h:rdL H a = some xs) (hP:∃ ps,H Pt = some (.tbl ps)):rdL H' a = some xs:=by
  have na:a ≠ Pt:=fun z => by
    obtain ⟨ps,e⟩:=hP
    unfold rdL at h
    rw [z,e] at h
    cases h
  unfold rdL at h ⊢
  cases e:H a with
  | none => rw [e] at h; cases h
  | some o => rw [s a o na e]; rw [e] at h; exact h
theorem rdL_cases {H:Hp} {a:Addr} {xs:List V} (h:rdL H a = some xs):H a = some (.lst xs) ∨ ∃ o,H a = some (.frz o (.lst xs)):=by
  unfold rdL at h
  cases e:H a with
  | none => rw [e] at h; cases h
  | some o =>
    rw [e] at h
    cases o with
    | lst ys => cases h; exact .inl rfl
    | frz o u =>
      cases u with
      | lst ys => cases h; exact .inr ⟨o,rfl⟩
      | _ => cases h
    | _ => cases h
theorem pe_maxLam {X:Cx} {N:List Str} {scope:Scope} {cl:List (Str × Addr)} {vals:St → St} {x:Str} {c Pt:Addr} {l body:Expr} {params:Arguments} {p pos lpos kp:Pos} {ta:TA} {tb:TE}
    (hc:X.calm = true) (hdp:X.A.depth + 3 < recursionLimit) (hg:Gl X "max") (hm:X.mg "max" = none) (ha:PA X [l] ta) (hcode:X.env.code = .ref c) (LB:LamB X.mg X.base c Pt) (ck:ClOkL X N scope cl vals x)
    (hb:∀ (A:Around) (f c':Addr) (s₀:Shared) (H₀:Hp),PE (cxL X A N (X.env.qual ++ "<lambda>") scope cl f c' s₀ H₀) body tb)
    (hdef:defaultsOf params X.env = ([],[])) (hco:scope.isCoroutine = false) (hgen:scope.isGenerator = false) (hk:scope.kind = .function) (hcell:∀ z ∈ scope.names,z.2 ≠ .cell)
    (hbind:∀ (q:Str) (pm ctv v:Value) (c':Addr),bindArgs (kla_fn "<lambda>" q params body scope cl pm (.ref c') ctv) ⟨[v],[]⟩ = pure [(x,v)])
    (hs:starEach [l] X.env = [(false,eval l X.env)]:=by rfl)
    (hks:keywordEach [⟨some "key",.Lambda params body scope lpos,kp⟩] X.env = [(some ("key" : Str),eval (.Lambda params body scope lpos) X.env)]:=by rfl) :
    PE X (.Call (.Name "max" p) [l] [⟨some "key",.Lambda params body scope lpos,kp⟩] pos) (tMaxLam Pt (X.env.qual ++ "<lambda>") lpos tb vals ta):=by
  intro pins s σ H Q I h
  have hs2:backTo pos (starEach [l] X.env) = [(false,eval l X.env)]:=by rw [hs]; rfl
  refine wpAny_Call_Name_kw (ld_blt I hg hm boot_max (blt_with_kw (by rw [hs2]; rfl) (by rw [hks]; rfl) ?_))
  rw [hs2]
  refine evalArgs_kwB (by rw [hks]; rfl) ?_
  rw [← hs2]
  refine thn (ha pos pins s σ H _ I h) fun us s1 ⟨vs,H1,I1,r1,q1⟩ => ?_
  obtain ⟨p,ns,val,rfl,hp,hn,T,hbd,qe⟩:=q1
  refine thn (pk_cons (pe_lam ck hcode LB hdef) pk_nil pos pins s1 σ H1 (fun zs H2 => ∃ f c' pm ctv,zs = [.ref f] ∧ SameP Pt H1 H2 ∧ LamT Pt (X.env.qual ++ "<lambda>") lpos H2 ∧ H2 c' = some (codeO c' (X.env.qual ++ "<lambda>")) ∧ H2 f = some (fnO f (kla_obj "<lambda>" (X.env.qual ++ "<lambda>") params body scope cl pm c' ctv))) I1 ⟨T,fun f c' pm ctv H' a b c d => ⟨f,c',pm,ctv,rfl,a,b,c,d⟩⟩) fun ws s2 ⟨zs,H2,I2,r2,q2⟩ => ?_
  obtain ⟨f,c',pm,ctv,rfl,sP,T2,hc',hf⟩:=q2
  obtain ⟨u,rfl,ru⟩:=vals1 r1
  cases ru
  obtain ⟨u,rfl,ru⟩:=vals1 r2
  cases ru
  have e:(backToKw pos (keywordEach [⟨some "key",.Lambda params body scope lpos,kp⟩] X.env)).filterMap (·.1) = (["key"]:List Str):=by rw [hks]; rfl
  rw [e]
  show wpAny (model X.prog X.w) X.A (call (.builtin "max") [.ref p] [(Str.ofString "key",.ref f)]) _ _ _
  generalize X.env.qual ++ "<lambda>" = q at *
  have hp2:=rdL_P sP hp T.tb
  -- the list is known from here on
  obtain ⟨ol,hol⟩:∃ o,s2.heap.get? p = some o:=by
    obtain ⟨its,rv,pl,hz⟩:=I2.list (rdL_sq hp2)
    obtain ⟨o,e,_⟩:=pl.isList
    exact ⟨o,e⟩
  obtain ⟨Hf,If,hpf,hback,hrd,hcf,hff⟩:∃ Hf,Inv X pins σ Hf s2 ∧ Hf p = some (.frz ol (.lst (ns.map V.int))) ∧ (∀ s',Inv X pins σ Hf s' → Inv X pins σ H2 s') ∧ (∀ a zs,rdL H1 a = some zs → rdL Hf a = some zs) ∧ Hf c' = some (codeO c' q) ∧ Hf f = some (fnO f (kla_obj "<lambda>" q params body scope cl pm c' ctv)):=by
    rcases rdL_cases hp2 with z | ⟨o,z⟩
    · have ne:∀ b u,H2 b = some u → (∀ y,u ≠ .lst y) → b ≠ p:=fun b u e n y => by rw [y,z] at e; cases e; exact n _ rfl
      refine ⟨upd H2 p (.frz ol (.lst (ns.map V.int))),I2.freezeL z hol,upd_same,fun s' J => ?_,fun a zs h => ?_,?_,?_⟩
      · have:=J.unfreeze (Hs:=H2) fun b o u e => I2.base.frzs b o u e
        rw [unf_back z] at this
        exact this
      · have h2:=rdL_P sP h T.tb
        by_cases ea:a = p
        · subst ea
          rw [hp2] at h2
          cases h2
          show rdO (upd H2 a (.frz ol (.lst (ns.map V.int))) a) = _
          rw [upd_same]
          rfl
        · unfold rdL at h2 ⊢
          rw [upd_ne ea]
          exact h2
      · rw [upd_ne (ne _ _ hc' fun _ => nofun)]; exact hc'
      · rw [upd_ne (ne _ _ hf fun _ => nofun)]; exact hf
    · obtain ⟨eo,_⟩:=I2.hok p _ z
      rw [hol] at eo
      cases eo
      exact ⟨H2,I2,z,fun _ J => J,fun a zs h => rdL_P sP h T.tb,hc',hf⟩
  obtain ⟨its,rv,pl,hz⟩:=If.list (rdL_sq (hrd p _ hp))
  have hl:=pl.isList
  have hle:its.length = ns.length:=by have:=rv.length; rw [List.length_map] at this; omega
  have at':∀ (i:Nat) (v:Value),its[i]? = some v → ∃ n t,ns[i]? = some n ∧ v = Value.int n t:=fun i v hv' => by
    have hi:i < ns.length:=by rw [← hle]; exact (List.getElem?_eq_some_iff.mp hv').1
    obtain ⟨u,hu,ru⟩:=rv.get (show (ns.map V.int)[i]? = some (.int ns[i]) by rw [List.getElem?_map,List.getElem?_eq_getElem hi]; rfl)
    rw [hv'] at hu
    cases hu
    obtain ⟨t,rfl⟩:=ru
    exact ⟨_,t,List.getElem?_eq_getElem hi,rfl⟩
  have fJ:=If.freAt (Nat.le_refl s2.heap.objs.size)
  have fB:=If.freAt (Nat.le_succ s2.heap.objs.size)
  have nJ:Hf s2.heap.objs.size = none:=If.hok.fresh (Nat.le_refl _)
  have nB:Hf (s2.heap.objs.size + 1) = none:=If.hok.fresh (Nat.le_succ _)
  have sz0:=If.sz
  have ns0:∀ b,s2.heap.objs.size ≤ b → b ∉ frs X.stack:=fun b hb z => by
    rcases List.mem_cons.mp (If.stkSub b z) with y | y
    · exact absurd (Nat.lt_of_lt_of_le If.lt hb) (by rw [y]; exact Nat.lt_irrefl _)
    · exact absurd (Nat.lt_of_lt_of_le (If.fsLt y) hb) (Nat.lt_irrefl _)
  refine call_maxK (val:=val) (G:=fun s' => Inv X pins σ Hf s') hl (by omega) (If.ok.hd hc) (fun h' tk k => If.kept k) (fun s3 h' tk J k => ?_) (fun i v s3 Q3 E3 hv J k => ?_) fun z s' hz' J => ?_
  · exact J.turned2 k fJ fB nJ nB sz0 (Nat.le_succ_of_le sz0)
  · obtain ⟨n,t,en,rfl⟩:=at' i v hv
    refine wpAny_call (codeAny_mono (lam_call (A:=X.A.in1) (q:=q) (f:=f) (c':=c') (pm:=pm) (ctv:=ctv) (v:=.int n t) (y:=.int n) (Q:=fun v H3 => v = .int (val i) ∧ H3 = Hf) J ck If.ok.frames (If.ok.hd hc) (by show X.A.depth < _; omega) (J.hok f _ hff).1 (J.hok c' _ hcf).1 hco hgen hk hcell (hbind q pm ctv _ c') ⟨t,rfl⟩ (hb _ _ _ _ _) (hbd Hf hrd i n en)) fun r s4 hr => ?_)
    match r,hr with
    | .ok (.ret u),hr =>
      have un:Un (frs X.stack) [] Hf Hf s3.heap s4.heap:=by obtain ⟨v',H',_,_,un,_,_,⟨_,rfl⟩⟩:=hr; exact un
      obtain ⟨v',H',J',rv',⟨rfl,rfl⟩⟩:=J.after hr
      obtain ⟨t',rfl⟩:=rv'
      refine k t' s4 J' fun b o hb e => ?_
      rcases hb with z | z | z
      · subst z; exact un.keep _ o e nJ (ns0 _ (Nat.le_refl _)) (by simp)
      · subst z; exact un.keep _ o e nB (ns0 _ (Nat.le_succ _)) (by simp)
      · subst z
        have e1:=(J.hok _ _ hpf).1
        rw [e] at e1
        cases e1
        exact (J'.hok _ _ hpf).1
  · obtain ⟨h1,h2⟩:=argBest_top val (its.length - 1)
    obtain ⟨m,t,em,rfl⟩:=at' _ _ hz'
    exact ⟨.int m,H2,hback s' J,⟨t,rfl⟩,qe _ m H2 em (fun j hj => h2 j (by omega)) sP T2⟩
theorem s_maxLam {Pt:Addr} {q:Str} {lpos:Pos} {tb:TE} {vals:St → St} {ta:TA} {σ:St} {H:Hp} {Q:VK} (h:ta σ H fun xs H1 => ∃ (p:Addr) (ns:List Int) (val:Nat → Int),xs = [.ref p] ∧ rdL H1 p = some (ns.map V.int) ∧ 0 < ns.length ∧ LamT Pt q lpos H1 ∧
  (∀ H2,(∀ a zs,rdL H1 a = some zs → rdL H2 a = some zs) → ∀ (i:Nat) n,ns[i]? = some n → tb (some (.int n) :: vals σ) H2 fun v H3 => v = .int (val i) ∧ H3 = H2) ∧
  ∀ (i:Nat) m H2,ns[i]? = some m → (∀ j,j < ns.length → val j ≤ val i) → SameP Pt H1 H2 → LamT Pt q lpos H2 → Q (.int m) H2):tMaxLam Pt q lpos tb vals ta σ H Q:=h
theorem lam_dp {k:Nat} {A:Around} (r:Room k A):A.depth + 3 < recursionLimit:=by have:=r.dp; omega
end L2
set_option maxHeartbeats 1000000
namespace L2
open PySem PySem.Spec PyProof.Rows
theorem sub_ri_rev:isSubtype (.type "range_iterator") (.type "reversed") = pure false:=by rw [isSubtype_type]; kernel_rfl
theorem boot_reversed:bootBuiltins "reversed" = some (.type "reversed"):=by decide +kernel
section
variable {prog:Program} {w:World} {A:Around} {E:Value → Shared → Prop} {s:Shared}
def revR (n:Int):Obj:={ cls:=.type "range_iterator",data:=.fields #[rawInt (n - 1),rawInt n,rawInt (-1)] }
theorem call_range_rev {r:Addr} {n:Int} {t u v:Tok} {Q:Value → Shared → Prop} (hr:s.heap.get? r = some { cls:=.type "range",data:=.fields #[.int 0 t,.int n u,.int 1 v] }) (h0:0 ≤ n) (h1:n ≤ 1000000)
    (h:Q (.ref s.heap.objs.size) { s with heap:=s.heap.push (revR n) }):wpAny (model prog w) A (call (.builtin "range.__reversed__") [.ref r]) Q E s:=by
  refine wpAny_call_entry PySem.F.slot_range_reversed ⟨_,hr,rfl⟩ PySem.F.entry_range_reversed ?_ (PySem.F.args_range_reversed_1 _)
  unfold Builtin.«range.__reversed__»
  refine wpAny_bind (wpAny_of_eq (a:=Value.ref r) rfl ?_)
  unfold Builtin.Range.rangeFields
  refine wpAny_bind (wpAny_bind (wpAny_field hr rfl (x:=.int 0 t) rfl ?_))
  refine wpAny_bind (wpAny_of_eq (a:=some 0) rfl ?_)
  refine wpAny_bind (wpAny_field hr rfl (x:=.int n u) rfl ?_)
  refine wpAny_bind (wpAny_of_eq (a:=some n) rfl ?_)
  refine wpAny_bind (wpAny_field hr rfl (x:=.int 1 v) rfl ?_)
  refine wpAny_bind (wpAny_of_eq (a:=some 1) rfl ?_)
  refine wpAny_pure ?_
  have hs:Builtin.Range.rangeSize 0 n 1 = n:=by
    unfold Builtin.Range.rangeSize
    rw [if_pos (by decide)]
    split <;> omega
  dsimp only
  rw [hs]
  have hf:(Builtin.Range.rangeFitsLong 0 && Builtin.Range.rangeFitsLong n && Builtin.Range.rangeFitsLong 1 && Builtin.Range.rangeFitsLong (-1) && Builtin.Range.rangeFitsLong (0 - 1) && Builtin.Range.rangeFitsLong n) = true:=by
    have:Builtin.Range.rangeFitsLong n = true:=by
      unfold Builtin.Range.rangeFitsLong
      rw [Bool.and_eq_true]
      exact ⟨decide_eq_true (by omega),decide_eq_true (by omega)⟩
    rw [this]
    decide
  rw [hf]
  simp only [Bool.not_true,Bool.false_eq_true,if_false,if_true]
  rw [show (0:Int) + (n - 1) * 1 = n - 1 by omega]
  exact wpAny_bind (wpAny_newObj_type (wpAny_pure ⟨_,rfl,h⟩) (by size_fits))
theorem code_rev_new {r:Addr} {n:Int} {t u v:Tok} {Q₁:Value → Shared → Prop} (hr:s.heap.get? r = some { cls:=.type "range",data:=.fields #[.int 0 t,.int n u,.int 1 v] }) (h0:0 ≤ n) (h1:n ≤ 1000000)
    (h:Q₁ (.ref s.heap.objs.size) { s with heap:=s.heap.push (revR n) }) :
    codeAny (model prog w) A (.call (.builtin "reversed.__new__") ⟨[.type "reversed",.ref r],[]⟩) (wants Q₁ E) s:=by
  have hT:s.TypeIs (.ref r) "range" := ⟨_,hr,rfl⟩
  refine codeAny_of_tree ?_
  show wpAny _ A.in1 (do checkBuiltinCall "reversed.__new__" ⟨[.type "reversed",.ref r],[]⟩; again (.builtin "reversed.__new__" ⟨[.type "reversed",.ref r],[]⟩)) _ _ s
  refine wpAny_bind (wpAny_of_eq (PySem.F.newCall_reversed_1 _) (wpAny_pure ⟨plainId_quiet PySem.F.plain_reversed_new _,codeAny_builtin PySem.F.entry_reversed_new ?_⟩))
  rw [Around.under_plainId PySem.F.plain_reversed_new _]
  unfold Builtin.«reversed.__new__»
  refine wpAny_bind (wpAny_of_eq (newClass_reversed _) ?_)
  try dsimp only
  refine wpAny_bind (wpAny_of_eq (a:=()) (by first | rfl | kernel_rfl) ?_)
  refine wpAny_bind (wpAny_of_eq (a:=()) (by first | rfl | kernel_rfl) ?_)
  try dsimp only
  refine wpAny_bind (wpAny_specialOf hT PySem.F.slot_range_reversed.lookup ?_)
  try dsimp only
  refine wpAny_bind (wpAny_of_eq (PySem.F.slot_range_reversed.bind _) ?_)
  try dsimp only
  first
  | rw [if_neg (show ¬ ((Value.builtin "range.__reversed__" == Value.none) = true) from Bool.false_ne_true)]
  | (show wpAny _ _ (if (Value.builtin "range.__reversed__" == Value.none) = true then _ else _) _ _ _; rw [if_neg (show ¬ ((Value.builtin "range.__reversed__" == Value.none) = true) from Bool.false_ne_true)])
  refine wpAny_bind (wpAny_rule ?_)
  refine wpAny_bind (m:=runValue (.call (.builtin "range.__reversed__") ⟨[.ref r],[]⟩)) (show wpAny _ _ (call (.builtin "range.__reversed__") [.ref r]) _ _ _ from call_range_rev hr h0 h1 ?_)
  first
  | exact wpAny_pure h
  | exact wpAny_bind (wpAny_pure (wpAny_pure h))
theorem call_rev_range {r:Addr} {n:Int} {t u v:Tok} {Q:Value → Shared → Prop} (hr:s.heap.get? r = some { cls:=.type "range",data:=.fields #[.int 0 t,.int n u,.int 1 v] }) (h0:0 ≤ n) (h1:n ≤ 1000000)
    (h:Q (.ref s.heap.objs.size) { s with heap:=s.heap.push (revR n) }):wpAny (model prog w) A (call (.type "reversed") [.ref r]) Q E s:=by
  refine callType_other (U := "range_iterator") (Q₁:=fun obj s₁ => obj = .ref s.heap.objs.size ∧ s₁ = { s with heap:=s.heap.push (revR n) }) (by decide +kernel) PySem.F.create_reversed ⟨_,_,PySem.F.mro_reversed⟩ PySem.F.made_reversed sub_ri_rev (PySem.F.typeCall_reversed_1 _) (code_rev_new hr h0 h1 ⟨rfl,rfl⟩) ?_
  rintro obj s₁ ⟨rfl,rfl⟩
  exact ⟨⟨_,Heap.get?_push_size _ rfl,rfl⟩,h⟩
theorem iter_ri {it:Addr} {x n c:Int} {Q:Value → Shared → Prop} (hi:IsRangeIter s.heap it x n c) (h:Q (.ref it) s):wpAny (model prog w) A (pyIter (.ref it)) Q E s:=by
  have hT:s.TypeIs (.ref it) "range_iterator" := ⟨_,hi,rfl⟩
  refine wpAny_pyIter_slot hT PySem.F.slot_range_iterator_iter (wpAny_call_entry PySem.F.slot_range_iterator_iter hT PySem.F.entry_range_iterator_iter ?_ (PySem.F.args_range_iterator_iter_1 _))
  show wpAny _ _ (Builtin.«dict_keyiterator.__iter__» ⟨[.ref it],[]⟩) _ _ s
  exact wpAny_pure ⟨_,rfl, "range_iterator",_,hT,PySem.F.slot_range_iterator_next.lookup,h⟩
end
section
variable {X:Cx} {tg e:Expr} {p pos:Pos} {te:TA}
def jRev (te:TA):TI:=fun σ H R => te σ H fun vs H1 => ∃ (r:Addr) (n:Nat),vs = [.ref r] ∧ H1 r = some (.rng 0 (n:Int)) ∧ n ≤ 1000000 ∧ R (Itr3 ((n:Int) - 1) (-1) n) H1
theorem pj_rev (hg:Gl X "reversed") (hm:X.mg "reversed" = none) (he:PA X [e] te) (hs:starEach [e] X.env = [(false,eval e X.env)]:=by rfl) :
    PI X tg (.Call (.Name "reversed" p) [e] [] pos) (jRev te):=by
  intro pins s σ H R I h
  refine Call_ (ld_blt I hg hm boot_reversed (PyProof.Rows.callWith_type1 (thn (he pos pins s σ H _ I h) fun us s1 ⟨vs,H1,I1,r1,q1⟩ => ?_) hs rfl))
  obtain ⟨r,n,rfl,hr,hn,q⟩:=q1
  obtain ⟨u,rfl,ru⟩:=vals1 r1
  cases ru
  obtain ⟨t,u,v,hh⟩:=I1.hok r _ hr
  refine call_rev_range hh (by omega) (by omega) ?_
  have hi:IsRangeIter (s1.heap.push (revR n)) s1.heap.objs.size ((n:Int) - 1) n (-1):=Heap.get?_push_size _ rfl
  refine iter_ri hi ?_
  refine ⟨s1.heap.objs.size,[s1.heap.objs.size],_,_,H1,rfl,I1.kept (t':=s1.toks) fun b o e => Heap.get?_push_of_some _ e,turn_range3 _ ((n:Int) - 1) (-1) n,?_,fun b hb => ?_,q⟩
  · have e1:(n:Int) - 1 + ((0:Nat):Int) * (-1) = (n:Int) - 1:=by simp
    have e2:((n:Nat):Int) - ((0:Nat):Int) = n:=by simp
    show IsRangeIter _ _ ((n:Int) - 1 + ((0:Nat):Int) * (-1)) (((n:Nat):Int) - ((0:Nat):Int)) (-1)
    rw [e1,e2]
    exact hi
  · have e:b = s1.heap.objs.size:=by simpa using hb
    subst e
    exact I1.fpOk (Nat.le_refl _) (I1.hok.fresh (Nat.le_refl _))
theorem s_jRev {σ:St} {H:Hp} {R:It → Hp → Prop} (h:te σ H fun vs H1 => ∃ (r:Addr) (n:Nat),vs = [.ref r] ∧ H1 r = some (.rng 0 (n:Int)) ∧ n ≤ 1000000 ∧ R (Itr3 ((n:Int) - 1) (-1) n) H1):jRev te σ H R:=h
end
end L2
set_option maxHeartbeats 1000000
namespace L2
open PySem PySem.Spec PyProof.Rows
section
open PySem.AutoSeq1 (wpAny_loadPart')
open PySem.MeetsSeq PySem.MeetsSeq2 PySem.MeetsSeq3
theorem tuple_gt_ints (l b:Addr) (items items2:Array Value) (n n2:Nat) (dd dd2:Option Addr) (sl sl2:Array (Option Value)) (ns ms:List Int) (hi:IntsAre items.toList ns) (hj:IntsAre items2.toList ms) :
    Meets (Builtin.«tuple.__gt__» ⟨[.ref l,.ref b],[]⟩)
      (fun _ R s => s.heap.get? l = some { cls:=.type "tuple",dict:=dd,data:=.seq items n,slots:=sl } ∧ s.heap.get? b = some { cls:=.type "tuple",dict:=dd2,data:=.seq items2 n2,slots:=sl2 } ∧
        R (.ok (.ret (.bool (HT.lexLt ms ns)))) s) :=
  .of_wp fun prog w A R s h => by
    obtain ⟨hp,g,d,tk,os⟩:=s; obtain ⟨hl,hb,h⟩:=h
    have f2:=AutoSeq1.sub_tuple_tuple
    have z1:items.size = ns.length:=by rw [← hi.length]; simp
    have z2:items2.size = ms.length:=by rw [← hj.length]; simp
    wp_walk using wpAny_loadPart' hl,wpAny_loadPart' hb,wpAny_forIn_list _ (fun rest b s' => b.1 = none ∧ s' = ⟨hp,g,d,tk,os⟩ ∧ ∃ (vs ws:List Value) (ns' ms':List Int),rest = vs.zip ws ∧
      IntsAre vs ns' ∧ IntsAre ws ms' ∧ ns'.length + items2.size = ms'.length + items.size ∧ R (.ok (.ret (.bool (HT.lexLt ms' ns')))) ⟨hp,g,d,tk,os⟩) _
    case turn =>
      rintro ⟨y,x⟩ rest b s' ⟨hb',rfl,vs,ws,ns',ms',hz,hvi,hwi,hlen,hR⟩
      cases hvi with
      | nil => rw [List.zip_nil_left] at hz; cases hz
      | cons a t hvi' =>
        cases hwi with
        | nil => rw [List.zip_nil_right] at hz; cases hz
        | cons c u hwi' =>
          rw [List.zip_cons_cons] at hz
          injection hz with hyx hrest
          injection hyx with hy hx
          subst hy hx
          rw [HT.lexLt_cons] at hR
          simp only [List.length_cons] at hlen
          obtain ⟨e,he,hiff⟩:=HT.eqAt_int A.in1 ⟨hp,g,d,tk,os⟩ a t c u
          refine wpAny_bind (he prog w _ _ ?_)
          cases e with
          | true =>
            rw [if_pos (hiff.mp rfl).symm] at hR
            wp_walk
            exact ⟨rfl,rfl,_,_,_,_,hrest,hvi',hwi',by omega,hR⟩
          | false =>
            rw [if_neg (fun q => absurd (hiff.mpr q.symm) Bool.false_ne_true)] at hR
            have hri:∀ (E Q:Value → Shared → Prop),Q (.bool (decide (a > c))) ⟨hp,g,d,tk,os⟩ → wpAny (model prog w) A.in1 (richCompare .Gt (.int a t) (.int c u)) Q E ⟨hp,g,d,tk,os⟩:=fun E Q h => int_gt h
            wp_walk using hri
            exact ⟨_,rfl,by simpa using hR⟩
    case fin =>
      rintro ⟨b1,b2⟩ s' ⟨hb',rfl,vs,ws,ns',ms',hz,hvi,hwi,hlen,hR⟩
      simp only at hb'
      subst hb'
      have hv:HT.lexLt ms' ns' = decide (items.size > items2.size):=by
        cases hvi with
        | nil =>
          cases hwi with
          | nil =>
            simp only [List.length_nil] at hlen
            rw [HT.lexLt_nil_nil]
            exact (decide_eq_false (by omega)).symm
          | cons c u hw =>
            simp only [List.length_nil,List.length_cons] at hlen
            rw [HT.lexLt_cons_nil]
            exact (decide_eq_false (by omega)).symm
        | cons a t hv =>
          cases hwi with
          | nil =>
            simp only [List.length_nil,List.length_cons] at hlen
            rw [HT.lexLt_nil_cons]
            exact (decide_eq_true (by omega)).symm
          | cons c u hw =>
            rw [List.zip_cons_cons] at hz
            cases hz
      rw [hv] at hR
      wp_walk
      exact ⟨_,rfl,by simpa [Builtin.Tuple.tupleCompareSizes] using hR⟩
    case h =>
      exact ⟨rfl,rfl,items.toList,items2.toList,ns,ms,rfl,hi,hj,by omega,h⟩
end
section
variable {prog:Program} {w:World} {A:Around} {E:Value → Shared → Prop} {s:Shared}
theorem gt_tupInts {l b:Addr} {items items2:Array Value} {ns ms:List Int} {Q:Value → Shared → Prop} (hl:IsTup s.heap l items) (hb:IsTup s.heap b items2) (hi:IntsAre items.toList ns) (hj:IntsAre items2.toList ms)
    (hu:A.units < cLine) (h:Q (.bool (HT.lexLt ms ns)) s):wpAny (model prog w) A (richCompare .Gt (.ref l) (.ref b)) Q E s:=by
  obtain ⟨⟨cls,dd,data,sl⟩,ho,hc,n,hd⟩:=id hl
  obtain ⟨⟨cls2,dd2,data2,sl2⟩,ho2,hc2,n2,hd2⟩:=id hb
  simp only at hc hd hc2 hd2
  subst hc hd hc2 hd2
  exact richCompare_meets_room (op:=.Gt) ⟨_,ho,rfl⟩ ⟨_,ho2,rfl⟩ PySem.F.slot_tuple_gt PySem.F.entry_tuple_gt (PySem.F.args_tuple_gt_2 _ _) (tuple_gt_ints l b items items2 n n2 dd dd2 sl sl2 ns ms hi hj)
    ⟨ho,ho2,show Value.bool (HT.lexLt ms ns) ≠ Value.notImplemented ∧ Q (.bool (HT.lexLt ms ns)) s from ⟨(fun x => nomatch x),h⟩⟩ hu
end
section
variable {prog:Program} {w:World} {A:Around} {R:Result → Shared → Prop} {J B:Addr} {us ws:List Addr} {n:Nat} {P:Nat → Value → Prop} {St:Nat → Heap → Prop} {G:Shared → Prop} {bt:Nat → Nat → Bool}
theorem maxG_step (W:Walks prog w A.in1 J us ws n P St) (nB:B ∉ us)
    (hG:∀ (s:Shared) h' tk,G s → (∀ b o,b ∉ ws → b ≠ B → s.heap.get? b = some o → h'.get? b = some o) → G { s with heap:=h',toks:=tk })
    (hcmp:∀ (i j:Nat) v u (s:Shared) (Q:Value → Shared → Prop) (E:Value → Shared → Prop),P i v → P j u → G s → Q (.bool (bt i j)) s → wpAny (model prog w) A.in1 (richCompare .Gt v u) Q E s)
    (hR:∀ z s',P (argBest bt (n - 1)) z → G s' → R (.ok (.ret z)) s') :
    ∀ (r i:Nat) (s:Shared) (y:Value) (c:Nat),n - (i + 1) = r → i + 1 ≤ n → St (i + 1) s.heap → P (argBest bt i) y → s.heap.get? B = some { cls:=.type "list",data:=.seq #[y,y] c } → G s →
    codeAny (model prog w) A (.builtin "max.loop" ⟨[.ref J,.none,.ref B],[]⟩) R s:=by
  have nBw:B ∉ ws:=fun z => nB (W.sub _ z)
  have nm:(toString "max" ++ toString ".loop" : String) = "max.loop" := by decide
  intro r
  induction r with
  | zero =>
    intro i s y c er hi st py eB g
    have en:i + 1 = n:=by omega
    refine codeAny_builtin PySem.F.entry_max_loop ?_
    rw [Around.under_plainId PySem.F.plain_max_loop _]
    show wpAny _ A.in1 (seqItems? (.ref B) >>= _) _ _ s
    refine wpAny_bind (wpAny_seqItems eB rfl ?_)
    show wpAny _ A.in1 (tryCatch (pyNext (.ref J)) _ >>= _) _ _ s
    refine wpAny_bind (wpAny_tryCatch (W.done s _ _ (en ▸ st) fun h' tk kp => ?_))
    have eB2:=kp B _ nBw eB
    show wpAny _ A.in1 (updateSeq B (fun _ => #[]) >>= _) _ _ _
    refine wpAny_bind (wpAny_updateSeq eB2 rfl (wpAny_bind (wpAny_letGo (wpAny_pure ?_))))
    exact hR y _ (by rw [← en]; exact py) (hG s _ tk g fun b o n1 n2 e => (Heap.get?_update_other _ _ (Ne.symm n2)).trans (kp b o n1 e))
  | succ r ih =>
    intro i s y c er hi st py eB g
    have lt:i + 1 < n:=by omega
    refine codeAny_builtin PySem.F.entry_max_loop ?_
    rw [Around.under_plainId PySem.F.plain_max_loop _]
    show wpAny _ A.in1 (seqItems? (.ref B) >>= _) _ _ s
    refine wpAny_bind (wpAny_seqItems eB rfl ?_)
    show wpAny _ A.in1 (tryCatch (pyNext (.ref J)) _ >>= _) _ _ s
    refine wpAny_bind (wpAny_tryCatch (W.item (i + 1) s _ _ lt st fun z h' tk pz st2 kp => ?_))
    have eB2:=kp B _ nBw eB
    have g2:G { s with heap:=h',toks:=tk }:=hG _ _ tk g fun b o n1 _ e => kp b o n1 e
    show wpAny _ A.in1 (tryCatch (holding [z,z] (richCompare .Gt z y >>= _)) _ >>= _) _ _ _
    refine wpAny_bind (wpAny_tryCatch (wpAny_holding (wpAny_bind (hcmp (i + 1) (argBest bt i) z y _ _ _ pz py g2 ?_))))
    refine wpAny_bind (wpAny_holding (wpAny_truthy_bool (wpAny_bind (wpAny_letGo (wpAny_pure ?_)))))
    cases e:bt (i + 1) (argBest bt i) with
    | true =>
      simp only [if_true]
      refine wpAny_bind (wpAny_updateSeq eB2 rfl (wpAny_bind (wpAny_letGo ?_)))
      rw [nm]
      have ea:argBest bt (i + 1) = i + 1:=by unfold argBest; rw [e]; rfl
      refine wpAny_pure ⟨plainId_quiet PySem.F.plain_max_loop _,ih (i + 1) _ z _ (by omega) lt (W.frame _ _ _ st2 fun b hb o q => (Heap.get?_update_other _ _ (fun y:B = b => nB (y ▸ hb))).trans q) (by rw [ea]; exact pz) (Heap.get?_update_self _ eB2 rfl) (hG _ _ tk g2 fun b o n1 n2 q => (Heap.get?_update_other _ _ (Ne.symm n2)).trans q)⟩
    | false =>
      simp only [Bool.false_eq_true,if_false]
      refine wpAny_bind (wpAny_letGo ?_)
      rw [nm]
      have ea : argBest bt (i + 1) = argBest bt i := by conv => lhs; unfold argBest; rw [e]
                                                        rfl
      refine wpAny_pure ⟨plainId_quiet PySem.F.plain_max_loop _,ih (i + 1) _ y c (by omega) lt st2 (by rw [ea]; exact py) eB2 g2⟩
end
section
variable {prog:Program} {w:World} {A:Around} {E:Value → Shared → Prop} {s:Shared} {l:Addr} {its:List Value} {G:Shared → Prop} {bt:Nat → Nat → Bool} {Q:Value → Shared → Prop}
theorem call_maxG (hl:s.heap.IsList l its.toArray) (hne:0 < its.length) (hh:A.handled = none)
    (hG0:∀ h' tk,(∀ b o,s.heap.get? b = some o → h'.get? b = some o) → G { s with heap:=h',toks:=tk })
    (hG:∀ (s1:Shared) h' tk,G s1 → (∀ b o,b ≠ s.heap.objs.size → b ≠ s.heap.objs.size + 1 → s1.heap.get? b = some o → h'.get? b = some o) → G { s1 with heap:=h',toks:=tk })
    (hcmp:∀ (i j:Nat) v u (s1:Shared) (Q:Value → Shared → Prop) (E:Value → Shared → Prop),its[i]? = some v → its[j]? = some u → G s1 → Q (.bool (bt i j)) s1 → wpAny (model prog w) A.in1 (richCompare .Gt v u) Q E s1)
    (hQ:∀ z s',its[argBest bt (its.length - 1)]? = some z → G s' → Q z s') :
    wpAny (model prog w) A (call (.builtin "max") [.ref l]) Q E s:=by
  have hname:(toString "max" ++ toString ".loop" : String) = "max.loop" := by decide
  obtain ⟨ol,hol,_⟩:=id hl
  have hll:l < s.heap.objs.size:=Heap.lt_size hol
  refine call_function_tree PySem.F.kind_max PySem.F.plain_max PySem.F.entry_max (PySem.F.args_max1 _) ?_
  show wpAny _ A.in1 (Builtin.Builtins.bindParams "max" ["key", "default"] 0 ⟨[],[]⟩ >>= _) _ _ s
  refine wpAny_bind (wpAny_of_eq (show Builtin.Builtins.bindParams "max" ["key", "default"] 0 ⟨[],[]⟩ = pure [none,none] from rfl) ?_)
  refine wpAny_bind (wpAny_pure ?_)
  refine wpAny_bind (wpAny_pyIter_list hl ?_)
  refine wpAny_bind (wpAny_newList ?_ (Nat.zero_le _))
  rw [hname]
  have hS:(s.heap.push { cls:=.type "list_iterator",data:=.fields #[.ref l,.int 0 0] }).objs.size = s.heap.objs.size + 1:=by rw [Heap.size_push]
  have nlJ:l ≠ s.heap.objs.size:=Nat.ne_of_lt hll
  have nlB:l ≠ s.heap.objs.size + 1:=Nat.ne_of_lt (Nat.lt_succ_of_lt hll)
  have W:=Walks.list (prog:=prog) (w:=w) (A:=A.in1) hh s.heap.objs.size l nlJ its.toArray
  have hsz:its.toArray.size = its.length:=List.size_toArray ..
  have nB:s.heap.objs.size + 1 ∉ [s.heap.objs.size,l]:=fun z => by
    simp only [List.mem_cons,List.not_mem_nil,or_false] at z
    rcases z with z | z
    · exact Nat.succ_ne_self _ z
    · exact nlB z.symm
  rw [hS]
  refine wpAny_pure ⟨plainId_quiet PySem.F.plain_max_loop _,?_⟩
  generalize hhp:(s.heap.push { cls:=.type "list_iterator",data:=.fields #[.ref l,.int 0 0] }).push { cls:=.type "list",data:=.seq #[] } = h0
  have k0:∀ b o,s.heap.get? b = some o → h0.get? b = some o:=fun b o e => by rw [← hhp]; exact Heap.get?_push_of_some _ (Heap.get?_push_of_some _ e)
  have gJ:h0.get? s.heap.objs.size = some { cls:=.type "list_iterator",data:=.fields #[.ref l,.int 0 0] }:=by rw [← hhp]; exact Heap.get?_push_of_some _ (Heap.get?_push_size _ rfl)
  have gB:h0.get? (s.heap.objs.size + 1) = some { cls:=.type "list",data:=.seq #[] }:=by rw [← hhp,← hS]; exact Heap.get?_push_size _ rfl
  have hl0:h0.IsList l its.toArray:=by obtain ⟨o,e,r⟩:=hl; exact ⟨o,k0 _ _ e,r⟩
  refine codeAny_builtin PySem.F.entry_max_loop ?_
  rw [Around.under_plainId PySem.F.plain_max_loop _]
  show wpAny _ A.in1 (seqItems? (.ref (s.heap.objs.size + 1)) >>= _) _ _ _
  refine wpAny_bind (wpAny_seqItems gB rfl ?_)
  show wpAny _ A.in1 (tryCatch (pyNext (.ref s.heap.objs.size)) _ >>= _) _ _ _
  refine wpAny_bind (wpAny_tryCatch (W.item 0 _ _ _ (by rw [hsz]; exact hne) ⟨⟨_,gJ,rfl,rfl⟩,hl0⟩ fun v h' tk' hP st1 hk' => ?_))
  have hv:its[0]? = some v:=by simpa using hP
  have g1:G { s with heap:=h',toks:=tk' }:=by
    refine hG { s with heap:=h0,toks:=s.toks } h' tk' (hG0 h0 s.toks k0) fun b o n1 n2 e => hk' b o (fun z => n1 (by simpa using z)) e
  have gB1:=hk' (s.heap.objs.size + 1) _ (fun z => absurd (show s.heap.objs.size + 1 = s.heap.objs.size by simpa using z) (Nat.succ_ne_self _)) gB
  show wpAny _ A.in1 (updateSeq (s.heap.objs.size + 1) (fun _ => #[v,v]) >>= _) _ _ _
  refine wpAny_bind (wpAny_updateSeq gB1 rfl ?_)
  rw [hname]
  refine wpAny_pure ⟨plainId_quiet PySem.F.plain_max_loop _,?_⟩
  refine maxG_step (J:=s.heap.objs.size) (B:=s.heap.objs.size + 1) (G:=G) (bt:=bt) W nB (fun s1 h1 tk g k => hG s1 h1 tk g fun b o n1 n2 e => k b o (fun z => n1 (by simpa using z)) n2 e)
    (fun i j v u s1 Q1 E1 hv hu g k => hcmp i j v u s1 Q1 E1 (by simpa using hv) (by simpa using hu) g k)
    (fun z s' pz g => hQ z s' (by rw [hsz] at pz; simpa using pz) g) (its.toArray.size - 1) 0 _ v _ (by omega) (by omega) (W.frame _ _ _ st1 fun b hb o e => (Heap.get?_update_other _ _ (fun z:s.heap.objs.size + 1 = b => nB (z ▸ hb))).trans e) (show its.toArray[0]? = some v by simpa using hv) (Heap.get?_update_self _ gB1 rfl)
    (hG _ _ tk' g1 fun b o n1 n2 e => (Heap.get?_update_other _ _ (Ne.symm n2)).trans e)
end
section
variable {X:Cx}
def gtP (ks:List (Int × Int)) (i j:Nat):Bool:=HT.lexLt [(ks.getD j (0,0)).1,(ks.getD j (0,0)).2] [(ks.getD i (0,0)).1,(ks.getD i (0,0)).2]
theorem lex_iff (a b:Int × Int):HT.lexLt [a.1,a.2] [b.1,b.2] = true ↔ ltPr a b:=by
  rw [HT.lexLt_cons,HT.lexLt_cons,HT.lexLt_nil_nil]
  unfold ltPr
  by_cases e:a.1 = b.1
  · rw [if_pos e]
    by_cases e2:a.2 = b.2
    · rw [if_pos e2]; constructor
      · intro h; cases h
      · rintro (h | ⟨_,h⟩) <;> omega
    · rw [if_neg e2,decide_eq_true_iff]
      constructor
      · intro h; exact .inr ⟨e,h⟩
      · rintro (h | ⟨_,h⟩) <;> omega
  · rw [if_neg e,decide_eq_true_iff]
    constructor
    · intro h; exact .inl h
    · rintro (h | ⟨h,_⟩) <;> omega
theorem best_gtP (ks:List (Int × Int)):∀ n,argBest (gtP ks) n ≤ n ∧ ∀ j,j ≤ n → ¬ ltPr (ks.getD (argBest (gtP ks) n) (0,0)) (ks.getD j (0,0))
  | 0 => ⟨Nat.le_refl _,fun j hj => by
      have:j = 0:=by omega
      subst this
      intro h
      rcases h with h | ⟨_,h⟩ <;> exact absurd h (Int.lt_irrefl _)⟩
  | n + 1 => by
    obtain ⟨h1,h2⟩:=best_gtP ks n
    cases e:gtP ks (n + 1) (argBest (gtP ks) n) with
    | true =>
      have ea : argBest (gtP ks) (n + 1) = n + 1 := by conv => lhs; unfold argBest; rw [e]
                                                       rfl
      rw [ea]
      have hl:=(lex_iff _ _).mp e
      refine ⟨Nat.le_refl _,fun j hj h => ?_⟩
      rcases Nat.lt_or_ge n j with z | z
      · have:j = n + 1:=by omega
        subst this
        rcases h with h | ⟨_,h⟩ <;> exact absurd h (Int.lt_irrefl _)
      · have h3:=h2 j z
        apply h3
        unfold ltPr at hl h ⊢
        omega
    | false =>
      have ea : argBest (gtP ks) (n + 1) = argBest (gtP ks) n := by conv => lhs; unfold argBest; rw [e]
                                                                    rfl
      rw [ea]
      refine ⟨by omega,fun j hj h => ?_⟩
      rcases Nat.lt_or_ge n j with z | z
      · have:j = n + 1:=by omega
        subst this
        have:=(lex_iff _ _).mpr h
        exact absurd (show gtP ks (n + 1) (argBest (gtP ks) n) = true from this) (by rw [e]; decide)
      · exact h2 j z h
def mMaxPr:List V → Hp → VK → Prop:=fun xs H Q => ∃ (p:Addr) (ps:List Addr) (ks:List (Int × Int)),xs = [.ref p] ∧ rdL H p = some (ps.map V.ref) ∧ ps.length = ks.length ∧ (∀ (i:Nat) r k,ps[i]? = some r → ks[i]? = some k → H r = some (.tup [.int k.1,.int k.2])) ∧ 0 < ps.length ∧
  ∀ (i:Nat) r k,ps[i]? = some r → ks[i]? = some k → (∀ k' ∈ ks,¬ ltPr k k') → Q (.ref r) H
theorem m_maxPr (hc:X.calm = true) (hu:X.A.units + 64 < cLine):CallR X (.builtin "max") mMaxPr:=by
  intro pins s σ H xs us Q I r h
  obtain ⟨p,ps,ks,rfl,hp,hl,hk,hn,q⟩:=h
  obtain ⟨u,rfl,ru⟩:=vals1 r
  cases ru
  obtain ⟨its,rv,pl,hz⟩:=I.list (rdL_sq hp)
  obtain rfl:=vals_refs rv
  have tup:∀ (i:Nat) v,(ps.map Value.ref)[i]? = some v → ∃ r k items,v = .ref r ∧ ps[i]? = some r ∧ ks[i]? = some k ∧ IsTup s.heap r items ∧ IntsAre items.toList [k.1,k.2]:=fun i v hv => by
    rw [List.getElem?_map] at hv
    cases e:ps[i]? with
    | none => rw [e] at hv; cases hv
    | some r =>
      rw [e] at hv
      cases hv
      have hi:i < ks.length:=by rw [← hl]; exact (List.getElem?_eq_some_iff.mp e).1
      have ek:=List.getElem?_eq_getElem hi
      obtain ⟨items,r1,l1,_⟩:=I.tuple (SqT.of (hk i r _ e ek))
      exact ⟨r,_,items.toArray,rfl,rfl,ek,l1,by simpa using intsAre_of (ns:=[ks[i].1,ks[i].2]) r1⟩
  refine call_maxG (G:=fun s' => ∃ h' tk,s' = { s with heap:=h',toks:=tk } ∧ ∀ b o,s.heap.get? b = some o → h'.get? b = some o) (bt:=gtP ks) pl.isList (by rw [List.length_map]; exact hn) (I.ok.hd hc) (fun h' tk k => ⟨h',tk,rfl,k⟩) ?_ ?_ ?_
  · rintro s1 h' tk ⟨h1,tk1,rfl,k1⟩ k
    exact ⟨h',tk,rfl,fun b o e => k b o (Nat.ne_of_lt (Heap.lt_size e)) (Nat.ne_of_lt (Nat.lt_succ_of_lt (Heap.lt_size e))) (k1 b o e)⟩
  · rintro i j v u s1 Q1 E1 hv hu' ⟨h1,tk1,rfl,k1⟩ hQ
    obtain ⟨r,k,items,rfl,hr,hk1,t1,i1⟩:=tup i v hv
    obtain ⟨r2,k2,items2,rfl,hr2,hk2,t2,i2⟩:=tup j u hu'
    have mv:∀ {b:Addr} {items:Array Value},IsTup s.heap b items → IsTup h1 b items:=fun ⟨o,e,r⟩ => ⟨o,k1 _ _ e,r⟩
    refine gt_tupInts (mv t1) (mv t2) i1 i2 (Nat.lt_of_le_of_lt (by unfold Around.units; simp) hu) ?_
    have e:gtP ks i j = HT.lexLt [k2.1,k2.2] [k.1,k.2]:=by
      unfold gtP
      rw [List.getD_eq_getElem?_getD,hk2,List.getD_eq_getElem?_getD,hk1]
      rfl
    rw [← e]
    exact hQ
  · rintro z s' hz' ⟨h1,tk1,rfl,k1⟩
    obtain ⟨r,k,items,rfl,hr,hk1,t1,i1⟩:=tup _ z hz'
    have hln:(ps.map Value.ref).length = ks.length:=by rw [List.length_map,hl]
    refine ⟨.ref r,H,I.kept k1,rfl,q _ r k hr hk1 fun k' hk' => ?_⟩
    obtain ⟨j,hj,rfl⟩:=List.mem_iff_getElem.mp hk'
    have:=(best_gtP ks ((ps.map Value.ref).length - 1)).2 j (by omega)
    rw [List.getD_eq_getElem?_getD,hk1,List.getD_eq_getElem?_getD,List.getElem?_eq_getElem hj] at this
    exact this
theorem s_maxPr {p:Addr} {ps:List Addr} {ks:List (Int × Int)} {H:Hp} {Q:VK} (e:rdL H p = some (ps.map V.ref)) (hl:ps.length = ks.length) (hk:∀ (i:Nat) r k,ps[i]? = some r → ks[i]? = some k → H r = some (.tup [.int k.1,.int k.2])) (hn:0 < ps.length)
    (h:∀ (i:Nat) r k,ps[i]? = some r → ks[i]? = some k → (∀ k' ∈ ks,¬ ltPr k k') → Q (.ref r) H):mMaxPr [.ref p] H Q:=⟨p,ps,ks,rfl,e,hl,hk,hn,h⟩
end
end L2
namespace Mine
open PySem L2
local macro_rules | `(tactic| walk_at "rd") => `(tactic| first | assumption | exact rdL_same | exact mutL_same | exact tupL_same | exact rdL_of (by assumption) | exact mutL_of (by assumption) | (apply rdL_keep (same_upd (by assumption) _); walk_at "rd"))
local macro_rules | `(tactic| walk_at "lo") => `(tactic| first | assumption | decide | omega | (simp only [List.length_map,List.length_append,List.length_cons,List.length_nil,Str.length_append]; omega))
local macro_rules | `(tactic| walk_at "ln") => `(tactic| first | assumption | decide | exact len_line (by walk_at "lo") | exact lt_line (by walk_at "lo"))
local macro_rules | `(tactic| walk_at "ar") => `(tactic| first | assumption | decide | omega | exact ⟨by omega,by omega⟩ | exact Or.inl ⟨by omega,by omega⟩ | exact Or.inr ⟨by omega,by omega⟩ | (dsimp only; done) | (dsimp only; omega))
local macro_rules | `(tactic| walk_at "s") => `(tactic| first
  | (with_reducible first | refine s_seq ?_ | refine s_next ?_ | refine s_if ?_ | refine s_ret ?_ | refine s_drop ?_ | refine s_asg ?_ | refine s_for ?_ | refine s_gname ?_ | refine s_gsub ?_)
  | ((with_reducible refine' s_var ?sv ?_); (case sv => exact rfl))
  | (with_reducible first | refine s_c ?_ | refine s_op ?_ | refine s_un ?_ | refine s_nil ?_ | refine s_cons ?_ | refine s_call ?_ | refine s_cb ?_ | refine s_sl ?_ | refine s_nopart ?_ | refine s_part ?_ | refine s_meth ?_ | refine s_tyS ?_)
  | ((with_reducible refine' s_tyL ?se ?_); (case se => walk_at "rd"))
  | (with_reducible first | refine s_test ?_ | refine s_truth ?_ | refine s_mB ?_ | refine s_trub ?_ | refine s_and ?_ | refine s_or ?_ | refine s_not ?_ | refine s_andV ?_ | refine s_mI ?_)
  | ((with_reducible refine s_mIC ?sc ?_); (case sc => walk_at "ar"))
  | (with_reducible first | refine s_addI ?_ | refine s_eqI ?_ | refine s_neI ?_ | refine s_neS ?_ | refine s_isN ?_ | refine s_notN ?_ | refine s_inS ?_)
  | ((with_reducible refine' s_slL ?sc ?_); (case sc => walk_at "rd"))
  | ((with_reducible refine s_lenS ?sc ?_); (case sc => walk_at "ln"))
  | ((with_reducible refine' s_lenL ?sc ?_); (case sc => walk_at "rd"))
  | ((with_reducible refine' s_list ?sc ?_); (case sc => walk_at "rd"))
  | ((with_reducible refine' s_isi ?se ?se2 ?_); (case se => first | exact rfl | exact tyN_lst (by assumption) | exact tyN_dK (by assumption) | exact tyN_tup (by assumption) | exact tyN_lst upd_same | exact tyN_dK upd_same); (case se2 => first | exact (show isiT _ _ = some true from rfl) | exact (show isiT _ _ = some false from rfl) | exact rfl))
  | (with_reducible first | refine s_jStr ?_ | refine s_jRng1 ?_ | refine s_jList ?_ | refine s_onStr ?_ | refine s_onRef ?_ | refine s_onI1 ?_ | refine s_onIntP ?_)
  | ((with_reducible refine' s_onL ?se ?_); (case se => walk_at "rd"))
  | ((with_reducible refine' s_app ?se ?sl ?_); (case se => walk_at "rd"); (case sl => walk_at "ln"))
  | ((with_reducible refine' s_ext ?se ?sf ?sl ?_); (case se => walk_at "rd"); (case sf => walk_at "rd"); (case sl => walk_at "ln"))
  | (with_reducible first | refine s_jEnum ?_ | refine s_onR1 ?_ | refine s_gCons ?_ | refine s_gNil ?_)
  | ((with_reducible refine' s_gTup ?se ?sn ?_); (case se => walk_at "rd"); (case sn => exact rfl))
  | (with_reducible first | refine s_lst ?_ | refine s_tup ?_ | refine s_onI3 ?_ | refine s_dix ?_ | refine s_xinit ?_ | refine s_xfld ?_ | refine s_raiseI ?_ | refine s_jRngD ?_ | refine s_neg ?_ | refine s_comp ?_ | refine s_yes ?_ | refine iteT ?_ | refine iteF ?_ | refine iteNT ?_ | refine iteNF ?_)
  | dsimp only)
local macro_rules | `(tactic| walk_at "go") => `(tactic| repeat' (walk_at "s"))
local macro_rules | `(tactic| walk_at "gs") => `(tactic| repeat' ((fail_if_success (with_reducible refine s_seq ?_)); (walk_at "s")))
def top (i:Nat):Stmt:=PySem.Challenge.pw_flaglocker_k36_fewest_words.main.body.getD i (.Pass ⟨0,0,0,0⟩)
abbrev s_l_mixed:Stmt:=top 22
abbrev s_l_terms:Stmt:=top 23
abbrev s_l_word:Stmt:=top 24
abbrev s_l_book:Stmt:=top 25
abbrev s_l_cell_at:Stmt:=top 21
abbrev s_l_good_book:Stmt:=top 26
abbrev s_l_rest:Stmt:=top 27
abbrev s_l_table:Stmt:=top 28
abbrev s_l_due:Stmt:=top 29
abbrev s_is_term:Stmt:=top 8
abbrev s_is_row_of_terms:Stmt:=top 9
abbrev s_terms_of:Stmt:=top 13
abbrev s_meanings_of:Stmt:=top 14
abbrev s_standing_at:Stmt:=top 15
abbrev s_least_numbers:Stmt:=top 16
abbrev s_longest_on:Stmt:=top 18
abbrev s_cut_text:Stmt:=top 19
abbrev s_NoWord_init:Stmt:=clsAt (top 4) 0
abbrev s_text_said:Stmt:=top 10
abbrev s_law:Stmt:=top 30
structure Gs (K:PySem.W.Frag) (mg:Str → Option Value) (aNoWord aTowerError:Addr):Prop where
  c_NoWord:mg "NoWord" = some (.ref aNoWord)
  c_TowerError:mg "TowerError" = some (.ref aTowerError)
  t1_TowerError:PySem.W.specialIn K (.ref aTowerError) "__getattribute__" = some (some (.builtin "type.__getattribute__"))
  t2_TowerError:PySem.W.readsIn K aTowerError (.type "type") = true
  t3_TowerError:PySem.W.findCls K (.ref aTowerError) (.type "type") "__init__" = some (.val (.builtin "ValueError.__init__"))
  xo_NoWord:excJ K aNoWord [.type "ValueError",.type "Exception",.type "BaseException",.type "object"] "ValueError.__new__" = true
  xk_NoWord:PySem.W.keepIn K (.ref aNoWord) = true
  xe1_NoWord:PySem.W.hasDictIn K aNoWord = true
  xe2_NoWord:PySem.W.findIn K (.ref aNoWord) "__getattribute__" = some (some (.builtin "BaseException.__getattribute__"))
  xe3_NoWord:PySem.W.findIn K (.ref aNoWord) "__getattr__" = some none
  xe4_NoWord:PySem.W.findIn K (.ref aNoWord) "__class__" = some (some (.builtin "object.__class__"))
  xe5_NoWord:PySem.W.specialIn K (.builtin "object.__class__") "__get__" = some (some (.builtin "getset_descriptor.__get__"))
  xe6_NoWord:PySem.W.takesIn K (.builtin "object.__class__") = some true
  xe7_NoWord:PySem.W.mroIn K aNoWord (.type "object") = some true
  xe8_NoWord:PySem.W.subIn K (.ref aNoWord) (.type "BaseException") = some true
  xs_NoWord:PySem.W.findIn K (.ref aNoWord) "__setattr__" = some (some (.builtin "object.__setattr__"))
  xr_NoWord:mroB K aNoWord aTowerError = true
  xv_NoWord:PySem.W.subIn K (.ref aNoWord) (.type "ValueError") = some true
  xn_NoWord_at:PySem.W.findIn K (.ref aNoWord) "at" = some none
  b_range:mg "range" = none
  b_len:mg "len" = none
  b_enumerate:mg "enumerate" = none
  b_reversed:mg "reversed" = none
  b_max:mg "max" = none
  b_all:mg "all" = none
  b_min:mg "min" = none
  b_dict:mg "dict" = none
  b_list:mg "list" = none
  b_isinstance:mg "isinstance" = none
  b_bool:mg "bool" = none
  b_int:mg "int" = none
  s_LONGEST_TERM:∃ t,mg "LONGEST_TERM" = some (.int 10 t)
  s_TERM_LETTERS:∃ t,mg "TERM_LETTERS" = some (.str "abcdefghijklmnopqrstuvwxyz" t)
  s_MOST_TERMS:∃ t,mg "MOST_TERMS" = some (.int 40 t)
theorem Gs.xx_NoWord {K:PySem.W.Frag} {mg:Str → Option Value} {aNoWord aTowerError:Addr} (G:Gs K mg aNoWord aTowerError):ExK K aNoWord:=⟨G.xe1_NoWord,G.xe2_NoWord,G.xe3_NoWord,G.xe4_NoWord,G.xe5_NoWord,G.xe6_NoWord,G.xe7_NoWord,G.xe8_NoWord⟩
theorem Gs.xc_NoWord {K:PySem.W.Frag} {mg:Str → Option Value} {aNoWord aTowerError:Addr} (G:Gs K mg aNoWord aTowerError):XcK K aNoWord aTowerError:=⟨G.xx_NoWord,G.xs_NoWord,mroL_of G.xr_NoWord,G.xv_NoWord⟩
theorem Gs.xm_NoWord {K:PySem.W.Frag} {mg:Str → Option Value} {aNoWord aTowerError:Addr} (G:Gs K mg aNoWord aTowerError):XmK K aNoWord:=⟨G.xo_NoWord,G.xk_NoWord⟩
abbrev lettersT:Str := "abcdefghijklmnopqrstuvw"
abbrev one (c:Nat):Str:=⟨#[c]⟩
def isLet (c:Nat):Prop:=97 ≤ c ∧ c ≤ 119
def isSub (c:Nat):Prop:=49 ≤ c ∧ c ≤ 52
instance (c:Nat):Decidable (isLet c):=inferInstanceAs (Decidable (_ ∧ _))
instance (c:Nat):Decidable (isSub c):=inferInstanceAs (Decidable (_ ∧ _))
def standC (c:Nat) (p:Int):Prop:=isLet c ∨ (isSub c ∧ (c:Int) - 48 < p)
instance (c:Nat) (p:Int):Decidable (standC c p):=inferInstanceAs (Decidable (_ ∨ _))
def strC (cs:List Nat):Str:=⟨cs.toArray⟩
theorem strC_len (cs:List Nat):(strC cs).length = cs.length:=by show cs.toArray.size = _; simp
theorem strC_list (cs:List Nat):(strC cs).cps.toList = cs:=rfl
theorem strC_inj {a b:List Nat} (h:strC a = strC b):a = b:=congrArg (fun z:Str => z.cps.toList) h
theorem fm_some {α β:Type} (f:α → β):∀ l:List α,l.filterMap (fun x => some (f x)) = l.map f
  | [] => rfl
  | x :: r => by rw [List.filterMap_cons_some (f:=fun x => some (f x)) (b:=f x) rfl,List.map_cons,fm_some f r]
theorem at_lets {k:Nat} (h:k < 23):atI lettersT.cps.toList ((k:Nat):Int) = some (97 + k):=by
  refine atI_nat ?_
  have q:∀ k:_root_.Fin 23,lettersT.cps.toList[k.val]? = some (97 + k.val):=by decide +kernel
  exact q ⟨k,h⟩
theorem cut_take {xs:List V} {k:Int} (h:0 ≤ k):cutV xs none (some k) = xs.take k.toNat:=by
  unfold cutV
  show (xs.drop 0).take ((if k < 0 then (k + (xs.length:Int)).toNat else min k.toNat xs.length) - 0) = _
  rw [if_neg (by omega),List.drop_zero,Nat.sub_zero]
  by_cases hk:k.toNat ≤ xs.length
  · rw [Nat.min_eq_left hk]
  · rw [Nat.min_eq_right (by omega),List.take_of_length_le (Nat.le_refl _),List.take_of_length_le (by omega)]
theorem join_ones (cs:List Nat):Txt.join (Str.ofString "") (cs.map one) = strC cs:=by
  refine FlT.str_ext ?_
  rw [show Str.ofString "" = ⟨#[]⟩ from rfl,FlT.join_cps,strC_list]
  induction cs with
  | nil => rfl
  | cons c r ih => rw [List.map_cons,List.map_cons,List.flatten_cons,ih]; rfl
theorem ones_sum (cs:List Nat):((cs.map one).map (·.length)).sum = cs.length:=by
  induction cs with
  | nil => rfl
  | cons m r ih => rw [List.map_cons,List.map_cons,List.sum_cons,ih,List.length_cons]; show 1 + r.length = _; omega
theorem get_int {ns:List Int} {i:Int} (h0:0 ≤ i) (h:i < ns.length):∃ n,n ∈ ns ∧ atI (ns.map V.int) i = some (.int n):=by
  obtain ⟨v,h1,h2⟩:=atI_lt (xs:=ns.map V.int) (i:=i) h0 (by rw [List.length_map]; exact h)
  rw [List.getElem?_map,List.getElem?_eq_getElem (by omega)] at h2
  cases h2
  exact ⟨_,List.getElem_mem _,h1⟩
theorem of_map_int {ns:List Int} {j:Nat} {x:V} (h:(ns.map V.int)[j]? = some x):∃ n,n ∈ ns ∧ x = V.int n:=by
  obtain ⟨n,hn,e⟩:=List.mem_map.mp (List.mem_of_getElem? h)
  exact ⟨n,hn,e.symm⟩
theorem of_map_str {ns:List Str} {j:Nat} {x:V} (h:(ns.map V.str)[j]? = some x):∃ n,ns[j]? = some n ∧ x = V.str n:=by
  rw [List.getElem?_map] at h
  cases e:ns[j]? with
  | none => rw [e] at h; cases h
  | some n => rw [e] at h; cases h; exact ⟨n,rfl,rfl⟩
theorem allFlat_str (zs:List Str):(zs.map V.str).all flatV = true:=by
  rw [List.all_eq_true]
  intro x hx
  obtain ⟨z,_,rfl⟩:=List.mem_map.mp hx
  rfl
def isTm (c:Nat):Prop:=97 ≤ c ∧ c ≤ 122
def TermC (t:List Nat):Prop:=1 ≤ t.length ∧ t.length ≤ 10 ∧ ∀ c ∈ t,isTm c
abbrev tmsT:Str := "abcdefghijklmnopqrstuvwxyz"
theorem at_tms {k:Nat} (h:k < 26):atI tmsT.cps.toList ((k:Nat):Int) = some (97 + k):=by
  refine atI_nat ?_
  have q:∀ k:_root_.Fin 26,tmsT.cps.toList[k.val]? = some (97 + k.val):=by decide +kernel
  exact q ⟨k,h⟩
def midC (bs:List Nat) (m k:Nat):List Nat:=bs.take m ++ [97 + k % 23] ++ bs.drop m
def wordC (bs:List Nat) (m k:Nat):List Nat:=if 23 ≤ k ∨ bs.length < 2 then (97 + k / 23) :: midC bs m k else midC bs m k
theorem mid_len {bs:List Nat} {m k:Nat} (h:m ≤ bs.length):(midC bs m k).length = bs.length + 1:=by
  unfold midC
  rw [List.length_append,List.length_append,List.length_take,List.length_drop]
  show _ + 1 + _ = _
  omega
theorem mid_inj {bs:List Nat} {m k j:Nat} (h:m ≤ bs.length) (e:midC bs m k = midC bs m j):k % 23 = j % 23:=by
  have g:∀ i,(midC bs m i)[m]? = some (97 + i % 23):=fun i => by
    unfold midC
    rw [List.append_assoc,List.getElem?_append_right (by rw [List.length_take]; omega),List.length_take,Nat.min_eq_left h,Nat.sub_self]
    rfl
  have q:=g k
  rw [e,g j] at q
  injection q with q
  omega
theorem word_inj {bs:List Nat} {m k j:Nat} (h:m ≤ bs.length) (e:wordC bs m k = wordC bs m j):k = j:=by
  unfold wordC at e
  by_cases h1:23 ≤ k ∨ bs.length < 2 <;> by_cases h2:23 ≤ j ∨ bs.length < 2
  · rw [if_pos h1,if_pos h2] at e
    injection e with e1 e2
    have:=mid_inj h e2
    omega
  · rw [if_pos h1,if_neg h2] at e
    have:=congrArg List.length e
    rw [List.length_cons,mid_len h,mid_len h] at this
    omega
  · rw [if_neg h1,if_pos h2] at e
    have:=congrArg List.length e
    rw [List.length_cons,mid_len h,mid_len h] at this
    omega
  · rw [if_neg h1,if_neg h2] at e
    have:=mid_inj h e
    omega
theorem word_ok {bs:List Nat} {m k:Nat} (h:m ≤ bs.length) (h4:bs.length ≤ 4) (hL:∀ d ∈ bs,isLet d) (hk:k < 100):1 ≤ (wordC bs m k).length ∧ (wordC bs m k).length ≤ 6 ∧ ∀ d ∈ wordC bs m k,isLet d:=by
  have hm:∀ d ∈ midC bs m k,isLet d:=fun d hd => by
    unfold midC at hd
    rcases List.mem_append.mp hd with hd | hd
    · rcases List.mem_append.mp hd with hd | hd
      · exact hL d (List.mem_of_mem_take hd)
      · rw [List.mem_singleton.mp hd]; exact ⟨by omega,by omega⟩
    · exact hL d (List.mem_of_mem_drop hd)
  have hl:=mid_len (k:=k) h
  unfold wordC
  split
  · rw [List.length_cons]
    refine ⟨by omega,by omega,fun d hd => ?_⟩
    rcases List.mem_cons.mp hd with z | z
    · rw [z]; exact ⟨by omega,by omega⟩
    · exact hm d z
  · exact ⟨by omega,by omega,hm⟩
def codeI (n:Int):Nat:=97 + n.toNat
def BkAt (H:Hp) (r:Addr) (bk:List (Str × Str)):Prop:=∃ ps:List Addr,H r = some (.lst (ps.map V.ref)) ∧ ps.length = bk.length ∧ ∀ (j:Nat) p b,ps[j]? = some p → bk[j]? = some b → H p = some (.tup [.str b.1,.str b.2])
theorem BkAt.keep {H H':Hp} {r:Addr} {bk:List (Str × Str)} (h:BkAt H r bk) (s:Same H H'):BkAt H' r bk:=by
  obtain ⟨ps,h1,h2,h3⟩:=h
  exact ⟨ps,s _ _ h1,h2,fun j p b hp hb => s _ _ (h3 j p b hp hb)⟩
def meanC (ts:List (List Nat)):Str:=Txt.join " " (ts.map strC)
structure GoodBk (bk:List (Str × Str)):Prop where
  le:bk.length ≤ 60
  words:(bk.map (·.1)).Nodup
  means:(bk.map (·.2)).Nodup
  word:∀ b ∈ bk,∃ cw:List Nat,b.1 = strC cw ∧ 1 ≤ cw.length ∧ cw.length ≤ 6 ∧ ∀ d ∈ cw,isLet d
  mean:∀ b ∈ bk,∃ ts:List (List Nat),b.2 = meanC ts ∧ 1 ≤ ts.length ∧ ts.length ≤ 5 ∧ ∀ t ∈ ts,TermC t
theorem sum_terms:∀ ts:List (List Nat),(∀ t ∈ ts,TermC t) → ((ts.map strC).map (·.length)).sum ≤ 10 * ts.length
  | [],_ => Nat.le_refl _
  | t :: r,h => by
    rw [List.map_cons,List.map_cons,List.sum_cons,List.length_cons,strC_len]
    have h1:=(h t List.mem_cons_self).2.1
    have:=sum_terms r fun x hx => h x (List.mem_cons_of_mem _ hx)
    omega
theorem cutV_drop {xs:List V} {k:Int} (h:0 ≤ k):cutV xs (some k) none = xs.drop k.toNat:=by
  unfold cutV
  show (xs.drop (if k < 0 then (k + (xs.length:Int)).toNat else min k.toNat xs.length)).take (xs.length - (if k < 0 then (k + (xs.length:Int)).toNat else min k.toNat xs.length)) = _
  rw [if_neg (by omega)]
  by_cases hk:k.toNat ≤ xs.length
  · rw [Nat.min_eq_left hk,List.take_of_length_le (by rw [List.length_drop]; omega)]
  · rw [Nat.min_eq_right (by omega),List.drop_eq_nil_of_le (by omega),List.drop_eq_nil_of_le (by omega),List.take_nil]
def sp_law (K:PySem.W.Frag) (Pt:Addr):Sp:=fun vs H Q _ => ∃ (a:Addr) (ns:List Int),vs = [.ref a] ∧ SqL K H a (ns.map V.int) ∧ ns.length ≤ 63 ∧ H Pt = some (.tbl #[]) ∧ ∀ H',Q (.bl true) H'
section
variable {P:Program} {w:World} {K:PySem.W.Frag} {mg:Str → Option Value} {base:Heap}
def sp_l_cell_at (K:PySem.W.Frag):Sp:=fun vs H Q _ => ∃ (a:Addr) (ns:List Int) (k:Int),vs = [.ref a,.int k] ∧ SqL K H a (ns.map V.int) ∧ 0 ≤ k ∧ ∀ n:Int,Q (.int n) H
theorem sc_l_cell_at:FnScope ["_law_script", "_law_k"] ["_law_script", "_law_k"] (defScope s_l_cell_at):=⟨rfl,rfl,rfl,by decide +kernel,rfl,by decide +kernel,by decide +kernel⟩
theorem ok_l_cell_at {aNoWord aTowerError:Addr} {f:Addr} {fd:FuncData} (F:Fun K "_law_cell_at" "_law_cell_at" s_l_cell_at f fd) (G:Gs K mg aNoWord aTowerError)  : FnOk P w K mg base CX0 1 f fd ["_law_script", "_law_k"] (sp_l_cell_at K):=by
  refine F.ok sc_l_cell_at (fun vs H Q E h => ?_) (fun cdv A outer s H vs Q E hr h => ?_)
  · obtain ⟨a,ns,k,rfl,_⟩:=h; rfl
  obtain ⟨a,ns,k,rfl,hS,h0,q⟩:=h
  refine ⟨_,(@pss_cons _ _ _ _ _ (ps_if (mt_cmp m_lt (mv 1) (pe_callB call_len_seq rfl G.b_len bt_len (pa_cons (mv 0) pa_nil)) (nomark _)) (@pss_one _ _ _ (ps_ret (pe_ix ix_list (mv 0) (mv 1) (fun _ _ => rfl)))) pss_nil) (@pss_one _ _ _ (ps_ret pe_int))),?_⟩
  walk_at "go"
  refine ⟨_,_,rfl,.inl hS,?_⟩
  have hnl:(ns.map V.int).length = ns.length:=List.length_map ..
  rw [hnl]
  walk_at "go"
  refine ite2 (fun hd => ?_) (fun hd => ?_)
  · have hd':=of_decide_eq_true hd
    obtain ⟨n,_,an⟩:=get_int (ns:=ns) (i:=k) h0 hd'
    walk_at "go"
    exact s_ixK hS an (q n)
  · walk_at "go"
    exact q 0
def sp_l_mixed:Sp:=fun vs H Q _ => ∃ c k:Int,vs = [.int c,.int k] ∧ 0 ≤ k ∧ k ≤ 1000 ∧ ∀ n:Int,0 ≤ n → Q (.int n) H
theorem sc_l_mixed:FnScope ["_law_cell", "_law_k"] ["_law_cell", "_law_k"] (defScope s_l_mixed):=⟨rfl,rfl,rfl,by decide +kernel,rfl,by decide +kernel,by decide +kernel⟩
theorem ok_l_mixed {aNoWord aTowerError:Addr} {f:Addr} {fd:FuncData} (F:Fun K "_law_mixed" "_law_mixed" s_l_mixed f fd) (G:Gs K mg aNoWord aTowerError)  : FnOk P w K mg base CX0 1 f fd ["_law_cell", "_law_k"] sp_l_mixed:=by
  refine F.ok sc_l_mixed (fun vs H Q E h => ?_) (fun cdv A outer s H vs Q E hr h => ?_)
  · obtain ⟨c,k,rfl,_⟩:=h; rfl
  obtain ⟨c,k,rfl,h0,h1,q⟩:=h
  refine ⟨_,(@pss_one _ _ _ (ps_ret (pe_op m_mod (pe_op m_mul (pe_op m_add (pe_op m_mod (mv 0) (pe_op m_pow pe_int pe_int)) pe_int) (pe_op m_add pe_int (pe_op m_mul (pe_op m_mul pe_int (mv 1)) (mv 1)))) pe_int))),?_⟩
  walk_at "go"
  refine s_pow ?_
  have m0:=Int.emod_nonneg c (show (1000000000000000000:Int) ≠ 0 by decide)
  have m1:=Int.emod_lt_of_pos c (show (0:Int) < 1000000000000000000 by decide)
  walk_at "go"
  exact q _ (Int.emod_nonneg _ (by decide))
def bsI (c:Int):List Int:=(List.range (c % 5).toNat).map fun j:Nat => (c / ((0:Int) + (j:Int) + 1) + (0 + (j:Int)) * (0 + (j:Int))) % 23
def bsC (c:Int):List Nat:=(bsI c).map codeI
def mC (c:Int):Nat:=(c / 5 % (((bsI c).length:Int) + 1)).toNat
theorem bsI_len (c:Int):(bsI c).length = (c % 5).toNat:=by unfold bsI; rw [List.length_map,List.length_range]
theorem bsC_len (c:Int):(bsC c).length = (c % 5).toNat:=by unfold bsC; rw [List.length_map,bsI_len]
theorem bsI_ok {c n:Int} (h:n ∈ bsI c):0 ≤ n ∧ n < 23:=by
  obtain ⟨j,_,rfl⟩:=List.mem_map.mp h
  exact ⟨Int.emod_nonneg _ (by decide),Int.emod_lt_of_pos _ (by decide)⟩
theorem bsC_let (c:Int):∀ d ∈ bsC c,isLet d:=fun d hd => by
  obtain ⟨n,hn,rfl⟩:=List.mem_map.mp hd
  have:=bsI_ok hn
  unfold codeI
  exact ⟨by omega,by omega⟩
theorem mC_le (c:Int):mC c ≤ (bsC c).length:=by
  have h1:=Int.emod_lt_of_pos (c / 5) (show (0:Int) < ((bsI c).length:Int) + 1 by omega)
  have h2:=bsI_len c
  have h3:=bsC_len c
  unfold mC
  omega
def sp_l_word:Sp:=fun vs H Q _ => ∃ (c:Int) (k:Nat),vs = [.int c,.int (k:Int)] ∧ 0 ≤ c ∧ k < 100 ∧ ∀ H',Same H H' → Q (.str (strC (wordC (bsC c) (mC c) k))) H'
theorem sc_l_word:FnScope ["_law_cell", "_law_k", "_law_letters", "_law_base", "_law_at", "_law_some"] ["_law_cell", "_law_k"] (defScope s_l_word):=⟨rfl,rfl,rfl,by decide +kernel,rfl,by decide +kernel,by decide +kernel⟩
theorem ok_l_word {aNoWord aTowerError:Addr} {f:Addr} {fd:FuncData} (F:Fun K "_law_word" "_law_word" s_l_word f fd) (G:Gs K mg aNoWord aTowerError)  : FnOk P w K mg base CX0 1 f fd ["_law_cell", "_law_k"] sp_l_word:=by
  refine F.ok sc_l_word (fun vs H Q E h => ?_) (fun cdv A outer s H vs Q E hr h => ?_)
  · obtain ⟨c,k,rfl,_⟩:=h; rfl
  obtain ⟨c,k,rfl,h0,hk,q⟩:=h
  refine ⟨_,(@pss_cons _ _ _ _ _ (@ps_set _ _ 2 _ _ _ _ sc_l_word.nd (by rfl) (by exact (Or.inr rfl)) pe_str (by rfl) (by first | exact Or.inl rfl | exact Or.inr rfl)) (@pss_cons _ _ _ _ _ (ps_setC (i:=3) sc_l_word.nd rfl (Or.inl rfl) rfl (pj_range1 rfl G.b_range (pa_cons (pe_op m_mod (mv 0) pe_int) pa_nil)) (clOkF (N:=["_law_j", "_law_cell"]) ["_law_cell", "_law_k", "_law_letters", "_law_base", "_law_at", "_law_some"] (defScope s_l_word) [none,some 0] rfl rfl rfl (fun x h => cell_has h) (by decide +kernel)) (by decide +kernel) rfl (by decide +kernel) (fun C s₀ H₀ ex => (pg_name (i:=0) (show List.Nodup (["_law_j", "_law_cell"]:List Str) by decide +kernel) rfl (Or.inl rfl))) (fun C s₀ H₀ ex => pf_nil) (fun C s₀ H₀ ex => (pe_op m_mod (pe_op m_add (pe_op m_fdiv (mv 1) (pe_op m_add (mv 0) pe_int)) (pe_op m_mul (mv 0) (mv 0))) pe_int))) (@pss_cons _ _ _ _ _ (@ps_set _ _ 4 _ _ _ _ sc_l_word.nd (by rfl) (by exact (Or.inl rfl)) (pe_op m_mod (pe_op m_fdiv (mv 0) pe_int) (pe_op m_add (pe_callB m_len rfl G.b_len bt_len (pa_cons (mv 3) pa_nil)) pe_int)) (by rfl) (by first | exact Or.inl rfl | exact Or.inr rfl)) (@pss_cons _ _ _ _ _ (@ps_set _ _ 5 _ _ _ _ sc_l_word.nd (by rfl) (by exact (Or.inl rfl)) (pe_op m_add (pe_op m_add (pe_slice m_sl (mv 3) po_none (mo_some (mv 4))) (pe_lst (pa_cons (pe_op m_mod (mv 1) pe_int) pa_nil))) (pe_slice m_sl (mv 3) (mo_some (mv 4)) po_none)) (by rfl) (by first | exact Or.inl rfl | exact Or.inr rfl)) (@pss_cons _ _ _ _ _ (ps_if (PW.pt (pw_or (mt_cmp m_ge (mv 1) pe_int (nomark _)) (pw_or1 (mt_cmp m_lt (pe_op m_mod (mv 0) pe_int) pe_int (nomark _))))) (@pss_one _ _ _ (@ps_set _ _ 5 _ _ _ _ sc_l_word.nd (by rfl) (by exact (Or.inl rfl)) (pe_op m_add (pe_lst (pa_cons (pe_op m_fdiv (mv 1) pe_int) pa_nil)) (pe_slice m_sl (mv 5) po_none (mo_some pe_int))) (by rfl) (by first | exact Or.inl rfl | exact Or.inr rfl))) pss_nil) (@pss_one _ _ _ (ps_ret (me_meth PySem.F.plainAttrs_str PySem.F.slot_str_join PySem.F.type_str_join m_join pe_str (pa_cons (pe_comp rfl (pj_list (pe_slice m_sl (mv 5) po_none (mo_some pe_int))) (clOkF (N:=["_law_number", "_law_letters"]) ["_law_cell", "_law_k", "_law_letters", "_law_base", "_law_at", "_law_some"] (defScope s_l_word) [none,some 2] rfl rfl rfl (fun x h => cell_has h) (by decide +kernel)) (by decide +kernel) rfl (by decide +kernel) (fun C s₀ H₀ ex => (pg_name (i:=0) (show List.Nodup (["_law_number", "_law_letters"]:List Str) by decide +kernel) rfl (Or.inl rfl))) (fun C s₀ H₀ ex => pf_nil) (fun C s₀ H₀ ex => (pe_ix m_ix (mv 1) (mv 0) (fun _ _ => rfl)))) pa_nil))))))))),?_⟩
  have c0:=Int.emod_nonneg c (show (5:Int) ≠ 0 by decide)
  have c1:=Int.emod_lt_of_pos c (show (0:Int) < 5 by decide)
  walk_at "go"
  refine ⟨⟨by omega,by omega⟩,?_⟩
  refine cw_rangeF (fun j:Nat => some (V.int ((c / ((0:Int) + (j:Int) + 1) + (0 + (j:Int)) * (0 + (j:Int))) % 23))) (lt_line (by omega)) (fun i Hc A B hi sm hA => ?_) (fun D Hd hD sD hd => ?_)
  · walk_at "go"
    refine ⟨Wk.set rfl (Wk.refl _),?_⟩
    walk_at "go"
    exact hA _ (Same.refl _)
  · rw [fm_some (fun j:Nat => V.int ((c / ((0:Int) + (j:Int) + 1) + (0 + (j:Int)) * (0 + (j:Int))) % 23))] at hd
    have eb:(List.range (c % 5).toNat).map (fun j:Nat => V.int ((c / ((0:Int) + (j:Int) + 1) + (0 + (j:Int)) * (0 + (j:Int))) % 23)) = (bsI c).map V.int:=by unfold bsI; rw [List.map_map]; rfl
    rw [eb] at hd
    have hb4:(bsI c).length ≤ 4:=by rw [bsI_len]; omega
    clear c0 c1
    have hlen:((bsI c).map V.int).length = (bsI c).length:=List.length_map ..
    have rD:=rdL_of hd
    walk_at "go"
    rw [hlen]
    have em:c / 5 % (((bsI c).length:Int) + 1) = ((mC c:Nat):Int):=by
      have:=Int.emod_nonneg (c / 5) (show (((bsI c).length:Int) + 1) ≠ 0 by omega)
      unfold mC
      omega
    rw [em]
    have hml:mC c ≤ (bsI c).length:=by have:=mC_le c; rw [bsC_len,← bsI_len] at this; exact this
    intro r hr
    rw [cut_take (by omega),show ((mC c:Nat):Int).toNat = mC c from rfl,← List.map_take]
    have lt:(((bsI c).take (mC c)).map V.int).length ≤ 4:=by rw [List.length_map,List.length_take]; omega
    have ld:(((bsI c).drop (mC c)).map V.int).length ≤ 4:=by rw [List.length_map,List.length_drop]; omega
    have sa:=same_upd hr (.lst (((bsI c).take (mC c)).map V.int))
    have ea:(upd Hd r (.lst (((bsI c).take (mC c)).map V.int))) r = _:=upd_same
    generalize upd Hd r (.lst (((bsI c).take (mC c)).map V.int)) = Ha at sa ea ⊢
    walk_at "go"
    refine ⟨by show 1 ≤ sizeLine; decide,fun p hp => ?_⟩
    have np:r ≠ p:=ne_of_none ea hp
    refine s_addL (xs:=((bsI c).take (mC c)).map V.int) (ys:=[V.int ((k:Int) % 23)]) (by rw [mutL_ne np]; exact mutL_of ea) mutL_same (len_line (by show _ + 1 ≤ _; omega)) fun l hl => ?_
    have sb:=sa.trans ((same_upd hp (.lst [V.int ((k:Int) % 23)])).trans (same_upd hl (.lst (((bsI c).take (mC c)).map V.int ++ [V.int ((k:Int) % 23)]))))
    have eb:(upd (upd Ha p (.lst [V.int ((k:Int) % 23)])) l (.lst (((bsI c).take (mC c)).map V.int ++ [V.int ((k:Int) % 23)]))) l = _:=upd_same
    generalize upd (upd Ha p (.lst [V.int ((k:Int) % 23)])) l (.lst (((bsI c).take (mC c)).map V.int ++ [V.int ((k:Int) % 23)])) = Hb at sb eb ⊢
    have rb:=rdL_keep sb rD
    walk_at "go"
    intro t ht
    rw [cutV_drop (by omega),show ((mC c:Nat):Int).toNat = mC c from rfl,← List.map_drop]
    have nt:l ≠ t:=ne_of_none eb ht
    refine s_addL (xs:=((bsI c).take (mC c)).map V.int ++ [V.int ((k:Int) % 23)]) (ys:=((bsI c).drop (mC c)).map V.int) (by rw [mutL_ne nt]; exact mutL_of eb) mutL_same (len_line (by rw [List.length_append]; show _ + 1 + _ ≤ _; omega)) fun g hg => ?_
    have eL:((bsI c).take (mC c)).map V.int ++ [V.int ((k:Int) % 23)] ++ ((bsI c).drop (mC c)).map V.int = ((bsI c).take (mC c) ++ [(k:Int) % 23] ++ (bsI c).drop (mC c)).map V.int:=by rw [List.map_append,List.map_append]; rfl
    rw [eL]
    have hML:((bsI c).take (mC c) ++ [(k:Int) % 23] ++ (bsI c).drop (mC c)).map codeI = midC (bsC c) (mC c) k:=by
      unfold midC bsC codeI
      rw [List.map_append,List.map_append,List.map_take,List.map_drop,List.map_cons,List.map_nil,show ((k:Int) % 23).toNat = k % 23 by omega]
    have hMn:∀ n ∈ (bsI c).take (mC c) ++ [(k:Int) % 23] ++ (bsI c).drop (mC c),0 ≤ n ∧ n < 23:=fun n hn => by
      rcases List.mem_append.mp hn with z | z
      · rcases List.mem_append.mp z with z | z
        · exact bsI_ok (List.mem_of_mem_take z)
        · rw [List.mem_singleton.mp z]; omega
      · exact bsI_ok (List.mem_of_mem_drop z)
    have hMl:((bsI c).take (mC c) ++ [(k:Int) % 23] ++ (bsI c).drop (mC c)).length = (bsI c).length + 1:=by
      rw [List.length_append,List.length_append,List.length_take,List.length_drop]
      show _ + 1 + _ = _
      omega
    generalize ((bsI c).take (mC c) ++ [(k:Int) % 23] ++ (bsI c).drop (mC c)) = M at hML hMn hMl ⊢
    have sc:=sb.trans ((same_upd ht (.lst (((bsI c).drop (mC c)).map V.int))).trans (same_upd hg (.lst (M.map V.int))))
    have ec:(upd (upd Hb t (.lst (((bsI c).drop (mC c)).map V.int))) g (.lst (M.map V.int))) g = _:=upd_same
    generalize upd (upd Hb t (.lst (((bsI c).drop (mC c)).map V.int))) g (.lst (M.map V.int)) = H1 at sc ec ⊢
    have sc1:=sD.trans sc
    refine s_gname ?_
    refine s_seqJ (fun σ' H' => ∃ (x:Addr) (L:List Int),σ' = [some (.int c),some (.int (k:Int)),some (.str (Str.ofString "abcdefghijklmnopqrstuvw")),some (.ref D),some (.int (mC c:Nat)),some (.ref x)] ∧ Same H H' ∧ H' x = some (.lst (L.map V.int)) ∧ L.length ≤ 6 ∧ (∀ n ∈ L,0 ≤ n ∧ n < 23) ∧ L.map codeI = wordC (bsC c) (mC c) k) ?_ ?_
    · rintro σ' H2 ⟨x,L,rfl,s2,e2,hl6,hLn,hLw⟩
      have r2:=rdL_of e2
      walk_at "go"
      intro y hy
      rw [cut_take (by omega),show (6:Int).toNat = 6 from rfl,List.take_of_length_le (by rw [List.length_map]; exact hl6)]
      have s3:=same_upd hy (.lst (L.map V.int))
      have r3:rdL (upd H2 y (.lst (L.map V.int))) y = some (L.map V.int):=rdL_same
      generalize upd H2 y (.lst (L.map V.int)) = H3 at s3 r3 ⊢
      walk_at "go"
      refine cw_list (xs:=L.map V.int) (fun x => match x with | .int n => some (.str (one (codeI n))) | _ => none) r3 (by rw [List.length_map]; exact lt_line (by omega)) (fun i x Hc A B hx hk hA => ?_) (fun D2 hD2 => ?_)
      · obtain ⟨n,hn,rfl⟩:=of_map_int hx
        have hn2:=hLn n hn
        walk_at "go"
        refine ⟨Wk.set rfl (Wk.refl _),?_⟩
        walk_at "go"
        have e1:=at_lets (k:=n.toNat) (by omega)
        rw [show ((n.toNat:Nat):Int) = n by omega] at e1
        refine s_ixS (by decide) e1 ?_
        exact hA
      · have e:(L.map V.int).filterMap (fun x => match x with | .int n => some (V.str (one (codeI n))) | _ => none) = ((L.map codeI).map one).map V.str:=by
          rw [List.filterMap_map,List.map_map,List.map_map]
          exact fm_some (fun n:Int => V.str (one (codeI n))) L
        rw [e]
        walk_at "go"
        refine s_join (ss:=(L.map codeI).map one) rdL_same (by rw [ones_sum,List.length_map,List.length_map,show (Str.ofString "").length = 0 from rfl]; omega) ?_
        rw [join_ones,hLw]
        exact q _ (s2.trans (s3.trans (same_upd hD2 _)))
    · intro N hN
      have r1:=rdL_of ec
      have cons_case:(23 ≤ k ∨ (bsC c).length < 2) → ∀ (Z:St → Hp → Prop),True:=fun _ _ => trivial
      have app:∀ (hcond:23 ≤ k ∨ (bsC c).length < 2),tAsg (tOp mAdd (tLst (tCons (tOp (mIC CDiv fun i j => V.int (i / j)) (mVar 1) (tC (V.int 23))) tNil)) (tSl mSl (mVar 5) tNoPart (mPart (tC (V.int 5))))) (gName 5)
          { nx:=N,rt:=Q } [some (.int c),some (.int (k:Int)),some (.str (Str.ofString "abcdefghijklmnopqrstuvw")),some (.ref D),some (.int (mC c:Nat)),some (.ref g)] H1:=fun hcond => by
        walk_at "go"
        refine ⟨by show 1 ≤ sizeLine; decide,fun p2 hp2 => ?_⟩
        have s2:=same_upd hp2 (.lst [V.int ((k:Int) / 23)])
        have e2:(upd H1 p2 (.lst [V.int ((k:Int) / 23)])) p2 = _:=upd_same
        have r2:=rdL_keep s2 r1
        generalize upd H1 p2 (.lst [V.int ((k:Int) / 23)]) = H2 at s2 e2 r2 ⊢
        walk_at "go"
        intro y hy
        rw [cut_take (by omega),show (5:Int).toNat = 5 from rfl,List.take_of_length_le (by rw [List.length_map]; omega)]
        have ny:p2 ≠ y:=ne_of_none e2 hy
        refine s_addL (xs:=[V.int ((k:Int) / 23)]) (ys:=M.map V.int) (by rw [mutL_ne ny]; exact mutL_of e2) mutL_same (len_line (by rw [List.length_map]; show 1 + _ ≤ _; omega)) fun u hu => ?_
        walk_at "go"
        refine hN _ _ ⟨u,(k:Int) / 23 :: M,rfl,sc1.trans (s2.trans ((same_upd hy _).trans (same_upd hu _))),upd_same,by rw [List.length_cons]; omega,fun n hn => ?_,?_⟩
        · rcases List.mem_cons.mp hn with z | z
          · rw [z]; omega
          · exact hMn n z
        · unfold wordC
          rw [if_pos hcond,List.map_cons,hML]
          unfold codeI
          rw [show ((k:Int) / 23).toNat = k / 23 by omega]
      have hbl2:=bsC_len c
      walk_at "go"
      refine ite2 (fun hd => ?_) (fun hd => ?_)
      · exact app (.inl (by have:=of_decide_eq_true hd; omega))
      · have hd':=of_decide_eq_false (Bool.eq_false_iff.mpr hd)
        walk_at "go"
        refine ite2 (fun he => ?_) (fun he => ?_)
        · exact app (.inr (by have:=of_decide_eq_true he; omega))
        · have he':=of_decide_eq_false (Bool.eq_false_iff.mpr he)
          walk_at "go"
          refine hN _ _ ⟨g,M,rfl,sc1,ec,by omega,hMn,?_⟩
          unfold wordC
          rw [if_neg (by omega),hML]
theorem rep_ints (n:Nat):(List.replicate n [V.int 25]).flatten = (List.replicate n (25:Int)).map V.int:=by
  induction n with
  | zero => rfl
  | succ n ih => rw [List.replicate_succ,List.flatten_cons,ih,List.replicate_succ,List.map_cons]; rfl
def IntsOk (L:List Int):Prop:=∀ n ∈ L,0 ≤ n ∧ n < 26
theorem ints_app {L M:List Int} (h:IntsOk L) (g:IntsOk M):IntsOk (L ++ M):=fun n hn => (List.mem_append.mp hn).elim (h n) (g n)
theorem ints_take {L:List Int} (h:IntsOk L) (k:Nat):IntsOk (L.take k):=fun n hn => h n (List.mem_of_mem_take hn)
theorem ints_drop {L:List Int} (h:IntsOk L) (k:Nat):IntsOk (L.drop k):=fun n hn => h n (List.mem_of_mem_drop hn)
theorem term_of {L:List Int} (h1:1 ≤ L.length) (h10:L.length ≤ 10) (h:IntsOk L):TermC (L.map codeI):=by
  refine ⟨by rw [List.length_map]; exact h1,by rw [List.length_map]; exact h10,fun c hc => ?_⟩
  obtain ⟨n,hn,rfl⟩:=List.mem_map.mp hc
  have:=h n hn
  unfold codeI
  exact ⟨by omega,by omega⟩
def sp_l_terms:Sp:=fun vs H Q _ => ∃ c:Int,vs = [.int c] ∧ 0 ≤ c ∧ ∀ (r:Addr) (ts:List (List Nat)) (H':Hp),H r = none → Same H H' → H' r = some (.lst ((ts.map strC).map V.str)) → ts.length = 4 → (∀ t ∈ ts,TermC t) → Q (.ref r) H'
theorem sc_l_terms:FnScope ["_law_cell", "_law_letters", "_law_size", "_law_at", "_law_base", "_law_terms_here", "_law_k", "_law_some"] ["_law_cell"] (defScope s_l_terms):=⟨rfl,rfl,rfl,by decide +kernel,rfl,by decide +kernel,by decide +kernel⟩
theorem ok_l_terms {aNoWord aTowerError:Addr} {f:Addr} {fd:FuncData} (F:Fun K "_law_terms" "_law_terms" s_l_terms f fd) (G:Gs K mg aNoWord aTowerError)  : FnOk P w K mg base CX0 1 f fd ["_law_cell"] sp_l_terms:=by
  refine F.ok sc_l_terms (fun vs H Q E h => ?_) (fun cdv A outer s H vs Q E hr h => ?_)
  · obtain ⟨c,rfl,_⟩:=h; rfl
  obtain ⟨c,rfl,h0,q⟩:=h
  refine ⟨_,(@pss_cons _ _ _ _ _ (@ps_set _ _ 1 _ _ _ _ sc_l_terms.nd (by rfl) (by exact (Or.inr rfl)) pe_str (by rfl) (by first | exact Or.inl rfl | exact Or.inr rfl)) (@pss_cons _ _ _ _ _ (@ps_set _ _ 2 _ _ _ _ sc_l_terms.nd (by rfl) (by exact (Or.inl rfl)) (pe_op m_add pe_int (pe_op m_mod (mv 0) pe_int)) (by rfl) (by first | exact Or.inl rfl | exact Or.inr rfl)) (@pss_cons _ _ _ _ _ (@ps_set _ _ 3 _ _ _ _ sc_l_terms.nd (by rfl) (by exact (Or.inl rfl)) (pe_op m_mod (pe_op m_fdiv (mv 0) pe_int) (mv 2)) (by rfl) (by first | exact Or.inl rfl | exact Or.inr rfl)) (@pss_cons _ _ _ _ _ (ps_setC (i:=4) sc_l_terms.nd rfl (Or.inl rfl) rfl (pj_range1 rfl G.b_range (pa_cons (mv 2) pa_nil)) (clOkF (N:=["_law_k", "_law_cell"]) ["_law_cell", "_law_letters", "_law_size", "_law_at", "_law_base", "_law_terms_here", "_law_k", "_law_some"] (defScope s_l_terms) [none,some 0] rfl rfl rfl (fun x h => cell_has h) (by decide +kernel)) (by decide +kernel) rfl (by decide +kernel) (fun C s₀ H₀ ex => (pg_name (i:=0) (show List.Nodup (["_law_k", "_law_cell"]:List Str) by decide +kernel) rfl (Or.inl rfl))) (fun C s₀ H₀ ex => pf_nil) (fun C s₀ H₀ ex => (pe_op m_mod (pe_op m_add (pe_op m_fdiv (mv 1) (pe_op m_add (mv 0) pe_int)) (pe_op m_mul (mv 0) (mv 0))) pe_int))) (@pss_cons _ _ _ _ _ (@ps_set _ _ 5 _ _ _ _ sc_l_terms.nd (by rfl) (by exact (Or.inl rfl)) (pe_lst pa_nil) (by rfl) (by first | exact Or.inl rfl | exact Or.inr rfl)) (@pss_cons _ _ _ _ _ (pj_for PassesOwn.never rfl (pj_range1 rfl G.b_range (pa_cons pe_int pa_nil)) (pg_name (i:=6) sc_l_terms.nd rfl (Or.inl rfl)) (@pss_cons _ _ _ _ _ (@ps_set _ _ 7 _ _ _ _ sc_l_terms.nd (by rfl) (by exact (Or.inl rfl)) (pe_op m_add (pe_op m_add (pe_slice m_sl (mv 4) po_none (mo_some (mv 3))) (pe_lst (pa_cons (pe_op m_mod (pe_op m_add (pe_ix m_ix (mv 4) (mv 3) (fun _ _ => rfl)) (pe_op m_mul pe_int (mv 6))) pe_int) pa_nil))) (pe_slice m_sl (mv 4) (mo_some (pe_op m_add (mv 3) pe_int)) po_none)) (by rfl) (by first | exact Or.inl rfl | exact Or.inr rfl)) (@pss_cons _ _ _ _ _ (@ps_set _ _ 7 _ _ _ _ sc_l_terms.nd (by rfl) (by exact (Or.inl rfl)) (pe_op m_add (mv 7) (pe_op op_rep (pe_lst (pa_cons pe_int pa_nil)) (pe_op m_mul (pe_op m_mod (pe_op m_fdiv (mv 0) pe_int) pe_int) (pe_op m_mod (mv 6) pe_int)))) (by rfl) (by first | exact Or.inl rfl | exact Or.inr rfl)) (@pss_cons _ _ _ _ _ (ps_if (mt_cmp m_eq (pe_op m_mod (pe_op m_fdiv (mv 0) pe_int) pe_int) pe_int (nomark _)) (@pss_one _ _ _ (@ps_set _ _ 7 _ _ _ _ sc_l_terms.nd (by rfl) (by exact (Or.inl rfl)) (pe_op m_add (pe_slice m_sl (mv 4) po_none (mo_some pe_int)) (pe_slice m_sl (pe_lst (pa_cons pe_int (pa_cons pe_int (pa_cons pe_int pa_nil)))) po_none (mo_some (mv 6)))) (by rfl) (by first | exact Or.inl rfl | exact Or.inr rfl))) pss_nil) (@pss_one _ _ _ (ps_expr (me_meth PySem.F.plainAttrs_list PySem.F.slot_list_append PySem.F.type_list_append m_app (mv 5) (pa_cons (me_meth PySem.F.plainAttrs_str PySem.F.slot_str_join PySem.F.type_str_join m_join pe_str (pa_cons (pe_comp rfl (pj_list (mv 7)) (clOkF (N:=["_law_number", "_law_letters"]) ["_law_cell", "_law_letters", "_law_size", "_law_at", "_law_base", "_law_terms_here", "_law_k", "_law_some"] (defScope s_l_terms) [none,some 1] rfl rfl rfl (fun x h => cell_has h) (by decide +kernel)) (by decide +kernel) rfl (by decide +kernel) (fun C s₀ H₀ ex => (pg_name (i:=0) (show List.Nodup (["_law_number", "_law_letters"]:List Str) by decide +kernel) rfl (Or.inl rfl))) (fun C s₀ H₀ ex => pf_nil) (fun C s₀ H₀ ex => (pe_ix m_ix (mv 1) (mv 0) (fun _ _ => rfl)))) pa_nil)) pa_nil)))))))) (@pss_one _ _ _ (ps_ret (mv 5))))))))),?_⟩
  have c0:=Int.emod_nonneg c (show (9:Int) ≠ 0 by decide)
  have c1:=Int.emod_lt_of_pos c (show (0:Int) < 9 by decide)
  walk_at "go"
  have a0:=Int.emod_nonneg (c / 9) (show 1 + c % 9 ≠ 0 by omega)
  have a1:=Int.emod_lt_of_pos (c / 9) (show 0 < 1 + c % 9 by omega)
  obtain ⟨sz,esz⟩:∃ sz:Nat,1 + c % 9 = (sz:Int):=⟨(1 + c % 9).toNat,by omega⟩
  rw [esz] at a0 a1
  rw [esz]
  obtain ⟨m,em⟩:∃ m:Nat,c / 9 % (sz:Int) = (m:Int):=⟨(c / 9 % (sz:Int)).toNat,by omega⟩
  rw [em] at a0 a1
  rw [em]
  have hsz:1 ≤ sz ∧ sz ≤ 9:=by omega
  clear c0 c1 esz em
  refine ⟨⟨by omega,by omega⟩,?_⟩
  rw [show ((sz:Nat):Int).toNat = sz from rfl]
  refine cw_rangeF (fun j:Nat => some (V.int ((c / ((0:Int) + (j:Int) + 1) + (0 + (j:Int)) * (0 + (j:Int))) % 26))) (lt_line (by omega)) (fun i Hc A B hi sm hA => ?_) (fun D Hd hD sD hd => ?_)
  · walk_at "go"
    refine ⟨Wk.set rfl (Wk.refl _),?_⟩
    walk_at "go"
    exact hA _ (Same.refl _)
  · rw [fm_some (fun j:Nat => V.int ((c / ((0:Int) + (j:Int) + 1) + (0 + (j:Int)) * (0 + (j:Int))) % 26))] at hd
    have eb:(List.range sz).map (fun j:Nat => V.int ((c / ((0:Int) + (j:Int) + 1) + (0 + (j:Int)) * (0 + (j:Int))) % 26)) = ((List.range sz).map (fun j:Nat => (c / ((0:Int) + (j:Int) + 1) + (0 + (j:Int)) * (0 + (j:Int))) % 26)).map V.int:=by rw [List.map_map]; rfl
    rw [eb] at hd
    have hBl:((List.range sz).map (fun j:Nat => (c / ((0:Int) + (j:Int) + 1) + (0 + (j:Int)) * (0 + (j:Int))) % 26)).length = sz:=by rw [List.length_map,List.length_range]
    have hBo:IntsOk ((List.range sz).map (fun j:Nat => (c / ((0:Int) + (j:Int) + 1) + (0 + (j:Int)) * (0 + (j:Int))) % 26)):=fun n hn => by
      obtain ⟨j,_,rfl⟩:=List.mem_map.mp hn
      exact ⟨Int.emod_nonneg _ (by decide),Int.emod_lt_of_pos _ (by decide)⟩
    generalize ((List.range sz).map (fun j:Nat => (c / ((0:Int) + (j:Int) + 1) + (0 + (j:Int)) * (0 + (j:Int))) % 26)) = B at hd hBl hBo
    have rD:=rdL_of hd
    walk_at "go"
    refine ⟨by decide,fun pt hpt => ?_⟩
    walk_at "go"
    refine ⟨⟨by omega,by omega⟩,?_⟩
    refine fj_range (fun i σ H' => ∃ (ts:List (List Nat)) (v6 v7:Option V),σ = [some (.int c),some (.str (Str.ofString "abcdefghijklmnopqrstuvwxyz")),some (.int (sz:Int)),some (.int (m:Int)),some (.ref D),some (.ref pt),v6,v7] ∧ Same Hd H' ∧ H' pt = some (.lst ((ts.map strC).map V.str)) ∧ ts.length = i ∧ ∀ t ∈ ts,TermC t)
      ⟨[],_,_,rfl,same_upd hpt _,upd_same,rfl,fun t ht => nomatch ht⟩ ?_ ?_
    · rintro i σ H2 hi ⟨ts,v6,v7,rfl,s2,hf2,htl,hts⟩
      have hi4:i < 4:=by have:i < (4:Int).toNat:=hi; exact this
      have r2:=rdL_keep s2 rD
      walk_at "go"
      intro r hr
      rw [cut_take (by omega),show ((m:Nat):Int).toNat = m from rfl,← List.map_take]
      have lt:((B.take m).map V.int).length = m:=by rw [List.length_map,List.length_take]; omega
      have ld:((B.drop (m + 1)).map V.int).length = sz - (m + 1):=by rw [List.length_map,List.length_drop]; omega
      have sa:=same_upd hr (.lst ((B.take m).map V.int))
      have ea:(upd H2 r (.lst ((B.take m).map V.int))) r = _:=upd_same
      generalize upd H2 r (.lst ((B.take m).map V.int)) = Ha at sa ea ⊢
      have ra:=rdL_keep sa r2
      obtain ⟨bm,ibm,abm⟩:=get_int (ns:=B) (i:=(m:Int)) (by omega) (by omega)
      walk_at "go"
      refine s_ixL ra abm ?_
      walk_at "go"
      have y0:=Int.emod_nonneg (bm + 5 * (0 + (i:Int))) (show (26:Int) ≠ 0 by decide)
      have y1:=Int.emod_lt_of_pos (bm + 5 * (0 + (i:Int))) (show (0:Int) < 26 by decide)
      generalize (bm + 5 * (0 + (i:Int))) % 26 = y at y0 y1 ⊢
      refine ⟨by show 1 ≤ sizeLine; decide,fun p hp => ?_⟩
      have np:r ≠ p:=ne_of_none ea hp
      refine s_addL (xs:=(B.take m).map V.int) (ys:=[V.int y]) (by rw [mutL_ne np]; exact mutL_of ea) mutL_same (len_line (by show _ + 1 ≤ _; omega)) fun l hl => ?_
      have sb:=sa.trans ((same_upd hp (.lst [V.int y])).trans (same_upd hl (.lst ((B.take m).map V.int ++ [V.int y]))))
      have eb:(upd (upd Ha p (.lst [V.int y])) l (.lst ((B.take m).map V.int ++ [V.int y]))) l = _:=upd_same
      generalize upd (upd Ha p (.lst [V.int y])) l (.lst ((B.take m).map V.int ++ [V.int y])) = Hb at sb eb ⊢
      have rb:=rdL_keep sb r2
      walk_at "go"
      intro t ht
      rw [cutV_drop (by omega),show (((m:Nat):Int) + 1).toNat = m + 1 by omega,← List.map_drop]
      have nt:l ≠ t:=ne_of_none eb ht
      refine s_addL (xs:=(B.take m).map V.int ++ [V.int y]) (ys:=(B.drop (m + 1)).map V.int) (by rw [mutL_ne nt]; exact mutL_of eb) mutL_same (len_line (by rw [List.length_append]; show _ + 1 + _ ≤ _; omega)) fun g hg => ?_
      have eL:(B.take m).map V.int ++ [V.int y] ++ (B.drop (m + 1)).map V.int = (B.take m ++ [y] ++ B.drop (m + 1)).map V.int:=by rw [List.map_append,List.map_append]; rfl
      rw [eL]
      have hMo:IntsOk (B.take m ++ [y] ++ B.drop (m + 1)):=ints_app (ints_app (ints_take hBo _) fun n hn => by rw [List.mem_singleton.mp hn]; exact ⟨y0,y1⟩) (ints_drop hBo _)
      have hMl:(B.take m ++ [y] ++ B.drop (m + 1)).length = sz:=by
        rw [List.length_append,List.length_append,List.length_take,List.length_drop]
        show _ + 1 + _ = _
        omega
      generalize B.take m ++ [y] ++ B.drop (m + 1) = M at hMo hMl ⊢
      have sc:=sb.trans ((same_upd ht (.lst ((B.drop (m + 1)).map V.int))).trans (same_upd hg (.lst (M.map V.int))))
      have ec:(upd (upd Hb t (.lst ((B.drop (m + 1)).map V.int))) g (.lst (M.map V.int))) g = _:=upd_same
      generalize upd (upd Hb t (.lst ((B.drop (m + 1)).map V.int))) g (.lst (M.map V.int)) = H1 at sc ec ⊢
      walk_at "go"
      refine ⟨by show 1 ≤ sizeLine; decide,fun p3 hp3 => ?_⟩
      have s3:=sc.trans (same_upd hp3 (.lst [V.int 25]))
      have e3:=same_upd hp3 (.lst [V.int 25]) _ _ ec
      have e4:(upd H1 p3 (.lst [V.int 25])) p3 = _:=upd_same
      generalize upd H1 p3 (.lst [V.int 25]) = H3 at s3 e3 e4 ⊢
      walk_at "go"
      have hn:0 ≤ c / 81 % 2 * ((0 + (i:Int)) % 2) ∧ c / 81 % 2 * ((0 + (i:Int)) % 2) ≤ 1:=by
        have z:c / 81 % 2 = 0 ∨ c / 81 % 2 = 1:=by omega
        rcases z with z | z <;> rw [z] <;> omega
      generalize c / 81 % 2 * ((0 + (i:Int)) % 2) = n at hn ⊢
      refine ⟨p3,n,[V.int 25],rfl,rfl,e4,by omega,by omega,by show 1 * n.toNat ≤ sizeLine; exact len_line (by omega),fun u hu => ?_⟩
      rw [rep_ints]
      have nu:g ≠ u:=ne_of_none e3 hu
      have lu:((List.replicate n.toNat (25:Int)).map V.int).length = n.toNat:=by rw [List.length_map,List.length_replicate]
      refine s_addL (xs:=M.map V.int) (ys:=(List.replicate n.toNat (25:Int)).map V.int) (by rw [mutL_ne nu]; exact mutL_of e3) mutL_same (len_line (by rw [List.length_map]; omega)) fun x hx => ?_
      rw [← List.map_append]
      have hNo:IntsOk (M ++ List.replicate n.toNat (25:Int)):=ints_app hMo fun z hz => by rw [(List.mem_replicate.mp hz).2]; omega
      have hNl:(M ++ List.replicate n.toNat (25:Int)).length = sz + n.toNat:=by rw [List.length_append,List.length_replicate,hMl]
      generalize M ++ List.replicate n.toNat (25:Int) = M2 at hNo hNl ⊢
      have s5:=s3.trans ((same_upd hu (.lst ((List.replicate n.toNat (25:Int)).map V.int))).trans (same_upd hx (.lst (M2.map V.int))))
      have e5:(upd (upd H3 u (.lst ((List.replicate n.toNat (25:Int)).map V.int))) x (.lst (M2.map V.int))) x = _:=upd_same
      generalize upd (upd H3 u (.lst ((List.replicate n.toNat (25:Int)).map V.int))) x (.lst (M2.map V.int)) = H5 at s5 e5 ⊢
      have hf5:=s5 _ _ hf2
      have r5:=rdL_keep s5 r2
      refine s_gname ?_
      refine s_seqJ (fun σ' H' => ∃ (x:Addr) (L:List Int),σ' = [some (.int c),some (.str (Str.ofString "abcdefghijklmnopqrstuvwxyz")),some (.int (sz:Int)),some (.int (m:Int)),some (.ref D),some (.ref pt),some (.int (0 + (i:Int))),some (.ref x)] ∧ Same H5 H' ∧ H' x = some (.lst (L.map V.int)) ∧ 1 ≤ L.length ∧ L.length ≤ 10 ∧ IntsOk L) ?_ ?_
      · rintro σ' H6 ⟨x6,L,rfl,s6,e6,hL1,hL10,hLo⟩
        have r6:=rdL_of e6
        have hf6:=s6 _ _ hf5
        have hm6:=mutL_of hf6
        walk_at "go"
        refine cw_list (xs:=L.map V.int) (fun x => match x with | .int n => some (.str (one (codeI n))) | _ => none) r6 (by rw [List.length_map]; exact lt_line (by omega)) (fun i x Hc A B hx hk hA => ?_) (fun D2 hD2 => ?_)
        · obtain ⟨n,hn,rfl⟩:=of_map_int hx
          have hn2:=hLo n hn
          walk_at "go"
          refine ⟨Wk.set rfl (Wk.refl _),?_⟩
          walk_at "go"
          have e1:=at_tms (k:=n.toNat) (by omega)
          rw [show ((n.toNat:Nat):Int) = n by omega] at e1
          refine s_ixS (by decide) e1 ?_
          exact hA
        · have e:(L.map V.int).filterMap (fun x => match x with | .int n => some (V.str (one (codeI n))) | _ => none) = ((L.map codeI).map one).map V.str:=by
            rw [List.filterMap_map,List.map_map,List.map_map]
            exact fm_some (fun n:Int => V.str (one (codeI n))) L
          rw [e]
          have s7:=same_upd hD2 (.lst (((L.map codeI).map one).map V.str))
          have r7:rdL (upd H6 D2 (.lst (((L.map codeI).map one).map V.str))) D2 = some (((L.map codeI).map one).map V.str):=rdL_same
          have hf7:=s7 _ _ hf6
          generalize upd H6 D2 (.lst (((L.map codeI).map one).map V.str)) = H7 at s7 r7 hf7 ⊢
          have hm7:=mutL_of hf7
          have htl2:((ts.map strC).map V.str).length < sizeLine:=by rw [List.length_map,List.length_map]; exact lt_line (by omega)
          walk_at "go"
          refine s_join (ss:=(L.map codeI).map one) r7 (by rw [ones_sum,List.length_map,List.length_map,show (Str.ofString "").length = 0 from rfl]; omega) ?_
          rw [join_ones]
          walk_at "go"
          refine ⟨ts ++ [L.map codeI],_,_,rfl,same_put hpt (s2.trans (s5.trans (s6.trans s7))),?_,by rw [List.length_append,htl]; rfl,fun t ht => ?_⟩
          · rw [upd_same,List.map_append,List.map_append]
            rfl
          · rcases List.mem_append.mp ht with z | z
            · exact hts t z
            · rw [List.mem_singleton.mp z]
              exact term_of hL1 hL10 hLo
      · intro N hN
        walk_at "go"
        refine ite2 (fun hd => ?_) (fun hd => ?_)
        · walk_at "go"
          intro y1 hy1
          rw [cut_take (by omega),show (7:Int).toNat = 7 from rfl,← List.map_take]
          have s6:=same_upd hy1 (.lst ((B.take 7).map V.int))
          have e6:(upd H5 y1 (.lst ((B.take 7).map V.int))) y1 = _:=upd_same
          generalize upd H5 y1 (.lst ((B.take 7).map V.int)) = H6 at s6 e6 ⊢
          walk_at "go"
          refine ⟨by show 3 ≤ sizeLine; decide,fun p4 hp4 => ?_⟩
          have s7:=s6.trans (same_upd hp4 (.lst (([18,0,1]:List Int).map V.int)))
          have e7:=same_upd hp4 (.lst (([18,0,1]:List Int).map V.int)) _ _ e6
          have r7:rdL (upd H6 p4 (.lst (([18,0,1]:List Int).map V.int))) p4 = some (([18,0,1]:List Int).map V.int):=rdL_same
          rw [show [V.int 18,V.int 0,V.int 1] = ([18,0,1]:List Int).map V.int from rfl]
          generalize upd H6 p4 (.lst (([18,0,1]:List Int).map V.int)) = H7 at s7 e7 r7 ⊢
          walk_at "go"
          intro y2 hy2
          rw [cut_take (by omega),show (0 + (i:Int)).toNat = i by omega,← List.map_take]
          have n2:y1 ≠ y2:=ne_of_none e7 hy2
          have l1:(B.take 7).length = min 7 sz:=by rw [List.length_take,hBl]
          have l2:(([18,0,1]:List Int).take i).length = min i 3:=by rw [List.length_take]; rfl
          refine s_addL (xs:=(B.take 7).map V.int) (ys:=(([18,0,1]:List Int).take i).map V.int) (by rw [mutL_ne n2]; exact mutL_of e7) mutL_same (len_line (by rw [List.length_map,List.length_map]; omega)) fun y3 hy3 => ?_
          rw [← List.map_append]
          walk_at "go"
          refine hN _ _ ⟨y3,B.take 7 ++ ([18,0,1]:List Int).take i,rfl,s7.trans ((same_upd hy2 _).trans (same_upd hy3 _)),upd_same,by rw [List.length_append]; omega,by rw [List.length_append]; omega,ints_app (ints_take hBo _) (ints_take (show ∀ n ∈ ([18,0,1]:List Int),0 ≤ n ∧ n < 26 by decide) _)⟩
        · walk_at "go"
          exact hN _ _ ⟨x,M2,rfl,Same.refl _,e5,by omega,by omega,hNo⟩
    · rintro σ H2 ⟨ts,v6,v7,rfl,s2,hf2,htl,hts⟩
      walk_at "go"
      exact q pt ts H2 (none_of sD hpt) (sD.trans s2) hf2 htl hts
theorem inV_strs (y:Str) (zs:List Str):inV (.str y) (zs.map V.str) = decide (y ∈ zs):=by
  induction zs with
  | nil => rfl
  | cons z r ih =>
    unfold inV at ih ⊢
    rw [List.map_cons,List.any_cons,ih]
    show (eqV _ _ || _) = _
    by_cases e:y = z
    · subst e
      rw [decide_eq_true List.mem_cons_self]
      simp [eqV]
    · have e2:decide (y ∈ z :: r) = decide (y ∈ r):=decide_eq_decide.mpr ⟨fun h => (List.mem_cons.mp h).elim (fun z => absurd z e) id,List.mem_cons_of_mem _⟩
      rw [e2]
      have:¬ z = y:=fun z => e z.symm
      simp [eqV,e,this]
theorem nodup_ix {α:Type}:∀ {l:List α},(∀ (i j:Nat) (x:α),l[i]? = some x → l[j]? = some x → i = j) → l.Nodup
  | [],_ => List.nodup_nil
  | a :: r,h => List.nodup_cons.mpr ⟨fun m => by
      obtain ⟨j,hj,e⟩:=List.mem_iff_getElem.mp m
      exact absurd (h 0 (j + 1) a rfl (by rw [List.getElem?_cons_succ,List.getElem?_eq_getElem hj,e])) (by omega),
    nodup_ix fun i j x hi hj => by
      have:=h (i + 1) (j + 1) x (by simpa using hi) (by simpa using hj)
      omega⟩
theorem BkAt.put {H:Hp} {r p:Addr} {bk:List (Str × Str)} {xs ys:List V} (h:BkAt H r bk) (e:H p = some (.lst xs)) (n:p ≠ r):BkAt (upd H p (.lst ys)) r bk:=by
  obtain ⟨ps,h1,h2,h3⟩:=h
  refine ⟨ps,by rw [upd_ne (Ne.symm n)]; exact h1,h2,fun j q b hq hb => ?_⟩
  have:=h3 j q b hq hb
  rw [upd_ne (fun z => by rw [z,e] at this; cases this)]
  exact this
def sp_l_book:Sp:=fun vs H Q _ => ∃ (a b:Addr) (ms:List Int) (ts:List (List Nat)) (c:Int),vs = [.ref a,.ref b,.int c] ∧ rdL H a = some (ms.map V.int) ∧ ms.length ≤ 60 ∧ rdL H b = some ((ts.map strC).map V.str) ∧ ts.length = 4 ∧ (∀ t ∈ ts,TermC t) ∧ 0 ≤ c ∧
  ∀ (r:Addr) (bk:List (Str × Str)) (H':Hp),H r = none → Same H H' → BkAt H' r bk → GoodBk bk → Q (.ref r) H'
theorem get_term {ts:List (List Nat)} {i:Int} (h0:0 ≤ i) (h:i < ts.length):∃ t,t ∈ ts ∧ atI ((ts.map strC).map V.str) i = some (.str (strC t)):=by
  obtain ⟨v,h1,h2⟩:=atI_lt (xs:=(ts.map strC).map V.str) (i:=i) h0 (by rw [List.length_map,List.length_map]; exact h)
  rw [List.getElem?_map,List.getElem?_map,List.getElem?_eq_getElem (by omega)] at h2
  cases h2
  exact ⟨_,List.getElem_mem _,h1⟩
theorem sc_l_book:FnScope ["_law_cells", "_law_terms_here", "_law_cell", "_law_book_here", "_law_known", "_law_k", "_law_mixed_here", "_law_number", "_law_some", "_law_j", "_law_meaning"] ["_law_cells", "_law_terms_here", "_law_cell"] (defScope s_l_book):=⟨rfl,rfl,rfl,by decide +kernel,rfl,by decide +kernel,by decide +kernel⟩
theorem ok_l_book {aNoWord aTowerError:Addr} {f:Addr} {fd:FuncData} (F:Fun K "_law_book" "_law_book" s_l_book f fd) (G:Gs K mg aNoWord aTowerError) (c_l_mixed:Cal P w K mg base 1 "_law_mixed" ["_law_cell", "_law_k"] sp_l_mixed) (c_l_word:Cal P w K mg base 1 "_law_word" ["_law_cell", "_law_k"] sp_l_word):FnOk P w K mg base CX0 2 f fd ["_law_cells", "_law_terms_here", "_law_cell"] sp_l_book:=by
  refine F.ok sc_l_book (fun vs H Q E h => ?_) (fun cdv A outer s H vs Q E hr h => ?_)
  · obtain ⟨a,b,ms,ts,c,rfl,_⟩:=h; rfl
  obtain ⟨a,b,ms,ts,c,rfl,ha,hml,hb,htl,hts,h0,q⟩:=h
  refine ⟨_,(@pss_cons _ _ _ _ _ (@ps_set _ _ 3 _ _ _ _ sc_l_book.nd (by rfl) (by exact (Or.inl rfl)) (pe_lst pa_nil) (by rfl) (by first | exact Or.inl rfl | exact Or.inr rfl)) (@pss_cons _ _ _ _ _ (@ps_set _ _ 4 _ _ _ _ sc_l_book.nd (by rfl) (by exact (Or.inl rfl)) (pe_lst pa_nil) (by rfl) (by first | exact Or.inl rfl | exact Or.inr rfl)) (@pss_cons _ _ _ _ _ (pj_for PassesOwn.never rfl (pj_range1 rfl G.b_range (pa_cons (pe_callB m_len rfl G.b_len bt_len (pa_cons (mv 0) pa_nil)) pa_nil)) (pg_name (i:=5) sc_l_book.nd rfl (Or.inl rfl)) (@pss_cons _ _ _ _ _ (@ps_set _ _ 6 _ _ _ _ sc_l_book.nd (by rfl) (by exact (Or.inl rfl)) (pe_cal c_l_mixed hr (by decide) rfl (pa_cons (pe_ix m_ix (mv 0) (mv 5) (fun _ _ => rfl)) (pa_cons (pe_op m_add (mv 5) pe_int) pa_nil))) (by rfl) (by first | exact Or.inl rfl | exact Or.inr rfl)) (@pss_cons _ _ _ _ _ (@ps_set _ _ 7 _ _ _ _ sc_l_book.nd (by rfl) (by exact (Or.inl rfl)) (pe_op m_fdiv (mv 6) pe_int) (by rfl) (by first | exact Or.inl rfl | exact Or.inr rfl)) (@pss_cons _ _ _ _ _ (@ps_set _ _ 8 _ _ _ _ sc_l_book.nd (by rfl) (by exact (Or.inl rfl)) (pe_lst pa_nil) (by rfl) (by first | exact Or.inl rfl | exact Or.inr rfl)) (@pss_cons _ _ _ _ _ (pj_for PassesOwn.never rfl (pj_range1 rfl G.b_range (pa_cons (@pe_ix _ _ _ _ _ _ _ m_ix (@pe_lst _ _ _ _ (pa_cons pe_int (pa_cons pe_int (pa_cons pe_int (pa_cons pe_int (pa_cons pe_int (pa_cons pe_int (pa_cons pe_int (pa_cons pe_int pa_nil))))))))) (pe_op m_mod (mv 6) pe_int) (fun _ _ => rfl)) pa_nil)) (pg_name (i:=9) sc_l_book.nd rfl (Or.inl rfl)) (@pss_cons _ _ _ _ _ (ps_expr (me_meth PySem.F.plainAttrs_list PySem.F.slot_list_append PySem.F.type_list_append m_app (mv 8) (pa_cons (pe_ix m_ix (mv 1) (pe_op m_mod (mv 7) pe_int) (fun _ _ => rfl)) pa_nil))) (@pss_one _ _ _ (@ps_set _ _ 7 _ _ _ _ sc_l_book.nd (by rfl) (by exact (Or.inl rfl)) (pe_op m_fdiv (mv 7) pe_int) (by rfl) (by first | exact Or.inl rfl | exact Or.inr rfl))))) (@pss_cons _ _ _ _ _ (@ps_set _ _ 10 _ _ _ _ sc_l_book.nd (by rfl) (by exact (Or.inl rfl)) (me_meth PySem.F.plainAttrs_str PySem.F.slot_str_join PySem.F.type_str_join m_join pe_str (pa_cons (mv 8) pa_nil)) (by rfl) (by first | exact Or.inl rfl | exact Or.inr rfl)) (@pss_one _ _ _ (ps_if (mt_cmp m_notInL (mv 10) (mv 4) (by rfl)) (@pss_cons _ _ _ _ _ (ps_expr (me_meth PySem.F.plainAttrs_list PySem.F.slot_list_append PySem.F.type_list_append m_app (mv 4) (pa_cons (mv 10) pa_nil))) (@pss_one _ _ _ (ps_expr (me_meth PySem.F.plainAttrs_list PySem.F.slot_list_append PySem.F.type_list_append m_app (mv 3) (pa_cons (pe_tup (pa_cons (pe_cal c_l_word hr (by decide) rfl (pa_cons (mv 2) (pa_cons (pe_callB m_len rfl G.b_len bt_len (pa_cons (mv 3) pa_nil)) pa_nil))) (pa_cons (mv 10) pa_nil))) pa_nil))))) pss_nil)))))))) (@pss_one _ _ _ (ps_ret (mv 3)))))),?_⟩
  walk_at "go"
  refine ⟨by decide,fun pb hpb => ?_⟩
  walk_at "go"
  refine ⟨by decide,fun pk hpk => ?_⟩
  have npk:pb ≠ pk:=fun z => by rw [← z,upd_same] at hpk; cases hpk
  have hpkH:H pk = none:=by rw [upd_ne npk.symm] at hpk; exact hpk
  have s0:=(same_upd hpb (.lst [])).trans (same_upd hpk (.lst []))
  have e0:(upd (upd H pb (.lst [])) pk (.lst [])) pb = some (.lst []):=by rw [upd_ne npk,upd_same]
  have k0:(upd (upd H pb (.lst [])) pk (.lst [])) pk = some (.lst []):=upd_same
  generalize upd (upd H pb (.lst [])) pk (.lst []) = H0 at s0 e0 k0 ⊢
  have ha0:=rdL_keep s0 ha
  have hmm:(ms.map V.int).length = ms.length:=List.length_map ..
  walk_at "go"
  rw [hmm]
  refine ⟨⟨by omega,by omega⟩,?_⟩
  refine fj_range (fun i σ H' => ∃ (bk:List (Str × Str)) (v5 v6 v7 v8 v9 v10:Option V),σ = [some (.ref a),some (.ref b),some (.int c),some (.ref pb),some (.ref pk),v5,v6,v7,v8,v9,v10] ∧ Same H H' ∧ BkAt H' pb bk ∧ H' pk = some (.lst ((bk.map (·.2)).map V.str)) ∧ bk.length ≤ i ∧
      (∀ j b,bk[j]? = some b → b.1 = strC (wordC (bsC c) (mC c) j)) ∧ (bk.map (·.2)).Nodup ∧ ∀ b ∈ bk,∃ ts:List (List Nat),b.2 = meanC ts ∧ 1 ≤ ts.length ∧ ts.length ≤ 5 ∧ ∀ t ∈ ts,TermC t)
    ⟨[],_,_,_,_,_,_,rfl,s0,⟨[],e0,rfl,(fun j p b hp => by cases hp)⟩,k0,Nat.zero_le _,(fun j b hb => by cases hb),List.nodup_nil,(fun b hb => by cases hb)⟩ ?_ ?_
  · rintro i σ H2 hi ⟨bk,v5,v6,v7,v8,v9,v10,rfl,s2,hbk,hk2,hbl,hw,hnd,hmn⟩
    have hi':i < ms.length:=by omega
    obtain ⟨n,_,an⟩:=get_int (ns:=ms) (i:=0 + (i:Int)) (by omega) (by omega)
    walk_at "go"
    refine s_ixL (rdL_keep s2 ha) an ?_
    walk_at "go"
    refine ⟨n,_,rfl,by omega,by omega,fun N hN => ?_⟩
    walk_at "go"
    refine ⟨by decide,fun ps hps => ?_⟩
    have s3:=s2.trans (same_upd hps (.lst []))
    have bk3:=hbk.keep (same_upd hps (.lst []))
    have k3:=same_upd hps (.lst []) _ _ hk2
    have e3:(upd H2 ps (.lst [])) ps = some (.lst []):=upd_same
    have hpsH:H ps = none:=none_of s2 hps
    generalize upd H2 ps (.lst []) = H3 at s3 bk3 k3 e3 ⊢
    walk_at "go"
    refine ⟨by decide,fun pn hpn => ?_⟩
    have s4:=same_upd hpn (.lst [V.int 1,V.int 1,V.int 2,V.int 2,V.int 2,V.int 3,V.int 4,V.int 5])
    have r4:rdL (upd H3 pn (.lst [V.int 1,V.int 1,V.int 2,V.int 2,V.int 2,V.int 3,V.int 4,V.int 5])) pn = some (([1,1,2,2,2,3,4,5]:List Int).map V.int):=rdL_same
    generalize upd H3 pn (.lst [V.int 1,V.int 1,V.int 2,V.int 2,V.int 2,V.int 3,V.int 4,V.int 5]) = H4 at s4 r4 ⊢
    have bk4:=bk3.keep s4
    have k4:=s4 _ _ k3
    have e4:=s4 _ _ e3
    have s04:=s3.trans s4
    obtain ⟨kn,hkn,akn⟩:=get_int (ns:=[1,1,2,2,2,3,4,5]) (i:=N % 8) (by omega) (by show N % 8 < 8; omega)
    have hkn1:1 ≤ kn ∧ kn ≤ 5:=(by decide:∀ x ∈ ([1,1,2,2,2,3,4,5]:List Int),1 ≤ x ∧ x ≤ 5) kn hkn
    walk_at "go"
    refine s_ixL r4 akn ?_
    walk_at "go"
    refine ⟨⟨by omega,by omega⟩,?_⟩
    have nsb:ps ≠ pb:=fun z => by obtain ⟨_,h1,_⟩:=hbk; rw [z,h1] at hps; cases hps
    have nsk:ps ≠ pk:=fun z => by rw [z,hk2] at hps; cases hps
    refine fj_range (fun j σ H' => ∃ (x:Int) (us:List (List Nat)) (v9:Option V),σ = [some (.ref a),some (.ref b),some (.int c),some (.ref pb),some (.ref pk),some (.int (0 + (i:Int))),some (.int N),some (.int x),some (.ref ps),v9,v10] ∧ 0 ≤ x ∧ Same H H' ∧ BkAt H' pb bk ∧ H' pk = some (.lst ((bk.map (·.2)).map V.str)) ∧ H' ps = some (.lst ((us.map strC).map V.str)) ∧ us.length = j ∧ ∀ t ∈ us,TermC t)
      ⟨N / 8,[],_,rfl,by omega,s04,bk4,k4,e4,rfl,(fun t ht => by cases ht)⟩ ?_ ?_
    · rintro j σ H5 hj ⟨x,us,v9,rfl,hx0,s5,bk5,k5,e5,hul,hut⟩
      have hm5:=mutL_of e5
      have hj5:j < 5:=by omega
      have hlen:((us.map strC).map V.str).length < sizeLine:=by rw [List.length_map,List.length_map]; exact lt_line (by omega)
      obtain ⟨t,ht,at'⟩:=get_term (ts:=ts) (i:=x % 4) (by omega) (by omega)
      walk_at "go"
      refine s_ixL (rdL_keep s5 hb) at' ?_
      walk_at "go"
      refine ⟨x / 4,us ++ [t],_,rfl,by omega,same_put hpsH s5,bk5.put e5 nsb,by rw [upd_ne (Ne.symm nsk)]; exact k5,?_,by rw [List.length_append,hul]; rfl,fun u hu => ?_⟩
      · rw [upd_same,List.map_append,List.map_append]
        rfl
      · rcases List.mem_append.mp hu with z | z
        · exact hut u z
        · rw [List.mem_singleton.mp z]; exact hts t ht
    · rintro σ H5 ⟨x,us,v9,rfl,hx0,s5,bk5,k5,e5,hul,hut⟩
      have hu1:1 ≤ us.length ∧ us.length ≤ 5:=by omega
      have hsum:=sum_terms us hut
      walk_at "go"
      refine s_join (ss:=us.map strC) (rdL_of e5) (by rw [List.length_map,show (Str.ofString " ").length = 1 from rfl]; omega) ?_
      rw [show Txt.join (Str.ofString " ") (us.map strC) = meanC us from rfl]
      walk_at "go"
      refine s_inL (neg:=true) (rdL_of k5) rfl (allFlat_str _) ?_
      rw [if_pos rfl,inV_strs]
      walk_at "go"
      by_cases hin:meanC us ∈ bk.map (·.2)
      · rw [decide_eq_true hin]
        walk_at "go"
        exact ⟨bk,_,_,_,_,_,_,rfl,s5,bk5,k5,by omega,hw,hnd,hmn⟩
      · rw [decide_eq_false hin]
        have hm5:=mutL_of k5
        have hlen:((bk.map (·.2)).map V.str).length < sizeLine:=by rw [List.length_map,List.length_map]; exact lt_line (by omega)
        have nbk:pk ≠ pb:=Ne.symm npk
        walk_at "go"
        have s6:Same H (upd H5 pk (.lst ((bk.map (·.2)).map V.str ++ [V.str (meanC us)]))):=same_put hpkH s5
        have bk6:=bk5.put (ys:=(bk.map (·.2)).map V.str ++ [V.str (meanC us)]) k5 nbk
        have k6:(upd H5 pk (.lst ((bk.map (·.2)).map V.str ++ [V.str (meanC us)]))) pk = _:=upd_same
        generalize upd H5 pk (.lst ((bk.map (·.2)).map V.str ++ [V.str (meanC us)])) = H6 at s6 bk6 k6 ⊢
        obtain ⟨qs,b1,b2,b3⟩:=bk6
        have r6:=rdL_of b1
        have hql:(qs.map V.ref).length = bk.length:=by rw [List.length_map,b2]
        walk_at "go"
        rw [hql]
        refine ⟨c,bk.length,rfl,h0,by omega,fun H7 s7 => ?_⟩
        have c1:=s7 _ _ b1
        have k7:=s7 _ _ k6
        walk_at "go"
        refine ⟨by show 2 ≤ sizeLine; decide,fun pt hpt => ?_⟩
        have s8:=s6.trans (s7.trans (same_upd hpt (.tup [V.str (strC (wordC (bsC c) (mC c) bk.length)),V.str (meanC us)])))
        have c8:=same_upd hpt (.tup [V.str (strC (wordC (bsC c) (mC c) bk.length)),V.str (meanC us)]) _ _ c1
        have k8:=same_upd hpt (.tup [V.str (strC (wordC (bsC c) (mC c) bk.length)),V.str (meanC us)]) _ _ k7
        have t8:(upd H7 pt (.tup [V.str (strC (wordC (bsC c) (mC c) bk.length)),V.str (meanC us)])) pt = _:=upd_same
        have b8:∀ (j:Nat) p b,qs[j]? = some p → bk[j]? = some b → (upd H7 pt (.tup [V.str (strC (wordC (bsC c) (mC c) bk.length)),V.str (meanC us)])) p = some (.tup [.str b.1,.str b.2]):=fun j p b hp hb => same_upd hpt _ _ _ (s7 _ _ (b3 j p b hp hb))
        generalize upd H7 pt (.tup [V.str (strC (wordC (bsC c) (mC c) bk.length)),V.str (meanC us)]) = H8 at s8 c8 k8 t8 b8 ⊢
        have hm8:=mutL_of c8
        have hlq:(qs.map V.ref).length < sizeLine:=by rw [hql]; exact lt_line (by omega)
        walk_at "go"
        have net:∀ p u,H8 p = some (.tup u) → p ≠ pb:=fun p u e z => by rw [z,c8] at e; cases e
        refine ⟨bk ++ [(strC (wordC (bsC c) (mC c) bk.length),meanC us)],_,_,_,_,_,_,rfl,same_put hpb s8,⟨qs ++ [pt],by rw [upd_same,List.map_append]; rfl,by rw [List.length_append,List.length_append,b2]; rfl,fun j p b hp hb => ?_⟩,?_,by rw [List.length_append]; show _ + 1 ≤ _; omega,fun j b hb => ?_,?_,fun b hb => ?_⟩
        · by_cases hj:j < bk.length
          · rw [List.getElem?_append_left (by omega)] at hp
            rw [List.getElem?_append_left hj] at hb
            have:=b8 j p b hp hb
            rw [upd_ne (net p _ this)]
            exact this
          · have ej:j = bk.length:=by
              have:=(List.getElem?_eq_some_iff.mp hb).1
              rw [List.length_append] at this
              have:j < bk.length + 1:=this
              omega
            subst ej
            rw [List.getElem?_append_right (Nat.le_refl _),Nat.sub_self] at hb
            rw [List.getElem?_append_right (by omega),b2,Nat.sub_self] at hp
            cases hb
            cases hp
            rw [upd_ne (net _ _ t8)]
            exact t8
        · rw [upd_ne (fun z => nbk z),k8,List.map_append,List.map_append]
          rfl
        · by_cases hj:j < bk.length
          · rw [List.getElem?_append_left hj] at hb
            exact hw j b hb
          · have ej:j = bk.length:=by
              have:=(List.getElem?_eq_some_iff.mp hb).1
              rw [List.length_append] at this
              have:j < bk.length + 1:=this
              omega
            subst ej
            rw [List.getElem?_append_right (Nat.le_refl _),Nat.sub_self] at hb
            cases hb
            rfl
        · rw [List.map_append,List.nodup_append]
          refine ⟨hnd,(by rw [List.map_cons,List.map_nil]; exact List.nodup_cons.mpr ⟨(fun m => by cases m),List.nodup_nil⟩),fun x hx y hy e => ?_⟩
          have ey:y = meanC us:=List.mem_singleton.mp hy
          rw [e,ey] at hx
          exact hin hx
        · rcases List.mem_append.mp hb with z | z
          · exact hmn b z
          · rw [List.mem_singleton.mp z]
            exact ⟨us,rfl,hu1.1,hu1.2,hut⟩
  · rintro σ H2 ⟨bk,v5,v6,v7,v8,v9,v10,rfl,s2,hbk,hk2,hbl,hw,hnd,hmn⟩
    walk_at "go"
    refine q pb bk H2 hpb s2 hbk ⟨by omega,?_,hnd,fun b hb => ?_,hmn⟩
    · refine nodup_ix fun i j x hi hj => ?_
      rw [List.getElem?_map] at hi hj
      cases ei:bk[i]? with
      | none => rw [ei] at hi; cases hi
      | some u =>
        cases ej:bk[j]? with
        | none => rw [ej] at hj; cases hj
        | some v =>
          rw [ei] at hi
          rw [ej] at hj
          cases hi
          have h1:=hw i u ei
          have h2:=hw j v ej
          injection hj with hj
          replace hj:v.1 = u.1:=hj
          rw [h1,h2] at hj
          exact (word_inj (mC_le c) (strC_inj hj)).symm
    · obtain ⟨j,hj,rfl⟩:=List.mem_iff_getElem.mp hb
      have e:=hw j _ (List.getElem?_eq_getElem hj)
      have ok:=word_ok (mC_le c) (by rw [bsC_len]; omega) (bsC_let c) (k:=j) (by omega)
      exact ⟨_,e,ok⟩
def sp_l_good_book (K:PySem.W.Frag):Sp:=fun vs H Q _ => ∃ (a:Addr) (ns:List Int),vs = [.ref a] ∧ SqL K H a (ns.map V.int) ∧ ns.length ≤ 63 ∧ ∀ (r:Addr) (bk:List (Str × Str)) (H':Hp),H r = none → Same H H' → BkAt H' r bk → GoodBk bk → 1 ≤ bk.length → Q (.ref r) H'
theorem sc_l_good_book:FnScope ["_law_script", "_law_first", "_law_terms_here", "_law_book_here"] ["_law_script"] (defScope s_l_good_book):=⟨rfl,rfl,rfl,by decide +kernel,rfl,by decide +kernel,by decide +kernel⟩
theorem ok_l_good_book {aNoWord aTowerError:Addr} {f:Addr} {fd:FuncData} (F:Fun K "_law_good_book" "_law_good_book" s_l_good_book f fd) (G:Gs K mg aNoWord aTowerError) (c_l_mixed:Cal P w K mg base 1 "_law_mixed" ["_law_cell", "_law_k"] sp_l_mixed) (c_l_terms:Cal P w K mg base 1 "_law_terms" ["_law_cell"] sp_l_terms) (c_l_book:Cal P w K mg base 2 "_law_book" ["_law_cells", "_law_terms_here", "_law_cell"] sp_l_book) (c_l_cell_at:Cal P w K mg base 1 "_law_cell_at" ["_law_script", "_law_k"] (sp_l_cell_at K)):FnOk P w K mg base CX0 3 f fd ["_law_script"] (sp_l_good_book K):=by
  refine F.ok sc_l_good_book (fun vs H Q E h => ?_) (fun cdv A outer s H vs Q E hr h => ?_)
  · obtain ⟨a,ns,rfl,_⟩:=h; rfl
  obtain ⟨a,ns,rfl,hS,h63,q⟩:=h
  refine ⟨_,(@pss_cons _ _ _ _ _ (@ps_set _ _ 1 _ _ _ _ sc_l_good_book.nd (by rfl) (by exact (Or.inl rfl)) (pe_cal c_l_mixed hr (by decide) rfl (pa_cons (pe_cal c_l_cell_at hr (by decide) rfl (pa_cons (mv 0) (pa_cons pe_int pa_nil))) (pa_cons pe_int pa_nil))) (by rfl) (by first | exact Or.inl rfl | exact Or.inr rfl)) (@pss_cons _ _ _ _ _ (@ps_set _ _ 2 _ _ _ _ sc_l_good_book.nd (by rfl) (by exact (Or.inl rfl)) (pe_cal c_l_terms hr (by decide) rfl (pa_cons (mv 1) pa_nil)) (by rfl) (by first | exact Or.inl rfl | exact Or.inr rfl)) (@pss_cons _ _ _ _ _ (@ps_set _ _ 3 _ _ _ _ sc_l_good_book.nd (by rfl) (by exact (Or.inl rfl)) (pe_cal c_l_book hr (by decide) rfl (pa_cons (pe_slice sl_list (mv 0) (mo_some pe_int) (mo_some pe_int)) (pa_cons (mv 2) (pa_cons (pe_cal c_l_mixed hr (by decide) rfl (pa_cons (pe_cal c_l_cell_at hr (by decide) rfl (pa_cons (mv 0) (pa_cons pe_int pa_nil))) (pa_cons pe_int pa_nil))) pa_nil)))) (by rfl) (by first | exact Or.inl rfl | exact Or.inr rfl)) (@pss_cons _ _ _ _ _ (ps_if (mt_cmp (m_eqE hr.units0) (mv 3) (pe_lst pa_nil) (nomark _)) (@pss_one _ _ _ (@ps_set _ _ 3 _ _ _ _ sc_l_good_book.nd (by rfl) (by exact (Or.inl rfl)) (pe_lst (pa_cons (pe_tup (@pa_str _ _ _ _ _ _ (pa_cons (pe_ix m_ix (mv 2) pe_int (fun _ _ => rfl)) pa_nil))) pa_nil)) (by rfl) (by first | exact Or.inl rfl | exact Or.inr rfl))) pss_nil) (@pss_one _ _ _ (ps_ret (mv 3))))))),?_⟩
  walk_at "go"
  refine ⟨a,ns,0,rfl,hS,by omega,fun n0 => ?_⟩
  walk_at "go"
  refine ⟨n0,0,rfl,by omega,by omega,fun N0 hN0 => ?_⟩
  walk_at "go"
  refine ⟨N0,rfl,hN0,fun rt ts H1 hrt s1 e1 htl hts => ?_⟩
  walk_at "go"
  refine s_slK (s1.seq hS) fun rc hrc => ?_
  have hc60:(cutV (ns.map V.int) (some 2) (some 62)).length ≤ 60:=by
    show (((ns.map V.int).drop (if (2:Int) < 0 then ((2:Int) + ((ns.map V.int).length:Int)).toNat else min (2:Int).toNat (ns.map V.int).length)).take ((if (62:Int) < 0 then ((62:Int) + ((ns.map V.int).length:Int)).toNat else min (62:Int).toNat (ns.map V.int).length) - (if (2:Int) < 0 then ((2:Int) + ((ns.map V.int).length:Int)).toNat else min (2:Int).toNat (ns.map V.int).length))).length ≤ 60
    rw [List.length_take,List.length_drop,List.length_map,if_neg (by decide),if_neg (by decide),show (2:Int).toNat = 2 from rfl,show (62:Int).toNat = 62 from rfl]
    omega
  obtain ⟨ms,em,hm,hml⟩:=cut_ints ns (some 2) (some 62)
  rw [em,List.length_map] at hc60
  rw [em]
  have s2:=s1.trans (same_upd hrc (.lst (ms.map V.int)))
  have e2:=same_upd hrc (.lst (ms.map V.int)) _ _ e1
  have r2:rdL (upd H1 rc (.lst (ms.map V.int))) rc = some (ms.map V.int):=rdL_same
  generalize upd H1 rc (.lst (ms.map V.int)) = H2 at s2 e2 r2 ⊢
  walk_at "go"
  refine ⟨a,ns,1,rfl,s2.seq hS,by omega,fun n1 => ?_⟩
  walk_at "go"
  refine ⟨n1,1,rfl,by omega,by omega,fun N1 hN1 => ?_⟩
  walk_at "go"
  refine ⟨rc,rt,ms,ts,N1,rfl,r2,hc60,rdL_of e2,htl,hts,hN1,fun rb bk H3 hrb s3 hbk hgood => ?_⟩
  have e3:=s3 _ _ e2
  refine s_gname ?_
  refine s_seqJ (fun σ' H' => ∃ (r:Addr) (bk:List (Str × Str)),σ' = [some (.ref a),some (.int N0),some (.ref rt),some (.ref r)] ∧ H r = none ∧ Same H H' ∧ BkAt H' r bk ∧ GoodBk bk ∧ 1 ≤ bk.length) ?_ ?_
  · rintro σ' H4 ⟨r,bk,rfl,hr,s4,hbk,hg,h1⟩
    walk_at "go"
    exact q r bk H4 hr s4 hbk hg h1
  · intro N hN
    obtain ⟨qs,b1,b2,b3⟩:=id hbk
    walk_at "go"
    refine ⟨by decide,fun pe hpe => ?_⟩
    have b4:=rdL_keep (same_upd hpe (.lst [])) (rdL_of b1)
    refine s_eqE b4 rdL_same ?_
    have s4:=s2.trans (s3.trans (same_upd hpe (.lst [])))
    have e4:=same_upd hpe (.lst []) _ _ e3
    have bk4:=hbk.keep (same_upd hpe (.lst []))
    generalize upd H3 pe (.lst []) = H4 at s4 e4 bk4 ⊢
    walk_at "go"
    cases qs with
    | nil =>
      rw [show (List.map V.ref ([]:List Addr)).isEmpty = true from rfl]
      obtain ⟨t,ht,at'⟩:=get_term (ts:=ts) (i:=0) (by omega) (by omega)
      walk_at "go"
      refine s_ixL (rdL_of e4) at' ?_
      walk_at "go"
      refine ⟨by show 2 ≤ sizeLine; decide,fun pt hpt => ?_⟩
      walk_at "go"
      refine ⟨by show 1 ≤ sizeLine; decide,fun pl hpl => ?_⟩
      walk_at "go"
      have ntl:pt ≠ pl:=fun z => by rw [← z,upd_same] at hpl; cases hpl
      have hplH:H pl = none:=none_of (s4.trans (same_upd hpt _)) hpl
      refine hN _ _ ⟨pl,[(Str.ofString "w",strC t)],rfl,hplH,s4.trans ((same_upd hpt _).trans (same_upd hpl _)),⟨[pt],upd_same,rfl,fun j p b hp hb => ?_⟩,⟨by show 1 ≤ 60; decide,?_,?_,fun b hb => ?_,fun b hb => ?_⟩,Nat.le_refl _⟩
      · cases j with
        | zero =>
          cases hp
          cases hb
          rw [upd_ne ntl,upd_same]
        | succ j => cases hp
      · exact List.nodup_cons.mpr ⟨(fun m => by cases m),List.nodup_nil⟩
      · exact List.nodup_cons.mpr ⟨(fun m => by cases m),List.nodup_nil⟩
      · rw [List.mem_singleton.mp hb]
        exact ⟨[119],rfl,by decide,by decide,by decide⟩
      · rw [List.mem_singleton.mp hb]
        refine ⟨[t],?_,Nat.le_refl _,by show 1 ≤ 5; decide,fun u hu => by rw [List.mem_singleton.mp hu]; exact hts t ht⟩
        show strC t = Txt.join " " [strC t]
        rfl
    | cons q0 qr =>
      rw [show (List.map V.ref (q0 :: qr)).isEmpty = false from rfl]
      walk_at "go"
      refine hN _ _ ⟨rb,bk,rfl,none_of s2 hrb,s4,bk4,hgood,?_⟩
      rw [← b2,List.length_cons]
      omega
def sp_NoWord_init (aC:Addr):Sp:=fun vs H Q _ => ∃ ea v,vs = [.ref ea,v] ∧ H ea = some (excN ea aC none) ∧ ∀ dx,H dx = none → Q .non (upd (upd H ea (excN ea aC (some dx))) dx (xdO dx [("at",v)]))
theorem sc_NoWord_init:FnScope ["self", "at"] ["self", "at"] (defScope s_NoWord_init):=⟨rfl,rfl,rfl,by decide +kernel,rfl,by decide +kernel,by decide +kernel⟩
theorem ok_NoWord_init {aNoWord aTowerError:Addr} {f:Addr} {fd:FuncData} (F:Fun K "__init__" "NoWord.__init__" s_NoWord_init f fd) (G:Gs K mg aNoWord aTowerError)  : FnOk P w K mg base CX0 1 f fd ["self", "at"] (sp_NoWord_init aNoWord):=by
  refine F.ok sc_NoWord_init (fun vs H Q E h => ?_) (fun cdv A outer s H vs Q E hr h => ?_)
  · obtain ⟨ea,v,rfl,_⟩:=h; rfl
  obtain ⟨ea,v,rfl,he,q⟩:=h
  refine ⟨_,(@pss_cons _ _ _ _ _ (ps_expr (pe_xinit rfl G.c_TowerError G.t1_TowerError G.t2_TowerError G.t3_TowerError (pa_cons (mv 0) (pa_cons (mv 1) pa_nil)))) (@pss_one _ _ _ (ps_xfld (mv 0) (mv 1) rfl))),?_⟩
  walk_at "go"
  refine ⟨ea,[v],aNoWord,aTowerError,none,rfl,by show 1 ≤ sizeLine; decide,he,(fun _ z => nomatch z),G.xc_NoWord,?_⟩
  walk_at "go"
  exact ⟨ea,aNoWord,aTowerError,rfl,G.xc_NoWord,G.xn_NoWord_at,.inl ⟨he,q⟩⟩
theorem same_exc {H H1:Hp} {ea dx:Addr} {o o' o'':HO} (s:Same H H1) (h1:H1 ea = none) (h2:upd H1 ea o dx = none):Same H (del (upd (upd (upd H1 ea o) ea o') dx o'') ea):=fun b u e => by
  have e1:=s b u e
  have n1:b ≠ ea:=ne_of_none e1 h1
  have n3:dx ≠ ea:=fun z => by rw [z,upd_same] at h2; cases h2
  have n2:b ≠ dx:=fun z => by rw [← z,upd_ne n1,e1] at h2; cases h2
  rw [del_ne n1,upd_ne n2,upd_ne n1,upd_ne n1]
  exact e1
theorem exc_dx {H1:Hp} {ea dx:Addr} {o o' o'':HO} (h2:upd H1 ea o dx = none):upd (upd (upd H1 ea o) ea o') dx o'' ea = some o' ∧ del (upd (upd (upd H1 ea o) ea o') dx o'') ea dx = some o'':=by
  have n3:dx ≠ ea:=fun z => by rw [z,upd_same] at h2; cases h2
  exact ⟨by rw [upd_ne n3.symm,upd_same],by rw [del_ne n3,upd_same]⟩
def mean:List (Str × Str) → Str → Option Str
  | [],_ => none
  | b :: r,w => if b.1 = w then some b.2 else mean r w
def bkK (bk:List (Str × Str)):List (Key × V):=bk.map fun b => (Sum.inr b.1,V.str b.2)
theorem merge_snocs:∀ (bk:List (Str × Str)) (kv:List (Key × V)),(bk.map (·.1)).Nodup → (∀ b ∈ bk,valV kv (Sum.inr b.1) = none) → ∀ w:Str,valV (mergeK kv (bkK bk)) (Sum.inr w) = ((mean bk w).map V.str).or (valV kv (Sum.inr w))
  | [],kv,_,_,w => by
    show valV kv (Sum.inr w) = _
    rfl
  | b :: r,kv,nd,h,w => by
    obtain ⟨n1,n2⟩:=List.nodup_cons.mp nd
    replace n1:¬ b.1 ∈ r.map (·.1):=n1
    have hb:=h b List.mem_cons_self
    have e:∀ j,valV (putK kv (Sum.inr b.1) (V.str b.2)) j = if j = Sum.inr b.1 then some (V.str b.2) else valV kv j:=fun j => by
      rw [valV_put]
    show valV (mergeK (putK kv (Sum.inr b.1) (V.str b.2)) (bkK r)) (Sum.inr w) = _
    rw [merge_snocs r _ n2 (fun c hc => ?_) w,e]
    · show _ = ((if b.1 = w then some b.2 else mean r w).map V.str).or _
      by_cases z:b.1 = w
      · subst z
        rw [if_pos rfl,if_pos rfl]
        have:mean r b.1 = none:=by
          clear e hb h nd n2
          induction r with
          | nil => rfl
          | cons c t ih =>
            show (if c.1 = b.1 then _ else _) = none
            rw [if_neg (fun z => n1 (by rw [← z]; exact List.mem_cons_self))]
            exact ih fun m => n1 (List.mem_cons_of_mem _ m)
        rw [this]
        rfl
      · have z2:¬ (Sum.inr w:Key) = Sum.inr b.1:=fun k => z (by injection k with k; exact k.symm)
        rw [if_neg z,if_neg z2]
    · rw [e]
      rw [if_neg (fun k => n1 (by injection k with k; rw [← k]; exact List.mem_map.mpr ⟨c,hc,rfl⟩))]
      exact h c (List.mem_cons_of_mem _ hc)
theorem merge_mean {bk:List (Str × Str)} (nd:(bk.map (·.1)).Nodup) (w:Str):valV (mergeK [] (bkK bk)) (Sum.inr w) = (mean bk w).map V.str:=by
  rw [merge_snocs bk [] nd (fun b _ => rfl) w]
  cases mean bk w <;> rfl
theorem mean_mem {bk:List (Str × Str)} (nd:(bk.map (·.1)).Nodup) {b:Str × Str} (h:b ∈ bk):mean bk b.1 = some b.2:=by
  induction bk with
  | nil => cases h
  | cons c r ih =>
    obtain ⟨n1,n2⟩:=List.nodup_cons.mp nd
    replace n1:¬ c.1 ∈ r.map (·.1):=n1
    show (if c.1 = b.1 then some c.2 else mean r b.1) = some b.2
    rcases List.mem_cons.mp h with z | z
    · subst z; rw [if_pos rfl]
    · rw [if_neg (fun k => n1 (by rw [k]; exact List.mem_map.mpr ⟨b,z,rfl⟩))]
      exact ih n2 z
theorem mean_of {bk:List (Str × Str)} {w m:Str} (h:mean bk w = some m):(w,m) ∈ bk:=by
  induction bk with
  | nil => cases h
  | cons c r ih =>
    unfold mean at h
    split at h
    · rename_i e
      cases h
      rw [← e]
      exact List.mem_cons_self
    · exact List.mem_cons_of_mem _ (ih h)
def Said (bk:List (Str × Str)) (ws ms:List Str):Prop:=ws.length = ms.length ∧ ∀ (i:Nat) w,ws[i]? = some w → mean bk w = ms[i]?
def sp_text_said (aC:Addr):Sp:=fun vs H Q E => ∃ (a b:Addr) (bk:List (Str × Str)) (ws:List Str),vs = [.ref a,.ref b] ∧ BkAt H a bk ∧ (bk.map (·.1)).Nodup ∧ (∀ x ∈ bk,x.2.length ≤ 100) ∧ rdL H b = some (ws.map V.str) ∧ ws.length ≤ 1000 ∧
  (∀ ms,1 ≤ ws.length → Said bk ws ms → ∀ H',Same H H' → Q (.str (Txt.join " " ms)) H') ∧
  (∀ (i:Nat) w,ws[i]? = some w → mean bk w = none → (∀ (j:Nat) v,j < i → ws[j]? = some v → mean bk v ≠ none) → ∀ (dx:Addr) (H':Hp),Same H H' → H' dx = some (xdO dx [("at",.int (i:Int))]) → E (.ref aC) (some dx) H') ∧
  (ws = [] → ∀ (dx:Addr) (H':Hp),Same H H' → H' dx = some (xdO dx [("at",.int 0)]) → E (.ref aC) (some dx) H')
theorem sc_text_said:FnScope ["book", "words", "meaning_of", "at", "word"] ["book", "words"] (defScope s_text_said):=⟨rfl,rfl,rfl,by decide +kernel,rfl,by decide +kernel,by decide +kernel⟩
theorem ok_text_said {aNoWord aTowerError:Addr} {f:Addr} {fd:FuncData} (F:Fun K "text_said" "text_said" s_text_said f fd) (G:Gs K mg aNoWord aTowerError) (c_NoWord_init:CalI P w K mg base 1 aNoWord ["self", "at"] (sp_NoWord_init aNoWord)):FnOk P w K mg base (CXr P w) 3 f fd ["book", "words"] (sp_text_said aNoWord):=by
  refine F.okX sc_text_said (fun vs H Q E h => ?_) (fun cdv A outer s H vs Q E hr h => ?_)
  · obtain ⟨a,b,bk,ws,rfl,_⟩:=h; rfl
  obtain ⟨a,b,bk,ws,rfl,hbk,hnd,h100,hb,hwl,q,qe,q0⟩:=h
  refine ⟨_,(@pss_cons _ _ _ _ _ (ps_if (mt_cmp (m_eqL hr.units0) (mv 1) (pe_lst pa_nil) (nomark _)) (@pss_one _ _ _ (ps_raiseI rais_of rfl rfl rfl G.c_NoWord G.xm_NoWord c_NoWord_init hr (by decide) (pa_cons pe_int pa_nil))) pss_nil) (@pss_cons _ _ _ _ _ (@ps_set _ _ 2 _ _ _ _ sc_text_said.nd (by rfl) (by exact (Or.inr rfl)) (pe_callTy (m_dictPairs rfl) rfl G.b_dict bt_dict (pa_cons (mv 0) pa_nil)) (by rfl) (by first | exact Or.inl rfl | exact Or.inr rfl)) (@pss_cons _ _ _ _ _ (pj_for PassesOwn.leaving rfl (pj_enum rfl G.b_enumerate (pa_cons (mv 1) pa_nil)) (pg_pair (K:=K) (i:=3) (j:=4) (by rfl) (by rfl) sc_text_said.nd (by rfl) (by exact (Or.inl rfl)) (by exact Or.inl rfl) (by rfl) (by exact (Or.inl rfl)) (by exact Or.inl rfl)) (@pss_one _ _ _ (ps_if (mt_cmp (m_notInD (Room.u1 hr)) (mv 4) (mv 2) (by rfl)) (@pss_one _ _ _ (ps_raiseI rais_of rfl rfl rfl G.c_NoWord G.xm_NoWord c_NoWord_init hr (by decide) (pa_cons (mv 3) pa_nil))) pss_nil))) (@pss_one _ _ _ (ps_ret (me_meth PySem.F.plainAttrs_str PySem.F.slot_str_join PySem.F.type_str_join m_join pe_str (pa_cons (pe_comp rfl (pj_list (mv 1)) (clOkF (N:=["word", "meaning_of"]) ["book", "words", "meaning_of", "at", "word"] (defScope s_text_said) [none,some 2] rfl rfl rfl (fun x h => cell_has h) (by decide +kernel)) (by decide +kernel) rfl (by decide +kernel) (fun C s₀ H₀ ex => (pg_name (i:=0) (show List.Nodup (["word", "meaning_of"]:List Str) by decide +kernel) rfl (Or.inl rfl))) (fun C s₀ H₀ ex => pf_nil) (fun C s₀ H₀ ex => (pe_dget (Room.u1 hr) (mv 1) (mv 0) (fun _ _ => rfl)))) pa_nil))))))),?_⟩
  walk_at "go"
  refine ⟨by decide,fun pe hpe => ?_⟩
  have s1:=same_upd hpe (.lst [])
  have r1:rdL (upd H pe (.lst [])) pe = some []:=rdL_same
  generalize upd H pe (.lst []) = H1 at s1 r1 ⊢
  have hb1:=rdL_keep s1 hb
  refine s_eqL hb1 r1 (allFlat_str _) rfl ?_
  rw [if_neg Bool.false_ne_true]
  walk_at "go"
  cases ws with
  | nil =>
    rw [show eqVs (List.map V.str ([]:List Str)) [] = true from rfl]
    walk_at "go"
    refine ⟨by show 1 ≤ sizeLine; decide,fun ea hea => ⟨ea,_,rfl,upd_same,fun dx hdx => ⟨rfl,some dx,(exc_dx hdx).1,?_⟩⟩⟩
    exact q0 rfl dx _ (same_exc s1 hea hdx) (exc_dx hdx).2
  | cons w0 wr =>
    rw [show eqVs (List.map V.str (w0 :: wr)) [] = false from rfl]
    generalize hws:w0 :: wr = ws at hb hwl q qe q0 hb1
    have h1:1 ≤ ws.length:=by rw [← hws,List.length_cons]; omega
    clear hws
    have bk1:=hbk.keep s1
    obtain ⟨qs,b1,b2,b3⟩:=bk1
    have hql:qs.length = (bkK bk).length:=by unfold bkK; rw [List.length_map,b2]
    walk_at "go"
    refine s_dictPairs (kvs:=bkK bk) b1 ⟨hql,fun j p kv hp hkv => ?_⟩ fun r hr => ?_
    · unfold bkK at hkv
      rw [List.getElem?_map] at hkv
      cases e:bk[j]? with
      | none => rw [e] at hkv; cases hkv
      | some u =>
        rw [e] at hkv
        cases hkv
        exact b3 j p u hp e
    · have s2:=s1.trans (same_upd hr (.dK (mergeK [] (bkK bk))))
      have d2:(upd H1 r (.dK (mergeK [] (bkK bk)))) r = _:=upd_same
      generalize upd H1 r (.dK (mergeK [] (bkK bk))) = H2 at s2 d2 ⊢
      have hb2:=rdL_keep s2 hb
      walk_at "go"
      refine fj_enum (xs:=ws.map V.str) (fun i σ H' => ∃ v3 v4:Option V,σ = [some (.ref a),some (.ref b),some (.ref r),v3,v4] ∧ Same H2 H' ∧ ∀ (j:Nat) v,j < i → ws[j]? = some v → mean bk v ≠ none)
        ⟨_,_,rfl,Same.refl _,fun j v hj => absurd hj (Nat.not_lt_zero _)⟩ (fun i σ H' _ ⟨_,_,_,e,_⟩ => rdL_keep e hb2) ?_ ?_
      · rintro i x σ H3 pt hx ⟨v3,v4,rfl,s3,hfd⟩ hpt
        obtain ⟨w1,hw1,rfl⟩:=of_map_str hx
        have s4:=s3.trans (same_upd hpt (.tup [V.int ((0 + i:Nat):Int),V.str w1]))
        have d4:=s4 _ _ d2
        walk_at "go"
        refine s_inD (neg:=true) (z:=w1) (.inl d4) ?_
        rw [merge_mean hnd,if_pos rfl]
        walk_at "go"
        cases e:mean bk w1 with
        | none =>
          rw [show (Option.map V.str (none:Option Str)).isSome = false from rfl]
          walk_at "go"
          refine ⟨by show 1 ≤ sizeLine; decide,fun ea hea => ⟨ea,_,rfl,upd_same,fun dx hdx => ⟨rfl,some dx,(exc_dx hdx).1,?_⟩⟩⟩
          refine qe i w1 hw1 e hfd dx _ (same_exc (s2.trans s4) hea hdx) ?_
          rw [(exc_dx hdx).2,Nat.zero_add]
        | some m =>
          rw [show (Option.map V.str (some m)).isSome = true from rfl]
          walk_at "go"
          refine ⟨_,_,rfl,s4,fun j v hj hjv => ?_⟩
          by_cases ej:j = i
          · subst ej
            rw [hw1] at hjv
            cases hjv
            rw [e]
            exact fun z => by cases z
          · exact hfd j v (by omega) hjv
      · rintro σ H3 ⟨v3,v4,rfl,s3,hfd⟩
        have hwm:(ws.map V.str).length = ws.length:=List.length_map ..
        have d3:=s3 _ _ d2
        have hb3:=rdL_keep s3 hb2
        have all:∀ w1 ∈ ws,∃ m,mean bk w1 = some m:=fun w1 hw => by
          obtain ⟨j,hj,e⟩:=List.mem_iff_getElem.mp hw
          have:=hfd j w1 (by rw [hwm]; exact hj) (by rw [List.getElem?_eq_getElem hj,e])
          cases e2:mean bk w1 with
          | none => exact absurd e2 this
          | some m => exact ⟨m,rfl⟩
        walk_at "go"
        refine cw_listS (xs:=ws.map V.str) (fun x => match x with | .str z => (mean bk z).map V.str | _ => none) hb3 (by rw [hwm]; exact lt_line (by omega)) (fun i x Hc A B hx sm hA => ?_) (fun D Hd hD sD hd => ?_)
        · obtain ⟨w1,hw1,rfl⟩:=of_map_str hx
          obtain ⟨m,hm⟩:=all w1 (List.mem_of_getElem? hw1)
          walk_at "go"
          refine ⟨Wk.set rfl (Wk.refl _),?_⟩
          walk_at "go"
          refine s_dixL (z:=w1) (.inl (sm _ _ d3)) (by rw [merge_mean hnd,hm]; rfl) ?_
          have r:=hA _ (Same.refl _)
          simp only [hm] at r
          exact r
        · have said:Said bk ws (ws.filterMap (mean bk)) ∧ (ws.map V.str).filterMap (fun x => match x with | .str z => (mean bk z).map V.str | _ => none) = (ws.filterMap (mean bk)).map V.str:=by
            clear hfd hb hb1 hb2 hb3 q qe q0 hwl h1 hwm hd sD hD
            induction ws with
            | nil => exact ⟨⟨rfl,fun i w h => by cases h⟩,rfl⟩
            | cons w1 t ih =>
              obtain ⟨m,hm⟩:=all w1 List.mem_cons_self
              obtain ⟨⟨i1,i2⟩,i3⟩:=ih fun v hv => all v (List.mem_cons_of_mem _ hv)
              rw [List.filterMap_cons_some hm]
              refine ⟨⟨by rw [List.length_cons,List.length_cons,i1],fun i w hw => ?_⟩,?_⟩
              · cases i with
                | zero => cases hw; exact hm
                | succ i => exact i2 i w (by simpa using hw)
              · rw [List.map_cons,List.filterMap_cons_some (b:=V.str m) (by show (mean bk w1).map V.str = _; rw [hm]; rfl),i3]
                rfl
          rw [said.2] at hd
          have hml:∀ m ∈ ws.filterMap (mean bk),m.length ≤ 100:=fun m hm => by
            obtain ⟨w1,_,e⟩:=List.mem_filterMap.mp hm
            exact h100 _ (mean_of e)
          have hsl:(ws.filterMap (mean bk)).length = ws.length:=said.1.1.symm
          have sums:∀ ms:List Str,(∀ m ∈ ms,m.length ≤ 100) → (ms.map (·.length)).sum ≤ 100 * ms.length:=fun ms h => by
            induction ms with
            | nil => exact Nat.le_refl _
            | cons m t ih =>
              rw [List.map_cons,List.sum_cons,List.length_cons]
              have h1:=h m List.mem_cons_self
              have h2:=ih fun x hx => h x (List.mem_cons_of_mem _ hx)
              omega
          have hsum:=sums _ hml
          walk_at "go"
          refine s_join (rdL_of hd) (by rw [show (Str.ofString " ").length = 1 from rfl]; omega) ?_
          exact q _ h1 said.1 Hd (s2.trans (s3.trans sD))
def termB (z:Str):Bool:=if z.length < 1 ∨ 10 < z.length then false else z.cps.toList.all fun c => decide (c ∈ tmsT.cps.toList)
abbrev parts (z:Str):List Str:=Txt.split z (Str.ofString " ")
def rowB (z:Str) (n:Int):Bool:=decide (((parts z).length:Int) ≤ n) && (parts z).all termB
theorem parts_len {z y:Str} (h:y ∈ parts z):y.length ≤ z.length:=by
  have:=PySem.join_mem_le (Str.ofString " ") (parts z) y h
  rw [StrLaws.join_split] at this
  exact this
theorem parts_many (z:Str):(parts z).length ≤ z.length + 2:=by
  unfold parts Txt.split
  split
  · show 1 ≤ _; omega
  · split
    · show 1 ≤ _; omega
    · rw [PySem.length_partsBetween]
      have e1:=StrLaws.occ_length_le z (Str.ofString " ") 0 z.length (z.length + 1)
      omega
def sp_is_term:Sp:=fun vs H Q _ => ∃ z,vs = [.str z] ∧ z.length ≤ 1000 ∧ ∀ H',Same H H' → Q (.bl (termB z)) H'
def sp_is_row_of_terms:Sp:=fun vs H Q _ => ∃ z n,vs = [.str z,.int n] ∧ z.length ≤ 1000 ∧ ∀ H',Same H H' → Q (.bl (rowB z n)) H'
theorem sc_is_term:FnScope ["text"] ["text"] (defScope s_is_term):=⟨rfl,rfl,rfl,by decide +kernel,rfl,by decide +kernel,by decide +kernel⟩
theorem ok_is_term {aNoWord aTowerError:Addr} {f:Addr} {fd:FuncData} (F:Fun K "is_term" "is_term" s_is_term f fd) (G:Gs K mg aNoWord aTowerError)  : FnOk P w K mg base CX0 1 f fd ["text"] sp_is_term:=by
  refine F.ok sc_is_term (fun vs H Q E h => ?_) (fun cdv A outer s H vs Q E hr h => ?_)
  · obtain ⟨z,rfl,_⟩:=h; rfl
  obtain ⟨z,rfl,hl,q⟩:=h
  refine ⟨_,(@pss_cons _ _ _ _ _ (ps_if (PW.pt (pw_or (mt_cmp m_lt (pe_callB m_len rfl G.b_len bt_len (pa_cons (mv 0) pa_nil)) pe_int (nomark _)) (pw_or1 (mt_cmp m_gt (pe_callB m_len rfl G.b_len bt_len (pa_cons (mv 0) pa_nil)) (pe_gint rfl G.s_LONGEST_TERM) (nomark _))))) (@pss_one _ _ _ (ps_ret pe_bl)) pss_nil) (@pss_one _ _ _ (ps_ret (pe_callB (m_all rfl) rfl G.b_all bt_all (pa_cons (pe_comp rfl (pj_str (mv 0)) (clOk0 (N:=["sign"]) (by decide +kernel) (by decide +kernel)) (by decide +kernel) rfl (by decide +kernel) (fun C s₀ H₀ ex => (pg_name (i:=0) (show List.Nodup (["sign"]:List Str) by decide +kernel) rfl (Or.inl rfl))) (fun C s₀ H₀ ex => pf_nil) (fun C s₀ H₀ ex => (pe_cmpR m_inS (mv 0) (pe_gstr rfl G.s_TERM_LETTERS) (by rfl)))) pa_nil))))),?_⟩
  walk_at "go"
  refine ite2 (fun hc => ?_) (fun hc => ?_)
  · walk_at "go"
    have e:termB z = false:=if_pos (.inl (by have:=of_decide_eq_true hc; omega))
    have r:=q H (Same.refl H)
    rw [e] at r
    exact r
  · have hc':=of_decide_eq_false (Bool.eq_false_iff.mpr hc)
    walk_at "go"
    refine ite2 (fun hd => ?_) (fun hd => ?_)
    · walk_at "go"
      have e:termB z = false:=if_pos (.inr (by have:=of_decide_eq_true hd; omega))
      have r:=q H (Same.refl H)
      rw [e] at r
      exact r
    · have hd':=of_decide_eq_false (Bool.eq_false_iff.mpr hd)
      walk_at "go"
      refine cw_str (fun c => some (.bl (decide (c ∈ tmsT.cps.toList)))) (lt_line (by omega)) (fun i c Hc A B hc' hA => ?_) (fun D hD => ?_)
      · walk_at "go"
        refine ⟨Wk.set rfl (Wk.refl _),?_⟩
        walk_at "go"
        have e:subIn ⟨#[c]⟩ tmsT = decide (c ∈ tmsT.cps.toList):=subIn_one _ _
        show A (.bl (subIn ⟨#[c]⟩ tmsT)) Hc
        rw [e]
        exact hA
      · walk_at "go"
        have e:z.cps.toList.filterMap (fun c => some (V.bl (decide (c ∈ tmsT.cps.toList)))) = (z.cps.toList.map fun c => decide (c ∈ tmsT.cps.toList)).map V.bl:=by
          rw [List.map_map]
          exact fm_some _ _
        rw [e]
        have sm:Same H (upd H D (.lst ((z.cps.toList.map fun c => decide (c ∈ tmsT.cps.toList)).map V.bl))):=same_upd hD _
        refine s_all (bs:=z.cps.toList.map fun c => decide (c ∈ tmsT.cps.toList)) rdL_same ?_
        have e2:termB z = (z.cps.toList.map fun c => decide (c ∈ tmsT.cps.toList)).all id:=by
          unfold termB
          rw [if_neg (by omega),List.all_map]
          rfl
        have r:=q _ sm
        rw [e2] at r
        exact r
theorem sc_is_row_of_terms:FnScope ["text", "most", "terms"] ["text", "most"] (defScope s_is_row_of_terms):=⟨rfl,rfl,rfl,by decide +kernel,rfl,by decide +kernel,by decide +kernel⟩
theorem ok_is_row_of_terms {aNoWord aTowerError:Addr} {f:Addr} {fd:FuncData} (F:Fun K "is_row_of_terms" "is_row_of_terms" s_is_row_of_terms f fd) (G:Gs K mg aNoWord aTowerError) (c_is_term:Cal P w K mg base 1 "is_term" ["text"] sp_is_term):FnOk P w K mg base CX0 2 f fd ["text", "most"] sp_is_row_of_terms:=by
  refine F.ok sc_is_row_of_terms (fun vs H Q E h => ?_) (fun cdv A outer s H vs Q E hr h => ?_)
  · obtain ⟨z,n,rfl,_⟩:=h; rfl
  obtain ⟨z,n,rfl,hl,q⟩:=h
  refine ⟨_,(@pss_cons _ _ _ _ _ (@ps_set _ _ 2 _ _ _ _ sc_is_row_of_terms.nd (by rfl) (by exact (Or.inl rfl)) (me_meth PySem.F.plainAttrs_str PySem.F.slot_str_split PySem.F.type_str_split m_split (mv 0) (@pa_str _ _ _ _ _ _ pa_nil)) (by rfl) (by first | exact Or.inl rfl | exact Or.inr rfl)) (@pss_one _ _ _ (ps_ret (me_and (pe_cmpR m_le (pe_callB m_len rfl G.b_len bt_len (pa_cons (mv 2) pa_nil)) (mv 1) (nomark _)) (pe_one (pe_callB (m_all rfl) rfl G.b_all bt_all (pa_cons (pe_comp rfl (pj_list (mv 2)) (clOk0 (N:=["term"]) (by decide +kernel) (by decide +kernel)) (by decide +kernel) rfl (by decide +kernel) (fun C s₀ H₀ ex => (pg_name (i:=0) (show List.Nodup (["term"]:List Str) by decide +kernel) rfl (Or.inl rfl))) (fun C s₀ H₀ ex => pf_nil) (fun C s₀ H₀ ex => (pe_cal c_is_term hr (by decide) rfl (pa_cons (mv 0) pa_nil)))) pa_nil))))))),?_⟩
  walk_at "go"
  refine s_split rfl (by omega) fun r hr => ?_
  have s1:=same_upd hr (.lst ((parts z).map V.str))
  have r1:rdL (upd H r (.lst ((parts z).map V.str))) r = some ((parts z).map V.str):=rdL_same
  show gName _ _ _ (upd H r (.lst ((parts z).map V.str))) _
  generalize upd H r (.lst ((parts z).map V.str)) = H1 at s1 r1 ⊢
  have hpl:((parts z).map V.str).length = (parts z).length:=List.length_map ..
  have hpm:=parts_many z
  walk_at "go"
  rw [hpl]
  unfold rowB at q
  refine ite2 (fun hc => ?_) (fun hc => ?_)
  · rw [show decide (((parts z).length:Int) ≤ n) = true from hc,Bool.true_and] at q
    walk_at "go"
    refine cw_listS (xs:=(parts z).map V.str) (fun x => match x with | .str y => some (.bl (termB y)) | _ => none) r1 (by rw [hpl]; exact lt_line (by omega)) (fun i x Hc A B hx sm hA => ?_) (fun D Hd hD sD hd => ?_)
    · obtain ⟨y,hy,rfl⟩:=of_map_str hx
      walk_at "go"
      refine ⟨Wk.set rfl (Wk.refl _),?_⟩
      walk_at "go"
      refine ⟨y,rfl,by have:=parts_len (List.mem_of_getElem? hy); omega,fun H2 s2 => ?_⟩
      exact hA _ s2
    · have e:((parts z).map V.str).filterMap (fun x => match x with | .str y => some (V.bl (termB y)) | _ => none) = ((parts z).map termB).map V.bl:=by
        rw [List.filterMap_map,List.map_map]
        exact fm_some (fun y => V.bl (termB y)) _
      rw [e] at hd
      walk_at "go"
      refine s_all (bs:=(parts z).map termB) (rdL_of hd) ?_
      have r:=q Hd (s1.trans sD)
      rw [show ((parts z).map termB).all id = (parts z).all termB by rw [List.all_map]; rfl]
      exact r
  · have hc':decide (((parts z).length:Int) ≤ n) = false:=Bool.eq_false_iff.mpr hc
    rw [hc',Bool.false_and] at q
    exact q _ s1
theorem term_true {t:List Nat} (h:TermC t):termB (strC t) = true:=by
  unfold termB
  rw [strC_len,if_neg (by have:=h.1; have:=h.2.1; omega),strC_list,List.all_eq_true]
  intro c hc
  have:=h.2.2 c hc
  refine decide_eq_true ?_
  have q:∀ k:_root_.Fin 26,(97 + k.val) ∈ tmsT.cps.toList:=by decide +kernel
  unfold isTm at this
  have e:=q ⟨c - 97,by omega⟩
  rwa [show 97 + (c - 97) = c by omega] at e
theorem parts_mean {ts:List (List Nat)} (h1:1 ≤ ts.length) (h:∀ t ∈ ts,TermC t):parts (meanC ts) = ts.map strC:=by
  refine split_join (L:=ts.map strC) (fun z => ?_) (fun z hz => ?_)
  · rw [List.map_eq_nil_iff] at z
    rw [z] at h1
    exact absurd h1 (by decide)
  · obtain ⟨t,ht,rfl⟩:=List.mem_map.mp hz
    rw [strC_list]
    intro m
    have:=(h t ht).2.2 32 m
    unfold isTm at this
    omega
theorem mean_lenN (ts:List (List Nat)) (h:∀ t ∈ ts,TermC t):(meanC ts).length ≤ 11 * ts.length:=by
  have e:=PySem.StrLaws.join_length_le (Str.ofString " ") (ts.map strC)
  have e2:meanC ts = Str.join (Str.ofString " ") (ts.map strC):=PySem.StrLaws.glued_eq_join _ _
  have s1:=sum_terms ts h
  rw [e2]
  rw [List.length_map,show (Str.ofString " ").length = 1 from rfl] at e
  omega
def TsAt (H:Hp) (r:Addr) (ts:List (List Nat)):Prop:=H r = some (.lst ((ts.map strC).map V.str))
def sp_terms_of:Sp:=fun vs H Q _ => ∃ ts:List (List Nat),vs = [.str (meanC ts)] ∧ 1 ≤ ts.length ∧ ts.length ≤ 40 ∧ (∀ t ∈ ts,TermC t) ∧ ∀ (r:Addr) (H':Hp),H r = none → Same H H' → TsAt H' r ts → Q (.ref r) H'
theorem sc_terms_of:FnScope ["text"] ["text"] (defScope s_terms_of):=⟨rfl,rfl,rfl,by decide +kernel,rfl,by decide +kernel,by decide +kernel⟩
theorem ok_terms_of {aNoWord aTowerError:Addr} {f:Addr} {fd:FuncData} (F:Fun K "terms_of" "terms_of" s_terms_of f fd) (G:Gs K mg aNoWord aTowerError) (c_is_row_of_terms:Cal P w K mg base 2 "is_row_of_terms" ["text", "most"] sp_is_row_of_terms):FnOk P w K mg base CX0 3 f fd ["text"] sp_terms_of:=by
  refine F.ok sc_terms_of (fun vs H Q E h => ?_) (fun cdv A outer s H vs Q E hr h => ?_)
  · obtain ⟨ts,rfl,_⟩:=h; rfl
  obtain ⟨ts,rfl,h1,h40,hT,q⟩:=h
  refine ⟨_,(@pss_cons _ _ _ _ _ (ps_if (pt_not (mt_truth (pe_cal c_is_row_of_terms hr (by decide) rfl (pa_cons (mv 0) (pa_cons (pe_gint rfl G.s_MOST_TERMS) pa_nil))))) (@pss_one _ _ _ ps_never) pss_nil) (@pss_one _ _ _ (ps_ret (me_meth PySem.F.plainAttrs_str PySem.F.slot_str_split PySem.F.type_str_split m_split (mv 0) (@pa_str _ _ _ _ _ _ pa_nil))))),?_⟩
  have hl:=mean_lenN ts hT
  have hp:=parts_mean h1 hT
  have hr:rowB (meanC ts) 40 = true:=by
    unfold rowB
    rw [hp,List.length_map,decide_eq_true (by omega),Bool.true_and,List.all_eq_true]
    intro z hz
    obtain ⟨t,ht,rfl⟩:=List.mem_map.mp hz
    exact term_true (hT t ht)
  walk_at "go"
  refine ⟨meanC ts,40,rfl,by omega,fun H1 s1 => ?_⟩
  rw [hr]
  walk_at "go"
  refine s_split rfl (by omega) fun r hr1 => ?_
  rw [show Txt.split (meanC ts) (Str.ofString " ") = ts.map strC from hp]
  exact q r _ (none_of s1 hr1) (s1.trans (same_upd hr1 _)) upd_same
def MsAt (H:Hp) (r:Addr) (mss:List (List (List Nat))):Prop:=∃ ps:List Addr,H r = some (.lst (ps.map V.ref)) ∧ ps.length = mss.length ∧ ∀ (j:Nat) p ms,ps[j]? = some p → mss[j]? = some ms → TsAt H p ms
theorem MsAt.keep {H H':Hp} {r:Addr} {mss:List (List (List Nat))} (h:MsAt H r mss) (s:Same H H'):MsAt H' r mss:=by
  obtain ⟨ps,h1,h2,h3⟩:=h
  exact ⟨ps,s _ _ h1,h2,fun j p ms hp hm => s _ _ (h3 j p ms hp hm)⟩
def MeansAre (bk:List (Str × Str)) (mss:List (List (List Nat))):Prop:=mss.length = bk.length ∧ ∀ (j:Nat) b ms,bk[j]? = some b → mss[j]? = some ms → b.2 = meanC ms ∧ 1 ≤ ms.length ∧ ms.length ≤ 5 ∧ ∀ t ∈ ms,TermC t
theorem means_of {bk:List (Str × Str)} (h:GoodBk bk):∃ mss,MeansAre bk mss:=by
  have hm:=h.mean
  clear h
  induction bk with
  | nil => exact ⟨[],rfl,fun j b ms hb => by cases hb⟩
  | cons b r ih =>
    obtain ⟨ms,e,h1,h5,hT⟩:=hm b List.mem_cons_self
    obtain ⟨mss,hl,hh⟩:=ih fun c hc => hm c (List.mem_cons_of_mem _ hc)
    refine ⟨ms :: mss,by rw [List.length_cons,List.length_cons,hl],fun j c us hc hu => ?_⟩
    cases j with
    | zero => cases hc; cases hu; exact ⟨e,h1,h5,hT⟩
    | succ j => exact hh j c us (by simpa using hc) (by simpa using hu)
def sp_meanings_of:Sp:=fun vs H Q _ => ∃ (a:Addr) (bk:List (Str × Str)) (mss:List (List (List Nat))),vs = [.ref a] ∧ BkAt H a bk ∧ bk.length ≤ 60 ∧ MeansAre bk mss ∧ ∀ (r:Addr) (H':Hp),H r = none → Same H H' → MsAt H' r mss → Q (.ref r) H'
theorem sc_meanings_of:FnScope ["book"] ["book"] (defScope s_meanings_of):=⟨rfl,rfl,rfl,by decide +kernel,rfl,by decide +kernel,by decide +kernel⟩
theorem ok_meanings_of {aNoWord aTowerError:Addr} {f:Addr} {fd:FuncData} (F:Fun K "meanings_of" "meanings_of" s_meanings_of f fd) (G:Gs K mg aNoWord aTowerError)  : FnOk P w K mg base CX0 1 f fd ["book"] sp_meanings_of:=by
  refine F.ok sc_meanings_of (fun vs H Q E h => ?_) (fun cdv A outer s H vs Q E hr h => ?_)
  · obtain ⟨a,bk,mss,rfl,_⟩:=h; rfl
  obtain ⟨a,bk,mss,rfl,hbk,h60,hms,q⟩:=h
  refine ⟨_,(@pss_one _ _ _ (ps_ret (pe_comp rfl (pj_list (mv 0)) (clOk0 (N:=["word", "meaning"]) (by decide +kernel) (by decide +kernel)) (by decide +kernel) rfl (by decide +kernel) (fun C s₀ H₀ ex => (pg_pair (K:=K) (i:=0) (j:=1) (by rfl) (by rfl) (show List.Nodup (["word", "meaning"]:List Str) by decide +kernel) (by rfl) (by exact Or.inl rfl) (by exact Or.inr rfl) (by rfl) (by exact Or.inl rfl) (by exact Or.inr rfl))) (fun C s₀ H₀ ex => pf_nil) (fun C s₀ H₀ ex => (me_meth PySem.F.plainAttrs_str PySem.F.slot_str_split PySem.F.type_str_split m_split (mv 1) (@pa_str _ _ _ _ _ _ pa_nil)))))),?_⟩
  obtain ⟨qs,b1,b2,b3⟩:=id hbk
  have rq:=rdL_of b1
  have hql:(qs.map V.ref).length = bk.length:=by rw [List.length_map,b2]
  walk_at "go"
  refine cw_gen (n:=bk.length) (fun D i ys Hc => Same H Hc ∧ ∃ ps:List Addr,ys = ps.map V.ref ∧ ps.length = i ∧ ∀ (j:Nat) p ms,ps[j]? = some p → mss[j]? = some ms → p ≠ D ∧ TsAt Hc p ms) (lt_line (by omega)) (fun D hD => ⟨same_upd hD _,[],rfl,rfl,fun j p ms hp => by cases hp⟩) (fun D i ys Hc hD r hi => ?_) (fun D ys Hc hD r => ?_) ?_ (fun D ys Hc hD r hDc hyl => ?_)
  · exact ⟨_,(qs.map V.ref)[i]'(by omega),rdL_sq (rdL_keep r.1 rq),List.getElem?_eq_getElem _⟩
  · exact ⟨_,rdL_sq (rdL_keep r.1 rq),by omega⟩
  · rintro D i ys Hc x H' A B hD hi ⟨sm,ps,rfl,hpl,hps⟩ hDc y hA hB
    obtain ⟨rfl,hx⟩:=y
    have hx':=hx _ (rdL_sq (rdL_keep sm rq))
    rw [List.getElem?_map] at hx'
    have hq:qs[i]? = some (qs[i]'(by omega)):=List.getElem?_eq_getElem _
    rw [hq] at hx'
    cases hx'
    have hbi:bk[i]? = some bk[i]:=List.getElem?_eq_getElem hi
    have tp:=sm _ _ (b3 i _ _ hq hbi)
    obtain ⟨ms,hmi⟩:∃ ms,mss[i]? = some ms:=⟨_,List.getElem?_eq_getElem (by rw [hms.1]; exact hi)⟩
    obtain ⟨e2,m1,m5,mT⟩:=hms.2 i _ ms hbi hmi
    have hl:=mean_lenN ms mT
    have hp:=parts_mean m1 mT
    rw [e2] at tp
    have tpl:=tupL_of tp
    walk_at "go"
    refine ⟨Wk.set rfl (Wk.set rfl (Wk.refl _)),?_⟩
    walk_at "go"
    refine s_split rfl (by omega) fun p5 hp5 => ?_
    rw [show Txt.split (meanC ms) (Str.ofString " ") = ms.map strC from hp]
    have nD:p5 ≠ D:=fun z => by rw [z,hDc] at hp5; cases hp5
    refine hA (.ref p5) _ (by rw [upd_ne (Ne.symm nD)]; exact hDc) ⟨?_,ps ++ [p5],by rw [List.map_append]; rfl,by rw [List.length_append,hpl]; rfl,fun j p us hpj hmj => ?_⟩
    · refine same_put hD (sm.trans (same_upd hp5 _))
    · by_cases hj:j < ps.length
      · rw [List.getElem?_append_left hj] at hpj
        obtain ⟨n1,t1⟩:=hps j p us hpj hmj
        refine ⟨n1,?_⟩
        unfold TsAt at t1 ⊢
        rw [upd_ne n1]
        exact same_upd hp5 _ _ _ t1
      · have ej:j = ps.length:=by
          have:=(List.getElem?_eq_some_iff.mp hpj).1
          rw [List.length_append] at this
          have:j < ps.length + 1:=this
          omega
        subst ej
        rw [List.getElem?_append_right (Nat.le_refl _),Nat.sub_self] at hpj
        cases hpj
        rw [hpl,hmi] at hmj
        cases hmj
        refine ⟨nD,?_⟩
        unfold TsAt
        rw [upd_ne nD,upd_same]
  · obtain ⟨sm,ps,rfl,hpl,hps⟩:=r
    exact q D Hc hD sm ⟨ps,hDc,by rw [hpl,hms.1],fun j p ms hp hm => (hps j p ms hp hm).2⟩
theorem eqVs_self:∀ xs:List V,xs.all flatV = true → eqVs xs xs = true:=fun xs h => by
  rw [eqVs_same rfl,List.all_eq_true]
  intro i hi
  have f:=flat_getD h i
  generalize xs.getD i .non = x at f ⊢
  cases x with
  | non => rfl
  | bl b => show (b == b) = true; simp
  | int i => show (i == i) = true; simp
  | str z => show (z == z) = true; simp
  | _ => cases f
theorem eqVs_strs (xs ys:List Str):eqVs (xs.map V.str) (ys.map V.str) = decide (xs = ys):=by
  by_cases e:xs = ys
  · subst e
    rw [eqVs_self _ (allFlat_str _),decide_eq_true rfl]
  · rw [decide_eq_false e]
    by_cases hl:xs.length = ys.length
    · cases h:eqVs (xs.map V.str) (ys.map V.str) with
      | false => rfl
      | true =>
        rw [eqVs_same (by rw [List.length_map,List.length_map,hl]),List.all_eq_true,List.length_map] at h
        refine absurd (List.ext_getElem hl fun j h1 h2 => ?_) e
        have q:=h j (List.mem_range.mpr h1)
        rw [List.getD_eq_getElem?_getD,List.getD_eq_getElem?_getD,List.getElem?_map,List.getElem?_map,List.getElem?_eq_getElem h1,List.getElem?_eq_getElem h2] at q
        have q2:(xs[j] == ys[j]) = true:=q
        exact eq_of_beq q2
    · exact eqVs_len (by rw [List.length_map,List.length_map]; exact hl)
theorem cutV_mid {xs:List V} {s l:Nat} (h:s ≤ xs.length):cutV xs (some (s:Int)) (some ((s:Int) + (l:Int))) = (xs.drop s).take l:=by
  unfold cutV
  show (xs.drop (if (s:Int) < 0 then ((s:Int) + (xs.length:Int)).toNat else min (s:Int).toNat xs.length)).take ((if (s:Int) + (l:Int) < 0 then ((s:Int) + (l:Int) + (xs.length:Int)).toNat else min ((s:Int) + (l:Int)).toNat xs.length) - (if (s:Int) < 0 then ((s:Int) + (xs.length:Int)).toNat else min (s:Int).toNat xs.length)) = _
  rw [if_neg (by omega),if_neg (by omega),show (s:Int).toNat = s from rfl,show ((s:Int) + (l:Int)).toNat = s + l by omega,Nat.min_eq_left h]
  by_cases hl:s + l ≤ xs.length
  · rw [Nat.min_eq_left hl,Nat.add_sub_cancel_left]
  · rw [Nat.min_eq_right (by omega),List.take_of_length_le (by rw [List.length_drop]; omega),List.take_of_length_le (by rw [List.length_drop]; omega)]
theorem map_strC_inj {a b:List (List Nat)} (h:a.map strC = b.map strC):a = b:=List.map_inj_right (fun _ _ e => strC_inj e) |>.mp h
def mLen (mss:List (List (List Nat))) (j:Nat):Nat:=(mss.getD j []).length
def Stands (mss:List (List (List Nat))) (T:List (List Nat)) (s j:Nat):Prop:=(T.drop s).take (mLen mss j) = mss.getD j []
instance (mss:List (List (List Nat))) (T:List (List Nat)) (s j:Nat):Decidable (Stands mss T s j):=inferInstanceAs (Decidable (_ = _))
def stand (mss:List (List (List Nat))) (T:List (List Nat)) (s:Nat):List Nat:=(List.range mss.length).filter fun j => decide (Stands mss T s j)
def stdF (mss:List (List (List Nat))) (T:List (List Nat)) (s i:Nat):Option V:=if Stands mss T s i then some (V.int (i:Int)) else none
theorem std_fm (mss:List (List (List Nat))) (T:List (List Nat)) (s:Nat):∀ n,(List.range n).filterMap (stdF mss T s) = ((List.range n).filter fun j => decide (Stands mss T s j)).map fun j:Nat => V.int (j:Int)
  | 0 => rfl
  | n + 1 => by
    rw [List.range_succ,List.filterMap_append,List.filter_append,List.map_append,std_fm mss T s n]
    congr 1
    by_cases h:Stands mss T s n
    · rw [List.filterMap_cons_some (b:=V.int (n:Int)) (by unfold stdF; rw [if_pos h]),List.filter_cons,if_pos (decide_eq_true h)]
      rfl
    · rw [List.filterMap_cons_none (by unfold stdF; rw [if_neg h]),List.filter_cons,if_neg (by rw [decide_eq_false h]; exact Bool.false_ne_true)]
      rfl
theorem stand_ok {mss:List (List (List Nat))} {T:List (List Nat)} {s j:Nat} (h:j ∈ stand mss T s):j < mss.length ∧ Stands mss T s j:=by
  obtain ⟨h1,h2⟩:=List.mem_filter.mp h
  exact ⟨List.mem_range.mp h1,of_decide_eq_true h2⟩
theorem stand_le {mss:List (List (List Nat))} {T:List (List Nat)} {s j:Nat} (h:Stands mss T s j) (hs:s ≤ T.length):s + mLen mss j ≤ T.length:=by
  have:=congrArg List.length h
  rw [List.length_take,List.length_drop] at this
  unfold mLen at this ⊢
  omega
theorem mLen_of {mss:List (List (List Nat))} {j:Nat} {ms:List (List Nat)} (h:mss[j]? = some ms):mss.getD j [] = ms:=by
  rw [List.getD_eq_getElem?_getD,h]
  rfl
def sp_standing_at:Sp:=fun vs H Q _ => ∃ (a b:Addr) (mss:List (List (List Nat))) (T:List (List Nat)) (s:Nat),vs = [.ref a,.ref b,.int (s:Int)] ∧ MsAt H a mss ∧ mss.length ≤ 60 ∧ TsAt H b T ∧ T.length ≤ 1000 ∧ s ≤ T.length ∧
  ∀ (r:Addr) (H':Hp),Same H H' → rdL H' r = some ((stand mss T s).map fun j:Nat => V.int (j:Int)) → Q (.ref r) H'
theorem sc_standing_at:FnScope ["meanings", "terms", "start"] ["meanings", "terms", "start"] (defScope s_standing_at):=⟨rfl,rfl,rfl,by decide +kernel,rfl,by decide +kernel,by decide +kernel⟩
theorem ok_standing_at {aNoWord aTowerError:Addr} {f:Addr} {fd:FuncData} (F:Fun K "standing_at" "standing_at" s_standing_at f fd) (G:Gs K mg aNoWord aTowerError)  : FnOk P w K mg base CX0 1 f fd ["meanings", "terms", "start"] sp_standing_at:=by
  refine F.ok sc_standing_at (fun vs H Q E h => ?_) (fun cdv A outer s H vs Q E hr h => ?_)
  · obtain ⟨a,b,mss,T,s,rfl,_⟩:=h; rfl
  obtain ⟨a,b,mss,T,st,rfl,hms,h60,hT,hTl,hst,q⟩:=h
  refine ⟨_,(@pss_one _ _ _ (ps_ret (pe_comp rfl (pj_enum rfl G.b_enumerate (pa_cons (mv 0) pa_nil)) (clOkF (N:=["number", "meaning", "terms", "start"]) ["meanings", "terms", "start"] (defScope s_standing_at) [none,none,some 1,some 2] rfl rfl rfl (fun x h => cell_has h) (by decide +kernel)) (by decide +kernel) rfl (by decide +kernel) (fun C s₀ H₀ ex => (pg_pair (K:=K) (i:=0) (j:=1) (by rfl) (by rfl) (show List.Nodup (["number", "meaning", "terms", "start"]:List Str) by decide +kernel) (by rfl) (by exact Or.inl rfl) (by exact Or.inr rfl) (by rfl) (by exact Or.inl rfl) (by exact Or.inr rfl))) (fun C s₀ H₀ ex => (pf_one (mt_cmp (m_eqL hr.units0) (pe_slice m_sl (mv 2) (mo_some (mv 3)) (mo_some (pe_op m_add (mv 3) (pe_callB m_len rfl G.b_len bt_len (pa_cons (mv 1) pa_nil))))) (mv 1) (nomark _)))) (fun C s₀ H₀ ex => (mv 0))))),?_⟩
  obtain ⟨ps,p1,p2,p3⟩:=id hms
  have rp:=rdL_of p1
  have hpl:(ps.map V.ref).length = mss.length:=by rw [List.length_map,p2]
  walk_at "go"
  refine cw_enum (k:=0) (xs:=ps.map V.ref) (fun i _ => stdF mss T st i) rp (by rw [hpl]; exact lt_line (by omega)) (fun i x Hc pt A B hx sm hpt hA => ?_) (fun D Hd hD sD hd => ?_)
  · rw [List.getElem?_map] at hx
    cases e:ps[i]? with
    | none => rw [e] at hx; cases hx
    | some pm =>
      rw [e] at hx
      cases hx
      have hi:i < mss.length:=by rw [← p2]; exact (List.getElem?_eq_some_iff.mp e).1
      obtain ⟨ms,hmi⟩:∃ ms,mss[i]? = some ms:=⟨_,List.getElem?_eq_getElem hi⟩
      have sc:=sm.trans (same_upd hpt (.tup [V.int ((0 + i:Nat):Int),V.ref pm]))
      have tm:=sc _ _ (p3 i pm ms e hmi)
      have tt:=sc _ _ hT
      have rm:=rdL_of tm
      have rt:=rdL_of tt
      have tpt:tupL (upd Hc pt (.tup [V.int ((0 + i:Nat):Int),V.ref pm])) pt = some [V.int ((0 + i:Nat):Int),V.ref pm]:=tupL_same
      have hml:((ms.map strC).map V.str).length = ms.length:=by rw [List.length_map,List.length_map]
      have htl:((T.map strC).map V.str).length = T.length:=by rw [List.length_map,List.length_map]
      have eg:=mLen_of hmi
      have hSt:Stands mss T st i ↔ (T.drop st).take ms.length = ms:=by unfold Stands mLen; rw [eg]
      generalize upd Hc pt (.tup [V.int ((0 + i:Nat):Int),V.ref pm]) = H2 at hA sc tm tt rm rt tpt ⊢
      walk_at "go"
      refine ⟨Wk.set rfl (Wk.set rfl (Wk.refl _)),?_⟩
      walk_at "go"
      rw [hml]
      intro r hr
      rw [cutV_mid (by rw [htl]; exact hst),← List.map_drop,← List.map_drop,← List.map_take,← List.map_take]
      have s3:=same_upd hr (.lst ((((T.drop st).take ms.length).map strC).map V.str))
      refine s_eqL rdL_same (rdL_keep s3 rm) (allFlat_str _) (allFlat_str _) ?_
      rw [if_neg Bool.false_ne_true,eqVs_strs]
      have r4:=hA _ s3
      generalize upd H2 r (.lst ((((T.drop st).take ms.length).map strC).map V.str)) = H3 at r4 ⊢
      walk_at "go"
      unfold stdF at r4
      by_cases z:Stands mss T st i
      · rw [if_pos z] at r4
        rw [decide_eq_true (congrArg (List.map strC) (hSt.mp z))]
        walk_at "go"
        rw [Nat.zero_add]
        exact r4
      · rw [if_neg z] at r4
        rw [decide_eq_false (fun k => z (hSt.mpr (map_strC_inj k)))]
        exact r4
  · rw [hpl,std_fm] at hd
    exact q D Hd sD hd
def tV:Option Int → V
  | none => .non
  | some n => .int n
def behL (mss:List (List (List Nat))) (T:List (List Nat)) (TB:List (Option Int)) (i:Nat):List (Option Int):=(stand mss T i).map fun j => TB.getD (i + mLen mss j) none
def knL (mss:List (List (List Nat))) (T:List (List Nat)) (TB:List (Option Int)) (i:Nat):List Int:=(behL mss T TB i).filterMap id
def RowOk (mss:List (List (List Nat))) (T:List (List Nat)) (TB:List (Option Int)) (i:Nat):Prop:=(knL mss T TB i = [] ∧ TB.getD i none = none) ∨ ∃ m,m ∈ knL mss T TB i ∧ (∀ a ∈ knL mss T TB i,m ≤ a) ∧ TB.getD i none = some (1 + m)
def Lens (mss:List (List (List Nat))):Prop:=mss.length ≤ 60 ∧ ∀ ms ∈ mss,1 ≤ ms.length ∧ ms.length ≤ 5
theorem mLen_pos {mss:List (List (List Nat))} (h:Lens mss) {j:Nat} (hj:j < mss.length):1 ≤ mLen mss j ∧ mLen mss j ≤ 5:=by
  unfold mLen
  rw [List.getD_eq_getElem?_getD,List.getElem?_eq_getElem hj]
  exact h.2 _ (List.getElem_mem hj)
theorem beh_congr {mss:List (List (List Nat))} (hL:Lens mss) {T:List (List Nat)} {TB TC:List (Option Int)} {i:Nat} (h:∀ k,i < k → TB.getD k none = TC.getD k none):behL mss T TB i = behL mss T TC i:=by
  unfold behL
  refine List.map_congr_left fun j hj => ?_
  have:=mLen_pos hL (stand_ok hj).1
  exact h _ (by omega)
theorem row_congr {mss:List (List (List Nat))} (hL:Lens mss) {T:List (List Nat)} {TB TC:List (Option Int)} {i:Nat} (h:∀ k,i ≤ k → TB.getD k none = TC.getD k none) (r:RowOk mss T TB i):RowOk mss T TC i:=by
  unfold RowOk knL at r ⊢
  rw [beh_congr hL (fun k hk => h k (by omega)),h i (Nat.le_refl _)] at r
  exact r
structure TabOk (mss:List (List (List Nat))) (T:List (List Nat)) (TB:List (Option Int)):Prop where
  len:TB.length = T.length + 1
  last:TB.getD T.length none = some 0
  small:∀ k n,TB.getD k none = some n → 0 ≤ n ∧ n ≤ 1000
  row:∀ i,i < T.length → RowOk mss T TB i
theorem tV_at {TB:List (Option Int)} {k:Nat} (h:k < TB.length):atI (TB.map tV) (k:Int) = some (tV (TB.getD k none)):=by
  refine atI_nat ?_
  rw [List.getElem?_map,List.getElem?_eq_getElem h,List.getD_eq_getElem?_getD,List.getElem?_eq_getElem h]
  rfl
theorem setO_getD {TB:List (Option Int)} {k i:Nat} {v:Option Int} (hk:k < TB.length):(TB.set k v).getD i none = if i = k then v else TB.getD i none:=by
  rw [List.getD_eq_getElem?_getD,List.getElem?_set,List.getD_eq_getElem?_getD]
  by_cases e:i = k
  · subst e; rw [if_pos rfl,if_pos rfl,if_pos hk]; rfl
  · rw [if_neg (fun z => e z.symm),if_neg e]
theorem kn_fm (bs:List (Option Int)):(bs.map tV).filterMap (fun x => match x with | .int n => some (V.int n) | _ => none) = (bs.filterMap id).map V.int:=by
  induction bs with
  | nil => rfl
  | cons b r ih =>
    cases b with
    | none => rw [List.map_cons,List.filterMap_cons_none rfl,ih,List.filterMap_cons_none rfl]
    | some n => rw [List.map_cons,List.filterMap_cons_some (f:=fun x => match x with | .int n => some (V.int n) | _ => none) (a:=tV (some n)) (b:=V.int n) rfl,ih,List.filterMap_cons_some (f:=id) (a:=some n) (b:=n) rfl]; rfl
def sp_least_numbers:Sp:=fun vs H Q _ => ∃ (a b:Addr) (mss:List (List (List Nat))) (T:List (List Nat)),vs = [.ref a,.ref b] ∧ MsAt H a mss ∧ Lens mss ∧ TsAt H b T ∧ T.length ≤ 40 ∧
  ∀ (r:Addr) (TB:List (Option Int)) (H':Hp),H r = none → Same H H' → H' r = some (.lst (TB.map tV)) → TabOk mss T TB → Q (.ref r) H'
theorem sc_least_numbers:FnScope ["meanings", "terms", "table", "start", "behind", "known"] ["meanings", "terms"] (defScope s_least_numbers):=⟨rfl,rfl,rfl,by decide +kernel,rfl,by decide +kernel,by decide +kernel⟩
theorem ok_least_numbers {aNoWord aTowerError:Addr} {f:Addr} {fd:FuncData} (F:Fun K "least_numbers" "least_numbers" s_least_numbers f fd) (G:Gs K mg aNoWord aTowerError) (c_standing_at:Cal P w K mg base 1 "standing_at" ["meanings", "terms", "start"] sp_standing_at):FnOk P w K mg base CX0 2 f fd ["meanings", "terms"] sp_least_numbers:=by
  refine F.ok sc_least_numbers (fun vs H Q E h => ?_) (fun cdv A outer s H vs Q E hr h => ?_)
  · obtain ⟨a,b,mss,T,rfl,_⟩:=h; rfl
  obtain ⟨a,b,mss,T,rfl,hms,hL,hT,h40,q⟩:=h
  refine ⟨_,(@pss_cons _ _ _ _ _ (@ps_set _ _ 2 _ _ _ _ sc_least_numbers.nd (by rfl) (by exact (Or.inr rfl)) (pe_op m_add (pe_op op_rep (pe_lst (pa_cons pe_non pa_nil)) (pe_callB m_len rfl G.b_len bt_len (pa_cons (mv 1) pa_nil))) (pe_lst (pa_cons pe_int pa_nil))) (by rfl) (by first | exact Or.inl rfl | exact Or.inr rfl)) (@pss_cons _ _ _ _ _ (pj_for PassesOwn.never rfl (pj_rangeD rfl G.b_range (pa_cons (pe_op m_sub (pe_callB m_len rfl G.b_len bt_len (pa_cons (mv 1) pa_nil)) pe_int) (pa_cons (pe_un m_neg pe_int) (pa_cons (pe_un m_neg pe_int) pa_nil)))) (pg_name (i:=3) sc_least_numbers.nd rfl (Or.inr rfl)) (@pss_cons _ _ _ _ _ (ps_setC (i:=4) sc_least_numbers.nd rfl (Or.inl rfl) rfl (pj_list (pe_cal c_standing_at hr (by decide) rfl (pa_cons (mv 0) (pa_cons (mv 1) (pa_cons (mv 3) pa_nil))))) (clOkF (N:=["number", "table", "start", "meanings"]) ["meanings", "terms", "table", "start", "behind", "known"] (defScope s_least_numbers) [none,some 2,some 3,some 0] rfl rfl rfl (fun x h => cell_has h) (by decide +kernel)) (by decide +kernel) rfl (by decide +kernel) (fun C s₀ H₀ ex => (pg_name (i:=0) (show List.Nodup (["number", "table", "start", "meanings"]:List Str) by decide +kernel) rfl (Or.inl rfl))) (fun C s₀ H₀ ex => pf_nil) (fun C s₀ H₀ ex => (pe_ix m_ix (mv 1) (pe_op m_add (mv 2) (pe_callB m_len rfl G.b_len bt_len (pa_cons (pe_ix m_ix (mv 3) (mv 0) (fun _ _ => rfl)) pa_nil))) (fun _ _ => rfl)))) (@pss_cons _ _ _ _ _ (ps_setC (i:=5) sc_least_numbers.nd rfl (Or.inl rfl) rfl (pj_list (mv 4)) (clOk0 (N:=["many"]) (by decide +kernel) (by decide +kernel)) (by decide +kernel) rfl (by decide +kernel) (fun C s₀ H₀ ex => (pg_name (i:=0) (show List.Nodup (["many"]:List Str) by decide +kernel) rfl (Or.inl rfl))) (fun C s₀ H₀ ex => (pf_one (mt_cmp m_notN (mv 0) pe_non (nomark _)))) (fun C s₀ H₀ ex => (mv 0))) (@pss_one _ _ _ (ps_if (mt_cmp (m_neL hr.units0) (mv 5) (pe_lst pa_nil) (nomark _)) (@pss_one _ _ _ (ps_asg (pe_op m_add pe_int (pe_callB (m_minL rfl) rfl G.b_min bt_min (pa_cons (mv 5) pa_nil))) (pg_sub (mv 2) (mv 3) set_list))) pss_nil))))) (@pss_one _ _ _ (ps_ret (mv 2))))),?_⟩
  have htl:((T.map strC).map V.str).length = T.length:=by rw [List.length_map,List.length_map]
  have rT:=rdL_of hT
  walk_at "go"
  refine ⟨by show 1 ≤ sizeLine; decide,fun p0 hp0 => ?_⟩
  have s0:=same_upd hp0 (.lst [V.non])
  have e0:(upd H p0 (.lst [V.non])) p0 = some (.lst [V.non]):=upd_same
  generalize upd H p0 (.lst [V.non]) = H0 at s0 e0 ⊢
  have rT0:=rdL_keep s0 rT
  walk_at "go"
  rw [htl]
  refine ⟨p0,_,[V.non],rfl,rfl,e0,by omega,by omega,by show 1 * ((T.length:Int)).toNat ≤ sizeLine; exact len_line (by omega),fun p1 hp1 => ?_⟩
  have er:(List.replicate ((T.length:Int)).toNat [V.non]).flatten = (List.replicate T.length (none:Option Int)).map tV:=by
    rw [show ((T.length:Int)).toNat = T.length from rfl]
    generalize T.length = n
    induction n with
    | zero => rfl
    | succ n ih => rw [List.replicate_succ,List.flatten_cons,ih,List.replicate_succ,List.map_cons]; rfl
  rw [er]
  have s1:=s0.trans (same_upd hp1 (.lst ((List.replicate T.length (none:Option Int)).map tV)))
  have e1:(upd H0 p1 (.lst ((List.replicate T.length (none:Option Int)).map tV))) p1 = _:=upd_same
  generalize upd H0 p1 (.lst ((List.replicate T.length (none:Option Int)).map tV)) = H1 at s1 e1 ⊢
  walk_at "go"
  refine ⟨by show 1 ≤ sizeLine; decide,fun p2 hp2 => ?_⟩
  have n2:p1 ≠ p2:=ne_of_none e1 hp2
  refine s_addL (xs:=(List.replicate T.length (none:Option Int)).map tV) (ys:=[V.int 0]) (by rw [mutL_ne n2]; exact mutL_of e1) mutL_same (len_line (by rw [List.length_map,List.length_replicate]; show _ + 1 ≤ _; omega)) fun tb htb => ?_
  rw [show (List.replicate T.length (none:Option Int)).map tV ++ [V.int 0] = (List.replicate T.length (none:Option Int) ++ [some 0]).map tV by rw [List.map_append]; rfl]
  have htbH:H tb = none:=none_of (s1.trans (same_upd hp2 _)) htb
  have s3:=s1.trans ((same_upd hp2 (.lst [V.int 0])).trans (same_upd htb (.lst ((List.replicate T.length (none:Option Int) ++ [some 0]).map tV))))
  have e3:(upd (upd H1 p2 (.lst [V.int 0])) tb (.lst ((List.replicate T.length (none:Option Int) ++ [some 0]).map tV))) tb = _:=upd_same
  generalize upd (upd H1 p2 (.lst [V.int 0])) tb (.lst ((List.replicate T.length (none:Option Int) ++ [some 0]).map tV)) = H3 at s3 e3 ⊢
  have rT3:=rdL_keep s3 rT
  walk_at "go"
  rw [htl]
  refine ⟨⟨by omega,by omega,by omega,by omega,rfl⟩,?_⟩
  have hcn:cntD ((T.length:Int) - 1) (-1) = T.length:=by unfold cntD; omega
  rw [hcn]
  have ini:∀ k,(List.replicate T.length (none:Option Int) ++ [some 0]).getD k none = if k = T.length then some 0 else none:=fun k => by
    rw [List.getD_eq_getElem?_getD]
    by_cases h1:k < T.length
    · rw [List.getElem?_append_left (by rw [List.length_replicate]; exact h1),List.getElem?_replicate,if_pos h1,if_neg (by omega)]
      rfl
    · rw [List.getElem?_append_right (by rw [List.length_replicate]; omega),List.length_replicate]
      by_cases h2:k = T.length
      · subst h2; rw [if_pos rfl,Nat.sub_self]; rfl
      · rw [if_neg h2,List.getElem?_eq_none (by show 1 ≤ _; omega)]; rfl
  refine fj_range3 (fun t σ H' => ∃ (TB:List (Option Int)) (v3 v4 v5:Option V),σ = [some (.ref a),some (.ref b),some (.ref tb),v3,v4,v5] ∧ Same H H' ∧ H' tb = some (.lst (TB.map tV)) ∧ TB.length = T.length + 1 ∧ TB.getD T.length none = some 0 ∧ (∀ k v,TB.getD k none = some v → 0 ≤ v ∧ v ≤ (t:Int)) ∧ (∀ i,T.length ≤ i + t → i < T.length → RowOk mss T TB i) ∧ ∀ i,i + t < T.length → TB.getD i none = none)
    ⟨List.replicate T.length none ++ [some 0],_,_,_,rfl,s3,e3,by rw [List.length_append,List.length_replicate]; rfl,by rw [ini,if_pos rfl],fun k v hv => ?_,fun i h1 h2 => absurd h1 (by omega),fun i hi => by rw [ini,if_neg (by omega)]⟩ ?_ ?_
  · rw [ini] at hv
    split at hv
    · cases hv; omega
    · cases hv
  · rintro t σ H4 ht ⟨TB,v3,v4,v5,rfl,s4,e4,hlen,hlast,hsm,hrow,hnone⟩
    obtain ⟨st,hst⟩:∃ st:Nat,st + t + 1 = T.length:=⟨T.length - 1 - t,by omega⟩
    rw [show (T.length:Int) - 1 + (t:Int) * (-1) = (st:Int) by omega]
    have hms4:=hms.keep s4
    have hT4:=s4 _ _ hT
    walk_at "go"
    refine ⟨a,b,mss,T,st,rfl,hms4,hL.1,hT4,by omega,by omega,fun rs H5 s5 e5 => ?_⟩
    have e45:=s5 _ _ e4
    obtain ⟨ps,p1',p2',p3'⟩:=hms4.keep s5
    walk_at "go"
    refine cw_listS (xs:=(stand mss T st).map fun j:Nat => V.int (j:Int)) (fun x => match x with | .int j => some (tV (TB.getD (st + mLen mss j.toNat) none)) | _ => none) e5 (by
      rw [List.length_map]
      have:(stand mss T st).length ≤ mss.length:=by unfold stand; have:=List.length_filter_le (fun j => decide (Stands mss T st j)) (List.range mss.length); rw [List.length_range] at this; exact this
      exact lt_line (by have:=hL.1; omega)) (fun i x Hc A B hx sm hA => ?_) (fun D Hd hD sD hd => ?_)
    · rw [List.getElem?_map] at hx
      cases e:(stand mss T st)[i]? with
      | none => rw [e] at hx; cases hx
      | some j =>
        rw [e] at hx
        cases hx
        obtain ⟨hj,hS⟩:=stand_ok (List.mem_of_getElem? e)
        have hle:=stand_le hS (by omega)
        have hpj:ps[j]? = some (ps[j]'(by omega)):=List.getElem?_eq_getElem _
        obtain ⟨ms,hmj⟩:∃ ms,mss[j]? = some ms:=⟨_,List.getElem?_eq_getElem hj⟩
        have tm:=sm _ _ (p3' j _ ms hpj hmj)
        have rm:=rdL_of tm
        have eg:=mLen_of hmj
        have hml:((ms.map strC).map V.str).length = mLen mss j:=by unfold mLen; rw [eg,List.length_map,List.length_map]
        have rps:=rdL_of (sm _ _ p1')
        have rtb:=rdL_of (sm _ _ e45)
        walk_at "go"
        refine ⟨Wk.set rfl (Wk.refl _),?_⟩
        walk_at "go"
        refine s_ixL rps (v:=.ref (ps[j]'(by omega))) (atI_nat (by rw [List.getElem?_map,hpj]; rfl)) ?_
        walk_at "go"
        rw [hml]
        refine s_ixL rtb (by rw [show (st:Int) + (mLen mss j:Int) = ((st + mLen mss j:Nat):Int) by omega]; exact tV_at (by omega)) ?_
        exact hA _ (Same.refl _)
    · have eb:((stand mss T st).map fun j:Nat => V.int (j:Int)).filterMap (fun x => match x with | .int j => some (tV (TB.getD (st + mLen mss j.toNat) none)) | _ => none) = (behL mss T TB st).map tV:=by
        unfold behL
        rw [List.filterMap_map,List.map_map]
        exact fm_some (fun j:Nat => tV (TB.getD (st + mLen mss j) none)) _
      rw [eb] at hd
      have e4d:=sD _ _ e45
      have rbD:=rdL_of hd
      have hbl:((behL mss T TB st).map tV).length ≤ 60:=by
        rw [List.length_map]
        unfold behL stand
        rw [List.length_map]
        have:=List.length_filter_le (fun j => decide (Stands mss T st j)) (List.range mss.length)
        rw [List.length_range] at this
        have:=hL.1
        omega
      walk_at "go"
      refine cw_listS (xs:=(behL mss T TB st).map tV) (fun x => match x with | .int n => some (V.int n) | _ => none) rbD (lt_line (by omega)) (fun i x Hc A B hx sm hA => ?_) (fun D2 Hd2 hD2 sD2 hd2 => ?_)
      · rw [List.getElem?_map] at hx
        cases e:(behL mss T TB st)[i]? with
        | none => rw [e] at hx; cases hx
        | some o =>
          rw [e] at hx
          cases hx
          have r:=hA _ (Same.refl _)
          cases o with
          | none =>
            walk_at "go"
            refine ⟨Wk.set rfl (Wk.refl _),?_⟩
            walk_at "go"
            exact r
          | some n =>
            walk_at "go"
            refine ⟨Wk.set rfl (Wk.refl _),?_⟩
            walk_at "go"
            exact r
      · rw [kn_fm] at hd2
        have hd2':Hd2 D2 = some (.lst ((knL mss T TB st).map V.int)):=hd2
        have e42:=sD2 _ _ e4d
        walk_at "go"
        refine ⟨by decide,fun pe hpe => ?_⟩
        have s6:=same_upd hpe (.lst [])
        refine s_eqL (neg:=true) (rdL_keep s6 (rdL_of hd2')) rdL_same (by rw [List.all_eq_true]; intro x hx; obtain ⟨n,_,rfl⟩:=List.mem_map.mp hx; rfl) rfl ?_
        have e6:=s6 _ _ e42
        have d6:=s6 _ _ hd2'
        have s06:=s4.trans (s5.trans (sD.trans (sD2.trans s6)))
        generalize upd Hd2 pe (.lst []) = H6 at s6 e6 d6 s06 ⊢
        have en:∀ xs:List V,eqVs xs [] = xs.isEmpty:=fun xs => by cases xs <;> rfl
        rw [if_pos rfl,en]
        have hst1:st < TB.length:=by omega
        have hstn:TB.getD st none = none:=hnone st (by omega)
        walk_at "go"
        cases hk:knL mss T TB st with
        | nil =>
          rw [show (List.map V.int ([]:List Int)).isEmpty = true from rfl]
          walk_at "go"
          refine ⟨TB,_,_,_,rfl,s06,e6,hlen,hlast,fun k v hv => by have:=hsm k v hv; omega,fun i h1 h2 => ?_,fun i hi => hnone i (by omega)⟩
          by_cases ei:i = st
          · subst ei; exact .inl ⟨hk,hstn⟩
          · exact hrow i (by omega) h2
        | cons k0 kr =>
          rw [show (List.map V.int (k0 :: kr)).isEmpty = false from rfl]
          rw [hk] at d6
          have nD:D2 ≠ tb:=fun z => by rw [z,sD2 _ _ e4d] at hd2'; rw [z] at hD2; rw [e4d] at hD2; cases hD2
          walk_at "go"
          refine s_minL (ns:=k0 :: kr) (rdL_of d6) (by rw [List.length_cons]; omega) fun m hm hmin => ?_
          walk_at "go"
          refine s_set (o:=.non) (mutL_of e6) (ixN_lt (by omega) (by rw [List.length_map]; omega)) ?_
          rw [show ((st:Nat):Int).toNat = st from rfl,show V.int (1 + m) = tV (some (1 + m)) from rfl,← List.map_set]
          have hmk:m ∈ knL mss T TB st:=by rw [hk]; exact hm
          have hmo:some m ∈ behL mss T TB st:=by
            obtain ⟨o,ho,e⟩:=List.mem_filterMap.mp hmk
            have e2:o = some m:=e
            rw [← e2]; exact ho
          obtain ⟨jj,hjj,ejj⟩:=List.mem_map.mp hmo
          have hmb:=hsm _ _ ejj
          have gd:∀ k,k ≠ st → TB.getD k none = (TB.set st (some (1 + m))).getD k none:=fun k hk => by rw [setO_getD hst1,if_neg hk]
          walk_at "go"
          refine ⟨TB.set st (some (1 + m)),_,_,_,rfl,same_put htbH s06,upd_same,by rw [List.length_set]; exact hlen,by rw [← gd _ (by omega)]; exact hlast,fun k v hv => ?_,fun i h1 h2 => ?_,fun i hi => by rw [← gd _ (by omega)]; exact hnone i (by omega)⟩
          · by_cases ek:k = st
            · subst ek
              rw [setO_getD hst1,if_pos rfl] at hv
              cases hv
              omega
            · rw [← gd k ek] at hv
              have:=hsm k v hv
              omega
          · by_cases ei:i = st
            · subst ei
              have ebe:behL mss T (TB.set i (some (1 + m))) i = behL mss T TB i:=beh_congr hL fun k hk => (gd k (by omega)).symm
              refine .inr ⟨m,?_,?_,by rw [setO_getD hst1,if_pos rfl]⟩
              · unfold knL
                rw [ebe]
                exact hmk
              · unfold knL
                rw [ebe]
                intro x hx
                have hx2:x ∈ knL mss T TB i:=hx
                rw [hk] at hx2
                exact hmin x hx2
            · exact row_congr hL (fun k hk => gd k (by omega)) (hrow i (by omega) h2)
  · rintro σ H4 ⟨TB,v3,v4,v5,rfl,s4,e4,hlen,hlast,hsm,hrow,hnone⟩
    walk_at "go"
    exact q tb TB H4 htbH s4 e4 ⟨hlen,hlast,fun k n hn => by have:=hsm k n hn; omega,fun i hi => hrow i (by omega) hi⟩
theorem lens_of {bk:List (Str × Str)} {mss:List (List (List Nat))} (h:MeansAre bk mss) (h60:bk.length ≤ 60):Lens mss:=by
  refine ⟨by rw [h.1]; exact h60,fun ms hm => ?_⟩
  obtain ⟨j,hj,e⟩:=List.mem_iff_getElem.mp hm
  have hb:j < bk.length:=by rw [← h.1]; exact hj
  have:=h.2 j _ ms (List.getElem?_eq_getElem hb) (by rw [List.getElem?_eq_getElem hj,e])
  exact ⟨this.2.1,this.2.2.1⟩
def lamQ:Str:=("longest_on" : Str) ++ ".<locals>." ++ "<lambda>"
def lamP:Pos:=⟨62,29,62,65⟩
def LamH (Pt:Addr) (H:Hp):Prop:=LamT Pt lamQ lamP H
structure Best (mss:List (List (List Nat))) (T:List (List Nat)) (TB:List (Option Int)) (i k:Nat):Prop where
  st:k ∈ stand mss T i
  one:∃ n,TB.getD i none = some n ∧ TB.getD (i + mLen mss k) none = some (n - 1)
  most:∀ j ∈ stand mss T i,TB.getD (i + mLen mss j) none = TB.getD (i + mLen mss k) none → mLen mss j ≤ mLen mss k
inductive Path (mss:List (List (List Nat))) (T:List (List Nat)) (TB:List (Option Int)):Nat → List Nat → Prop
  | nil:Path mss T TB T.length []
  | cons {i k:Nat} {ks:List Nat}:i < T.length → Best mss T TB i k → Path mss T TB (i + mLen mss k) ks → Path mss T TB i (k :: ks)
theorem fm_if (p:Nat → Bool):∀ L:List Nat,(L.map fun j:Nat => V.int (j:Int)).filterMap (fun x => match x with | .int j => if p j.toNat = true then some (V.int j) else none | _ => none) = (L.filter p).map fun j:Nat => V.int (j:Int)
  | [] => rfl
  | j :: r => by
    rw [List.map_cons]
    cases h:p j with
    | true =>
      rw [List.filterMap_cons_some (b:=V.int (j:Int)) (by show (if p ((j:Int)).toNat = true then _ else _) = _; rw [Int.toNat_natCast,if_pos h]),fm_if p r,List.filter_cons,if_pos h]
      rfl
    | false =>
      rw [List.filterMap_cons_none (by show (if p ((j:Int)).toNat = true then _ else _) = _; rw [Int.toNat_natCast,if_neg (by rw [h]; decide)]),fm_if p r,List.filter_cons,if_neg (by rw [h]; decide)]
def sp_longest_on (Pt:Addr):Sp:=fun vs H Q _ => ∃ (a b tb:Addr) (mss:List (List (List Nat))) (T:List (List Nat)) (TB:List (Option Int)) (i:Nat) (n:Int),vs = [.ref a,.ref b,.ref tb,.int (i:Int)] ∧ MsAt H a mss ∧ Lens mss ∧ TsAt H b T ∧ T.length ≤ 40 ∧ H tb = some (.lst (TB.map tV)) ∧ TabOk mss T TB ∧ i < T.length ∧ TB.getD i none = some n ∧ LamH Pt H ∧
  ∀ (k:Nat) (H':Hp),Best mss T TB i k → SameP Pt H H' → LamH Pt H' → Q (.int (k:Int)) H'
theorem sc_longest_on:FnScope ["meanings", "terms", "table", "start", "left", "standing", "shortest"] ["meanings", "terms", "table", "start"] (defScope s_longest_on):=⟨rfl,rfl,rfl,by decide +kernel,rfl,by decide +kernel,by decide +kernel⟩
theorem ok_longest_on {aNoWord aTowerError:Addr} {c Pt:Addr} {f:Addr} {fd:FuncData} (F:Fun K "longest_on" "longest_on" s_longest_on f fd) (G:Gs K mg aNoWord aTowerError) (hfc:fd.code = .ref c) (LB:LamB mg base c Pt) (c_standing_at:Cal P w K mg base 1 "standing_at" ["meanings", "terms", "start"] sp_standing_at):FnOk P w K mg base CX0 2 f fd ["meanings", "terms", "table", "start"] (sp_longest_on Pt):=by
  refine F.okC hfc sc_longest_on (fun vs H Q E h => ?_) (fun cdv A outer s H vs Q E hcdv hr h => ?_)
  · obtain ⟨a,b,tb,mss,T,TB,i,n,rfl,_⟩:=h; rfl
  obtain ⟨a,b,tb,mss,T,TB,st,n,rfl,hms,hL,hT,h40,etb,ok,hst,hn,hlam,q⟩:=h
  refine ⟨_,(@pss_cons _ _ _ _ _ (@ps_set _ _ 4 _ _ _ _ sc_longest_on.nd (by rfl) (by exact (Or.inr rfl)) (pe_op m_sub (pe_ix m_ix (mv 2) (mv 3) (fun _ _ => rfl)) pe_int) (by rfl) (by first | exact Or.inl rfl | exact Or.inr rfl)) (@pss_cons _ _ _ _ _ (@ps_set _ _ 5 _ _ _ _ sc_longest_on.nd (by rfl) (by exact (Or.inl rfl)) (pe_cal c_standing_at hr (by decide) rfl (pa_cons (mv 0) (pa_cons (mv 1) (pa_cons (mv 3) pa_nil)))) (by rfl) (by first | exact Or.inl rfl | exact Or.inr rfl)) (@pss_cons _ _ _ _ _ (ps_setC (i:=6) sc_longest_on.nd rfl (Or.inl rfl) rfl (pj_list (mv 5)) (clOkF (N:=["number", "left", "table", "start", "meanings"]) ["meanings", "terms", "table", "start", "left", "standing", "shortest"] (defScope s_longest_on) [none,some 4,some 2,some 3,some 0] rfl rfl rfl (fun x h => cell_has h) (by decide +kernel)) (by decide +kernel) rfl (by decide +kernel) (fun C s₀ H₀ ex => (pg_name (i:=0) (show List.Nodup (["number", "left", "table", "start", "meanings"]:List Str) by decide +kernel) rfl (Or.inl rfl))) (fun C s₀ H₀ ex => (pf_one (mt_cmp m_eq (pe_ix m_ix (mv 2) (pe_op m_add (mv 3) (pe_callB m_len rfl G.b_len bt_len (pa_cons (pe_ix m_ix (mv 4) (mv 0) (fun _ _ => rfl)) pa_nil))) (fun _ _ => rfl)) (mv 1) (nomark _)))) (fun C s₀ H₀ ex => (mv 0))) (@pss_one _ _ _ (ps_ret (pe_maxLam rfl (lam_dp hr) rfl G.b_max (pa_cons (mv 6) pa_nil) hcdv LB (clOkL (N:=["number", "meanings"]) (x := "number") ["meanings", "terms", "table", "start", "left", "standing", "shortest"] (defScope s_longest_on) [0] rfl rfl (fun x h => cell_has h) (by decide +kernel)) (fun A f c' s₀ H₀ => (pe_callB m_len rfl G.b_len bt_len (pa_cons (pe_ix m_ix (mv 1) (mv 0) (fun _ _ => rfl)) pa_nil))) rfl rfl rfl rfl (by decide +kernel) (fun _ _ _ _ _ => rfl))))))),?_⟩
  have rtb0:=rdL_of etb
  have hlen:=ok.len
  walk_at "go"
  refine s_ixL rtb0 (v:=.int n) (by rw [tV_at (by omega),hn]; rfl) ?_
  walk_at "go"
  refine ⟨a,b,mss,T,st,rfl,hms,hL.1,hT,by omega,by omega,fun rs H5 s5 e5 => ?_⟩
  have e45:=s5 _ _ etb
  obtain ⟨ps,p1',p2',p3'⟩:=hms.keep s5
  have hsl:(stand mss T st).length ≤ 60:=by
    have:=List.length_filter_le (fun j => decide (Stands mss T st j)) (List.range mss.length)
    rw [List.length_range] at this
    have:=hL.1
    unfold stand
    omega
  walk_at "go"
  refine cw_listS (xs:=(stand mss T st).map fun j:Nat => V.int (j:Int)) (fun x => match x with | .int j => if decide (TB.getD (st + mLen mss j.toNat) none = some (n - 1)) = true then some (V.int j) else none | _ => none) e5 (by rw [List.length_map]; exact lt_line (by omega)) (fun i x Hc A B hx sm hA => ?_) (fun D Hd hD sD hd => ?_)
  · rw [List.getElem?_map] at hx
    cases e:(stand mss T st)[i]? with
    | none => rw [e] at hx; cases hx
    | some j =>
      rw [e] at hx
      cases hx
      obtain ⟨hj,hS⟩:=stand_ok (List.mem_of_getElem? e)
      have hle:=stand_le hS (by omega)
      have hpj:ps[j]? = some (ps[j]'(by omega)):=List.getElem?_eq_getElem _
      obtain ⟨ms,hmj⟩:∃ ms,mss[j]? = some ms:=⟨_,List.getElem?_eq_getElem hj⟩
      have tm:=sm _ _ (p3' j _ ms hpj hmj)
      have rm:=rdL_of tm
      have eg:=mLen_of hmj
      have hml:((ms.map strC).map V.str).length = mLen mss j:=by unfold mLen; rw [eg,List.length_map,List.length_map]
      have rps:=rdL_of (sm _ _ p1')
      have rtb:=rdL_of (sm _ _ e45)
      have r:(match (if decide (TB.getD (st + mLen mss j) none = some (n - 1)) = true then some (V.int (j:Int)) else none) with | some y => A y Hc | none => B Hc):=hA _ (Same.refl _)
      walk_at "go"
      refine ⟨Wk.set rfl (Wk.refl _),?_⟩
      walk_at "go"
      refine s_ixL rps (v:=.ref (ps[j]'(by omega))) (atI_nat (by rw [List.getElem?_map,hpj]; rfl)) ?_
      walk_at "go"
      rw [hml]
      refine s_ixL rtb (by rw [show (st:Int) + (mLen mss j:Int) = ((st + mLen mss j:Nat):Int) by omega]; exact tV_at (by omega)) ?_
      generalize TB.getD (st + mLen mss j) none = o at r ⊢
      cases o with
      | none =>
        rw [if_neg (by simp)] at r
        refine ⟨rfl,?_⟩
        rw [show decide (tV none = V.int (n - 1)) = false from decide_eq_false fun z => nomatch z]
        exact r
      | some m =>
        show mEq (V.int m) (V.int (n - 1)) _ _
        walk_at "go"
        by_cases z:m = n - 1
        · rw [decide_eq_true (by rw [z]),if_pos rfl] at r
          rw [decide_eq_true z]
          walk_at "go"
          exact r
        · rw [decide_eq_false (fun y => z (by injection y)),if_neg (by decide)] at r
          rw [decide_eq_false z]
          exact r
  · rw [fm_if fun j => decide (TB.getD (st + mLen mss j) none = some (n - 1))] at hd
    generalize hks:(stand mss T st).filter (fun j => decide (TB.getD (st + mLen mss j) none = some (n - 1))) = ks at hd
    have hmem:∀ j,j ∈ ks ↔ j ∈ stand mss T st ∧ TB.getD (st + mLen mss j) none = some (n - 1):=fun j => by rw [← hks,List.mem_filter,decide_eq_true_iff]
    have hpos:0 < ks.length:=by
      rcases ok.row st hst with ⟨_,z⟩ | ⟨m,hm,_,hm2⟩
      · rw [hn] at z; cases z
      · rw [hn] at hm2
        obtain ⟨o,ho,e⟩:=List.mem_filterMap.mp hm
        have e2:o = some m:=e
        obtain ⟨j,hj,ej⟩:=List.mem_map.mp ho
        have:j ∈ ks:=(hmem j).mpr ⟨hj,by rw [ej,e2]; injection hm2 with hm2; rw [hm2]; congr 1; omega⟩
        exact List.length_pos_of_mem this
    have hlD:=hlam.keep (s5.trans sD)
    have hpsD:=sD _ _ p1'
    walk_at "go"
    refine s_maxLam ?_
    walk_at "go"
    refine ⟨D,ks.map fun j:Nat => (j:Int),fun i => ((mLen mss (ks.getD i 0):Nat):Int),rfl,by rw [List.map_map]; exact rdL_of hd,by rw [List.length_map]; exact hpos,hlD,fun H2 hrd i n0 hn0 => ?_,fun i m H2 hm hbest sP hl2 => ?_⟩
    · rw [List.getElem?_map] at hn0
      obtain ⟨k,ek,rfl⟩:=Option.map_eq_some_iff.mp hn0
      obtain ⟨hk1,hk2⟩:=(hmem k).mp (List.mem_of_getElem? ek)
      obtain ⟨hj,hS⟩:=stand_ok hk1
      have hpj:ps[k]? = some (ps[k]'(by omega)):=List.getElem?_eq_getElem _
      obtain ⟨ms,hmj⟩:∃ ms,mss[k]? = some ms:=⟨_,List.getElem?_eq_getElem hj⟩
      have rps:=hrd _ _ (rdL_of hpsD)
      have rm:=hrd _ _ (rdL_of (sD _ _ (p3' k _ ms hpj hmj)))
      have hml:((ms.map strC).map V.str).length = mLen mss k:=by unfold mLen; rw [mLen_of hmj,List.length_map,List.length_map]
      have egk:ks.getD i 0 = k:=by rw [List.getD_eq_getElem?_getD,ek]; rfl
      change tCB L2.mLen (tCons (tOp mIx (mVar 1) (mVar 0)) tNil) [some (V.int (k:Int)),some (V.ref a)] H2 _
      walk_at "go"
      refine s_ixL rps (v:=.ref (ps[k]'(by omega))) (atI_nat (by rw [List.getElem?_map,hpj]; rfl)) ?_
      walk_at "go"
      rw [hml,egk]
      exact ⟨rfl,rfl⟩
    · rw [List.getElem?_map] at hm
      obtain ⟨k,ek,rfl⟩:=Option.map_eq_some_iff.mp hm
      obtain ⟨hk1,hk2⟩:=(hmem k).mp (List.mem_of_getElem? ek)
      have egk:ks.getD i 0 = k:=by rw [List.getD_eq_getElem?_getD,ek]; rfl
      refine q k H2 ⟨hk1,⟨n,hn,hk2⟩,fun j hj ej => ?_⟩ ((Same.p (s5.trans sD)).trans sP) hl2
      obtain ⟨u,hu⟩:=List.mem_iff_getElem?.mp ((hmem j).mpr ⟨hj,ej.trans hk2⟩)
      have hul:=(List.getElem?_eq_some_iff.mp hu).1
      have h2:((mLen mss (ks.getD u 0):Nat):Int) ≤ ((mLen mss (ks.getD i 0):Nat):Int):=hbest u (by rw [List.length_map]; exact hul)
      rw [egk,show ks.getD u 0 = j by rw [List.getD_eq_getElem?_getD,hu]; rfl] at h2
      omega
theorem rdP {Pt:Addr} {H H':Hp} {a:Addr} {xs:List V} (s:SameP Pt H H') (l:LamH Pt H) (h:rdL H a = some xs):rdL H' a = some xs:=rdL_P s h l.tb
theorem atP {Pt:Addr} {H H':Hp} {a:Addr} {o:HO} (s:SameP Pt H H') (l:LamH Pt H) (h:H a = some o) (ht:∀ ps,o ≠ .tbl ps):H' a = some o:=s a o (fun z => by
  obtain ⟨ps,e⟩:=l.tb
  rw [z,e] at h
  cases h
  exact ht _ rfl) h
theorem msP {Pt:Addr} {H H':Hp} {r:Addr} {mss:List (List (List Nat))} (h:MsAt H r mss) (s:SameP Pt H H') (l:LamH Pt H):MsAt H' r mss:=by
  obtain ⟨ps,h1,h2,h3⟩:=h
  exact ⟨ps,atP s l h1 (fun _ => nofun),h2,fun j p ms hp hm => atP s l (h3 j p ms hp hm) fun _ => nofun⟩
theorem bkP {Pt:Addr} {H H':Hp} {r:Addr} {bk:List (Str × Str)} (h:BkAt H r bk) (s:SameP Pt H H') (l:LamH Pt H):BkAt H' r bk:=by
  obtain ⟨ps,h1,h2,h3⟩:=h
  exact ⟨ps,atP s l h1 (fun _ => nofun),h2,fun j p b hp hb => atP s l (h3 j p b hp hb) fun _ => nofun⟩
theorem lam_put {Pt p:Addr} {H:Hp} {xs:List V} {o:HO} (h:LamH Pt H) (e:H p = some (.lst xs)):LamH Pt (upd H p o):=by
  have ne:∀ b u,H b = some u → (∀ z,u ≠ .lst z) → b ≠ p:=fun b u h n y => by rw [y,e] at h; cases h; exact n _ rfl
  rcases h with h | ⟨c,h1,h2⟩
  · exact .inl (by rw [upd_ne (ne _ _ h fun _ => nofun)]; exact h)
  · exact .inr ⟨c,by rw [upd_ne (ne _ _ h1 fun _ => nofun)]; exact h1,by rw [upd_ne (ne _ _ h2 fun _ => nofun)]; exact h2⟩
theorem putP {Pt p:Addr} {H H':Hp} {o:HO} (hp:H p = none) (s:SameP Pt H H'):SameP Pt H (upd H' p o):=fun b u n e => by rw [upd_ne (fun z => by rw [z,hp] at e; cases e)]; exact s b u n e
inductive Cov (mss:List (List (List Nat))) (T:List (List Nat)):Nat → Nat → Prop
  | nil:Cov mss T T.length 0
  | cons {i k n:Nat}:i < T.length → k ∈ stand mss T i → Cov mss T (i + mLen mss k) n → Cov mss T i (n + 1)
theorem tab_cov {mss:List (List (List Nat))} (hL:Lens mss) {T:List (List Nat)} {TB:List (Option Int)} (ok:TabOk mss T TB):∀ d i,i + d = T.length → (∀ n,Cov mss T i n → ∃ m:Nat,m ≤ n ∧ TB.getD i none = some (m:Int)) ∧ ∀ v,TB.getD i none = some v → ∃ n:Nat,v = (n:Int) ∧ Cov mss T i n:=fun d => by
  induction d using Nat.strongRecOn with
  | ind d ih =>
    intro i hi
    by_cases h0:d = 0
    · obtain rfl:i = T.length:=by omega
      refine ⟨fun n _ => ⟨0,Nat.zero_le _,ok.last⟩,fun v hv => ?_⟩
      rw [ok.last] at hv
      cases hv
      exact ⟨0,rfl,.nil⟩
    · have hlt:i < T.length:=by omega
      have step:∀ k ∈ stand mss T i,i + mLen mss k ≤ T.length ∧ 1 ≤ mLen mss k:=fun k hk => by
        obtain ⟨h1,h2⟩:=stand_ok hk
        exact ⟨stand_le h2 (by omega),(mLen_pos hL h1).1⟩
      have kn:∀ k ∈ stand mss T i,∀ m,TB.getD (i + mLen mss k) none = some m → m ∈ knL mss T TB i:=fun k hk m e => List.mem_filterMap.mpr ⟨some m,List.mem_map.mpr ⟨k,hk,e⟩,rfl⟩
      refine ⟨fun n hc => ?_,fun v hv => ?_⟩
      · cases hc with
        | nil => exact absurd hlt (Nat.lt_irrefl _)
        | @cons _ k n _ hk hc =>
          obtain ⟨s1,s2⟩:=step k hk
          obtain ⟨m,hm,e⟩:=(ih (T.length - (i + mLen mss k)) (by omega) (i + mLen mss k) (by omega)).1 n hc
          rcases ok.row i hlt with ⟨z,_⟩ | ⟨m0,hm0,hmin,e0⟩
          · have:=kn k hk _ e
            rw [z] at this
            cases this
          · have h1:=hmin _ (kn k hk _ e)
            have h2:=ok.small i _ e0
            refine ⟨(1 + m0).toNat,by omega,?_⟩
            rw [e0,Int.toNat_of_nonneg (by omega)]
      · rcases ok.row i hlt with ⟨_,z⟩ | ⟨m0,hm0,hmin,e0⟩
        · rw [hv] at z; cases z
        · rw [hv] at e0
          cases e0
          obtain ⟨o,ho,e⟩:=List.mem_filterMap.mp hm0
          have e2:o = some m0:=e
          obtain ⟨k,hk,ek⟩:=List.mem_map.mp ho
          obtain ⟨s1,s2⟩:=step k hk
          obtain ⟨n,en,hc⟩:=(ih (T.length - (i + mLen mss k)) (by omega) (i + mLen mss k) (by omega)).2 m0 (ek.trans e2)
          exact ⟨n + 1,by omega,.cons hlt hk hc⟩
def sp_cut_text (Pt:Addr):Sp:=fun vs H Q _ => ∃ (a:Addr) (bk:List (Str × Str)) (mss:List (List (List Nat))) (T:List (List Nat)) (n:Nat),vs = [.ref a,.str (meanC T)] ∧ BkAt H a bk ∧ bk.length ≤ 60 ∧ MeansAre bk mss ∧ 1 ≤ T.length ∧ T.length ≤ 40 ∧ (∀ t ∈ T,TermC t) ∧ Cov mss T 0 n ∧ LamH Pt H ∧
  ∀ (r:Addr) (TB:List (Option Int)) (ks:List Nat) (H':Hp),H r = none → SameP Pt H H' → LamH Pt H' → H' r = some (.lst (ks.map fun k => V.int ((k:Nat):Int))) → TabOk mss T TB → Path mss T TB 0 ks → Q (.ref r) H'
inductive PathTo (mss:List (List (List Nat))) (T:List (List Nat)) (TB:List (Option Int)):Nat → List Nat → Prop
  | nil:PathTo mss T TB 0 []
  | snoc {i k:Nat} {ks:List Nat}:i < T.length → Best mss T TB i k → PathTo mss T TB i ks → PathTo mss T TB (i + mLen mss k) (ks ++ [k])
theorem PathTo.path {mss:List (List (List Nat))} {T:List (List Nat)} {TB:List (Option Int)} {i:Nat} {ks:List Nat} (h:PathTo mss T TB i ks):∀ {rs:List Nat},Path mss T TB i rs → Path mss T TB 0 (ks ++ rs):=by
  induction h with
  | nil => exact fun h => h
  | snoc h1 h2 _ ih =>
    intro rs hr
    rw [List.append_assoc]
    exact ih (.cons h1 h2 hr)
theorem PathTo.len {mss:List (List (List Nat))} {T:List (List Nat)} {TB:List (Option Int)} (hL:Lens mss) {i:Nat} {ks:List Nat} (h:PathTo mss T TB i ks):ks.length ≤ i:=by
  induction h with
  | nil => exact Nat.le_refl _
  | @snoc i k ks h1 h2 _ ih =>
    have:=(mLen_pos hL (stand_ok h2.st).1).1
    rw [List.length_append]
    show ks.length + 1 ≤ _
    omega
theorem sc_cut_text:FnScope ["book", "text", "terms", "meanings", "table", "numbers", "start", "number"] ["book", "text"] (defScope s_cut_text):=⟨rfl,rfl,rfl,by decide +kernel,rfl,by decide +kernel,by decide +kernel⟩
theorem ok_cut_text {aNoWord aTowerError:Addr} {Pt:Addr} {f:Addr} {fd:FuncData} (F:Fun K "cut_text" "cut_text" s_cut_text f fd) (G:Gs K mg aNoWord aTowerError) (c_terms_of:Cal P w K mg base 3 "terms_of" ["text"] sp_terms_of) (c_meanings_of:Cal P w K mg base 1 "meanings_of" ["book"] sp_meanings_of) (c_least_numbers:Cal P w K mg base 2 "least_numbers" ["meanings", "terms"] sp_least_numbers) (c_longest_on:Cal P w K mg base 2 "longest_on" ["meanings", "terms", "table", "start"] (sp_longest_on Pt)):FnOk P w K mg base CX0 4 f fd ["book", "text"] (sp_cut_text Pt):=by
  refine F.ok sc_cut_text (fun vs H Q E h => ?_) (fun cdv A outer s H vs Q E hr h => ?_)
  · obtain ⟨a,bk,mss,T,n,rfl,_⟩:=h; rfl
  obtain ⟨a,bk,mss,T,n,rfl,hbk,h60,hms,h1,h40,hT,hcov,hlam,q⟩:=h
  refine ⟨_,(@pss_cons _ _ _ _ _ (@ps_set _ _ 2 _ _ _ _ sc_cut_text.nd (by rfl) (by exact (Or.inl rfl)) (pe_cal c_terms_of hr (by decide) rfl (pa_cons (mv 1) pa_nil)) (by rfl) (by first | exact Or.inl rfl | exact Or.inr rfl)) (@pss_cons _ _ _ _ _ (@ps_set _ _ 3 _ _ _ _ sc_cut_text.nd (by rfl) (by exact (Or.inl rfl)) (pe_cal c_meanings_of hr (by decide) rfl (pa_cons (mv 0) pa_nil)) (by rfl) (by first | exact Or.inl rfl | exact Or.inr rfl)) (@pss_cons _ _ _ _ _ (@ps_set _ _ 4 _ _ _ _ sc_cut_text.nd (by rfl) (by exact (Or.inl rfl)) (pe_cal c_least_numbers hr (by decide) rfl (pa_cons (mv 3) (pa_cons (mv 2) pa_nil))) (by rfl) (by first | exact Or.inl rfl | exact Or.inr rfl)) (@pss_cons _ _ _ _ _ (ps_if (mt_cmp m_isN (pe_ix m_ix (mv 4) pe_int (fun _ _ => rfl)) pe_non (nomark _)) (@pss_one _ _ _ ps_never) pss_nil) (@pss_cons _ _ _ _ _ (@ps_set _ _ 5 _ _ _ _ sc_cut_text.nd (by rfl) (by exact (Or.inl rfl)) (pe_lst pa_nil) (by rfl) (by first | exact Or.inl rfl | exact Or.inr rfl)) (@pss_cons _ _ _ _ _ (@ps_set _ _ 6 _ _ _ _ sc_cut_text.nd (by rfl) (by exact (Or.inl rfl)) pe_int (by rfl) (by first | exact Or.inl rfl | exact Or.inr rfl)) (@pss_cons _ _ _ _ _ (ps_while PassesOwn.never (mt_cmp m_lt (mv 6) (pe_callB m_len rfl G.b_len bt_len (pa_cons (mv 2) pa_nil)) (nomark _)) (@pss_cons _ _ _ _ _ (@ps_set _ _ 7 _ _ _ _ sc_cut_text.nd (by rfl) (by exact (Or.inl rfl)) (pe_cal c_longest_on hr (by decide) rfl (pa_cons (mv 3) (pa_cons (mv 2) (pa_cons (mv 4) (pa_cons (mv 6) pa_nil))))) (by rfl) (by first | exact Or.inl rfl | exact Or.inr rfl)) (@pss_cons _ _ _ _ _ (ps_expr (me_meth PySem.F.plainAttrs_list PySem.F.slot_list_append PySem.F.type_list_append m_app (mv 5) (pa_cons (mv 7) pa_nil))) (@pss_one _ _ _ (@ps_set _ _ 6 _ _ _ _ sc_cut_text.nd (by rfl) (by exact (Or.inl rfl)) (pe_op m_add (mv 6) (pe_callB m_len rfl G.b_len bt_len (pa_cons (pe_ix m_ix (mv 3) (mv 7) (fun _ _ => rfl)) pa_nil))) (by rfl) (by first | exact Or.inl rfl | exact Or.inr rfl)))))) (@pss_one _ _ _ (ps_ret (mv 5)))))))))),?_⟩
  have hL:=lens_of hms h60
  walk_at "go"
  refine ⟨T,rfl,h1,h40,hT,fun rt H1 hrt s1 ht1 => ?_⟩
  walk_at "go"
  refine ⟨a,bk,mss,rfl,hbk.keep s1,h60,hms,fun rm H2 hrm s2 hm2 => ?_⟩
  walk_at "go"
  refine ⟨rm,rt,mss,T,rfl,hm2,hL,s2 _ _ ht1,h40,fun tb TB H3 htb s3 e3 ok => ?_⟩
  obtain ⟨m,hmn,em⟩:=(tab_cov hL ok T.length 0 (by omega)).1 n hcov
  have s03:=s1.trans (s2.trans s3)
  have ht3:=s3 _ _ (s2 _ _ ht1)
  have hm3:=hm2.keep s3
  have l3:=hlam.keep s03
  clear hcov hmn hbk s2 hrm hm2 ht1 hrt htb
  walk_at "go"
  refine s_ixL (rdL_of e3) (v:=.int (m:Int)) (by rw [show (0:Int) = ((0:Nat):Int) from rfl,tV_at (by rw [ok.len]; omega),em]; rfl) ?_
  walk_at "go"
  refine ⟨by decide,fun pn hpn => ?_⟩
  have s4:=same_upd hpn (.lst [])
  have e4:(upd H3 pn (.lst [])) pn = some (.lst ((([]:List Nat)).map fun k => V.int ((k:Nat):Int))):=upd_same
  generalize upd H3 pn (.lst []) = H4 at s4 e4 ⊢
  have htl:((T.map strC).map V.str).length = T.length:=by rw [List.length_map,List.length_map]
  have hpnH:H pn = none:=none_of s03 hpn
  walk_at "go"
  refine ⟨fun m σ H' => ∃ (i:Nat) (ks:List Nat) (v7:Option V),σ = [some (.ref a),some (.str (meanC T)),some (.ref rt),some (.ref rm),some (.ref tb),some (.ref pn),some (.int (i:Int)),v7] ∧ m + i = T.length ∧ SameP Pt H3 H' ∧ LamH Pt H' ∧ H' pn = some (.lst (ks.map fun k => V.int ((k:Nat):Int))) ∧ PathTo mss T TB i ks ∧ ∃ v,TB.getD i none = some v,
    ⟨T.length,0,[],_,rfl,rfl,Same.p s4,l3.keep s4,e4,.nil,_,em⟩,?_⟩
  rintro m0 σ H5 ⟨i,ks,v7,rfl,hi,sP,l5,e5,hp,v,ev⟩
  have ht5:=atP sP l3 ht3 (fun _ => nofun)
  have hm5:=msP hm3 sP l3
  have e35:=atP sP l3 e3 fun _ => nofun
  have rt5:=rdL_of ht5
  have hpl:=hp.len hL
  walk_at "go"
  rw [htl]
  refine ite2 (fun hg => ?_) (fun hg => ?_)
  · have hlt:i < T.length:=by have:=of_decide_eq_true hg; omega
    refine ⟨fun σ' H' => ∃ (i':Nat) (ks:List Nat) (v7:Option V),i < i' ∧ i' ≤ T.length ∧ σ' = [some (.ref a),some (.str (meanC T)),some (.ref rt),some (.ref rm),some (.ref tb),some (.ref pn),some (.int (i':Int)),v7] ∧ SameP Pt H3 H' ∧ LamH Pt H' ∧ H' pn = some (.lst (ks.map fun k => V.int ((k:Nat):Int))) ∧ PathTo mss T TB i' ks ∧ ∃ v,TB.getD i' none = some v,fun σ' H' ⟨i',ks,v7,a1,a2,a3,a4⟩ => ⟨T.length - i',by omega,i',ks,v7,a3,by omega,a4⟩,?_⟩
    walk_at "go"
    refine ⟨rm,rt,tb,mss,T,TB,i,v,rfl,hm5,hL,ht5,h40,e35,ok,hlt,ev,l5,fun k H6 hb sP6 l6 => ?_⟩
    have sP36:=sP.trans sP6
    have e6:=atP sP6 l5 e5 fun _ => nofun
    have hm6:=mutL_of e6
    obtain ⟨ps,p1,p2,p3⟩:=id hm3
    obtain ⟨hk,hS⟩:=stand_ok hb.st
    have hle:=stand_le hS (by omega)
    have hk1:=(mLen_pos hL hk).1
    have hkl:(ks.map fun k => V.int ((k:Nat):Int)).length ≤ 40:=by rw [List.length_map]; omega
    obtain ⟨n',en,en2⟩:=hb.one
    have hpj:ps[k]? = some (ps[k]'(by omega)):=List.getElem?_eq_getElem _
    obtain ⟨ms,hmj⟩:∃ ms,mss[k]? = some ms:=⟨_,List.getElem?_eq_getElem hk⟩
    have hml:((ms.map strC).map V.str).length = mLen mss k:=by unfold mLen; rw [mLen_of hmj,List.length_map,List.length_map]
    walk_at "go"
    have s37:SameP Pt H3 (upd H6 pn (.lst ((ks.map fun k => V.int ((k:Nat):Int)) ++ [V.int (k:Int)]))):=putP hpn sP36
    have l7:LamH Pt (upd H6 pn (.lst ((ks.map fun k => V.int ((k:Nat):Int)) ++ [V.int (k:Int)]))):=lam_put l6 e6
    have e7:(upd H6 pn (.lst ((ks.map fun k => V.int ((k:Nat):Int)) ++ [V.int (k:Int)]))) pn = some (.lst ((ks ++ [k]).map fun k => V.int ((k:Nat):Int))):=by rw [upd_same,List.map_append]; rfl
    generalize upd H6 pn (.lst ((ks.map fun k => V.int ((k:Nat):Int)) ++ [V.int (k:Int)])) = H7 at s37 l7 e7 ⊢
    have rps:=rdP s37 l3 (rdL_of p1)
    have rmk:=rdP s37 l3 (rdL_of (p3 k _ ms hpj hmj))
    refine s_ixL rps (v:=.ref (ps[k]'(by omega))) (atI_nat (by rw [List.getElem?_map,hpj]; rfl)) ?_
    walk_at "go"
    rw [hml]
    exact ⟨i + mLen mss k,ks ++ [k],_,by omega,hle,rfl,s37,l7,e7,.snoc hlt hb hp,_,en2⟩
  · walk_at "go"
    obtain rfl:i = T.length:=by rw [decide_eq_true_iff] at hg; omega
    exact q pn TB ks H5 hpnH ((Same.p s03).trans sP) l5 e5 ok (by have:=hp.path .nil; rw [List.append_nil] at this; exact this)
def flatM (mss:List (List (List Nat))) (js:List Nat):List (List Nat):=(js.map fun j => mss.getD j []).flatten
theorem flatM_cons (mss:List (List (List Nat))) (j:Nat) (b:List Nat):flatM mss (j :: b) = mss.getD j [] ++ flatM mss b:=by
  unfold flatM
  rw [List.map_cons,List.flatten_cons]
theorem joinS_app (sep:Str):∀ (a b:List Str),a ≠ [] → b ≠ [] → Str.join sep (a ++ b) = Str.join sep a ++ sep ++ Str.join sep b
  | [],_,h,_ => absurd rfl h
  | [x],y :: r,_,_ => rfl
  | [x],[],_,h => absurd rfl h
  | x :: z :: a,b,_,h => by
    have ih:=joinS_app sep (z :: a) b (by simp) h
    show x ++ sep ++ Str.join sep ((z :: a) ++ b) = (x ++ sep ++ Str.join sep (z :: a)) ++ sep ++ Str.join sep b
    rw [ih]
    simp only [Str.append_assoc]
theorem meanC_app {a b:List (List Nat)} (ha:a ≠ []) (hb:b ≠ []):meanC (a ++ b) = meanC a ++ Str.ofString " " ++ meanC b:=by
  have e:∀ ts:List (List Nat),meanC ts = Str.join (Str.ofString " ") (ts.map strC):=fun ts => PySem.StrLaws.glued_eq_join _ _
  rw [e,e,e,List.map_append]
  exact joinS_app _ _ _ (by simpa using ha) (by simpa using hb)
theorem joinT (l:List Str):Txt.join " " l = Str.join (Str.ofString " ") l:=PySem.StrLaws.glued_eq_join _ _
theorem join_flat {mss:List (List (List Nat))}:∀ {js:List Nat},js ≠ [] → (∀ j ∈ js,mss.getD j [] ≠ []) → Txt.join " " (js.map fun j => meanC (mss.getD j [])) = meanC (flatM mss js)
  | [],h,_ => absurd rfl h
  | [j],_,_ => by
    rw [joinT]
    show meanC (mss.getD j []) = _
    rw [flatM_cons]
    unfold flatM
    simp
  | j :: k :: r,_,h => by
    have ih:=join_flat (js:=k :: r) (by simp) fun j hj => h j (List.mem_cons_of_mem _ hj)
    have hne:flatM mss (k :: r) ≠ []:=by
      rw [flatM_cons]
      exact fun z => h k (by simp) (List.append_eq_nil_iff.mp z).1
    rw [flatM_cons,meanC_app (h j (by simp)) hne,← ih,joinT,joinT]
    rfl
theorem cov_flat {mss:List (List (List Nat))} {T:List (List Nat)} (hL:Lens mss):∀ {js:List Nat} {i:Nat},i ≤ T.length → (∀ j ∈ js,j < mss.length) → T.drop i = flatM mss js → Cov mss T i js.length
  | [],i,hi,_,h => by
    have:i = T.length:=by
      have:=congrArg List.length h
      rw [List.length_drop] at this
      have e:(flatM mss []).length = 0:=rfl
      omega
    subst this
    exact .nil
  | j :: r,i,hi,hj,h => by
    rw [flatM_cons] at h
    have hjl:=hj j List.mem_cons_self
    have hm:=(mLen_pos hL hjl).1
    have hlen:=congrArg List.length h
    rw [List.length_drop,List.length_append] at hlen
    have hml:(mss.getD j []).length = mLen mss j:=rfl
    have hst:j ∈ stand mss T i:=by
      refine List.mem_filter.mpr ⟨List.mem_range.mpr hjl,decide_eq_true ?_⟩
      show (T.drop i).take (mLen mss j) = _
      rw [h,← hml,List.take_left']
      rfl
    refine .cons (by omega) hst (cov_flat hL (by omega) (fun k hk => hj k (List.mem_cons_of_mem _ hk)) ?_)
    rw [← List.drop_drop,h,← hml,List.drop_left']
    rfl
theorem flat_cov {mss:List (List (List Nat))} {T:List (List Nat)} {i n:Nat} (h:Cov mss T i n):∃ js:List Nat,(∀ j ∈ js,j < mss.length) ∧ T.drop i = flatM mss js ∧ js.length = n:=by
  induction h with
  | nil => exact ⟨[],(fun j hj => nomatch hj),List.drop_length,rfl⟩
  | @cons i k n hi hk _ ih =>
    obtain ⟨js,h1,h2,h3⟩:=ih
    obtain ⟨hkl,hS⟩:=stand_ok hk
    refine ⟨k :: js,fun j hj => ?_,?_,by rw [List.length_cons,h3]⟩
    · rcases List.mem_cons.mp hj with rfl | z
      · exact hkl
      · exact h1 j z
    · rw [flatM_cons,← h2,← List.drop_drop,← show (T.drop i).take (mLen mss k) = mss.getD k [] from hS]
      exact (List.take_append_drop _ _).symm
theorem stand_of {mss:List (List (List Nat))} {T:List (List Nat)} {i k:Nat} (hk:k ∈ stand mss T i):T.drop i = mss.getD k [] ++ T.drop (i + mLen mss k):=by
  obtain ⟨hkl,hS⟩:=stand_ok hk
  rw [← List.drop_drop,← show (T.drop i).take (mLen mss k) = mss.getD k [] from hS]
  exact (List.take_append_drop _ _).symm
theorem path_flat {mss:List (List (List Nat))} {T:List (List Nat)} {TB:List (Option Int)} {i:Nat} {ks:List Nat} (h:Path mss T TB i ks):T.drop i = flatM mss ks ∧ ∀ k ∈ ks,k < mss.length:=by
  induction h with
  | nil => exact ⟨List.drop_length,fun k hk => nomatch hk⟩
  | @cons i k ks hi hb _ ih =>
    refine ⟨by rw [flatM_cons,← ih.1]; exact stand_of hb.st,fun j hj => ?_⟩
    rcases List.mem_cons.mp hj with rfl | z
    · exact (stand_ok hb.st).1
    · exact ih.2 j z
theorem path_len {mss:List (List (List Nat))} {T:List (List Nat)} {TB:List (Option Int)} (ok:TabOk mss T TB) {i:Nat} {ks:List Nat} (h:Path mss T TB i ks):TB.getD i none = some (ks.length:Int):=by
  induction h with
  | nil => exact ok.last
  | @cons i k ks hi hb _ ih =>
    obtain ⟨n,e1,e2⟩:=hb.one
    rw [ih] at e2
    injection e2 with e2
    rw [e1,List.length_cons]
    congr 1
    omega
theorem best_uniq {mss:List (List (List Nat))} (nd:mss.Nodup) {T:List (List Nat)} {TB:List (Option Int)} {i k j:Nat} (h:Best mss T TB i k) (g:Best mss T TB i j):k = j:=by
  obtain ⟨n,e1,e2⟩:=h.one
  obtain ⟨m,f1,f2⟩:=g.one
  rw [e1] at f1
  cases f1
  have h1:=h.most j g.st (by rw [e2,f2])
  have h2:=g.most k h.st (by rw [e2,f2])
  obtain ⟨hk,hS⟩:=stand_ok h.st
  obtain ⟨hj,hS2⟩:=stand_ok g.st
  have el:mLen mss k = mLen mss j:=by omega
  have e:mss.getD k [] = mss.getD j []:=by
    rw [← show (T.drop i).take (mLen mss k) = mss.getD k [] from hS,← show (T.drop i).take (mLen mss j) = mss.getD j [] from hS2,el]
  rw [List.getD_eq_getElem?_getD,List.getElem?_eq_getElem hk,List.getD_eq_getElem?_getD,List.getElem?_eq_getElem hj] at e
  have e':mss[k] = mss[j]:=e
  rcases Nat.lt_trichotomy k j with z | z | z
  · exact absurd e' (List.pairwise_iff_getElem.mp nd k j hk hj z)
  · exact z
  · exact absurd e'.symm (List.pairwise_iff_getElem.mp nd j k hj hk z)
theorem path_uniq {mss:List (List (List Nat))} (nd:mss.Nodup) {T:List (List Nat)} {TB:List (Option Int)} {i:Nat} {ks js:List Nat} (h:Path mss T TB i ks) (g:Path mss T TB i js):ks = js:=by
  induction h generalizing js with
  | nil =>
    cases g with
    | nil => rfl
    | cons hi _ _ => exact absurd hi (Nat.lt_irrefl _)
  | @cons i k ks hi hb _ ih =>
    cases g with
    | nil => exact absurd hi (Nat.lt_irrefl _)
    | cons _ hb2 g2 =>
      obtain rfl:=best_uniq nd hb hb2
      rw [ih g2]
theorem getD_drop {α:Type} (L:List α) (i k:Nat) (d:α):(L.drop i).getD k d = L.getD (i + k) d:=by
  rw [List.getD_eq_getElem?_getD,List.getElem?_drop,List.getD_eq_getElem?_getD]
theorem stand_drop (mss:List (List (List Nat))) (T:List (List Nat)) (i s:Nat):stand mss (T.drop i) s = stand mss T (i + s):=by
  unfold stand
  refine List.filter_congr fun j _ => decide_eq_decide.mpr ?_
  unfold Stands
  rw [List.drop_drop]
theorem tab_drop {mss:List (List (List Nat))} {T:List (List Nat)} {TB:List (Option Int)} (ok:TabOk mss T TB) {i:Nat} (hi:i ≤ T.length):TabOk mss (T.drop i) (TB.drop i):=by
  refine ⟨by rw [List.length_drop,List.length_drop,ok.len]; omega,?_,fun k n e => ok.small (i + k) n (by rw [← getD_drop]; exact e),fun s hs => ?_⟩
  · rw [getD_drop,List.length_drop,show i + (T.length - i) = T.length by omega]
    exact ok.last
  · rw [List.length_drop] at hs
    have r:=ok.row (i + s) (by omega)
    unfold RowOk knL behL at r ⊢
    rw [stand_drop,getD_drop]
    have e:((stand mss T (i + s)).map fun j => (TB.drop i).getD (s + mLen mss j) none) = (stand mss T (i + s)).map fun j => TB.getD (i + s + mLen mss j) none:=List.map_congr_left fun j _ => by rw [getD_drop,Nat.add_assoc]
    rw [e]
    exact r
theorem tab_row {mss:List (List (List Nat))} (hL:Lens mss) {T:List (List Nat)} {TB TC:List (Option Int)} {i:Nat} (h:∀ k,i < k → TB.getD k none = TC.getD k none) (r1:RowOk mss T TB i) (r2:RowOk mss T TC i):TB.getD i none = TC.getD i none:=by
  unfold RowOk knL at r1 r2
  rw [beh_congr hL h] at r1
  rcases r1 with ⟨a1,a2⟩ | ⟨m,a1,a2,a3⟩ <;> rcases r2 with ⟨b1,b2⟩ | ⟨m',b1,b2,b3⟩
  · rw [a2,b2]
  · rw [a1] at b1; cases b1
  · rw [b1] at a1; cases a1
  · have:=a2 m' b1
    have:=b2 m a1
    rw [a3,b3,show m = m' by omega]
theorem tab_uniq {mss:List (List (List Nat))} (hL:Lens mss) {T:List (List Nat)} {TB TC:List (Option Int)} (h1:TabOk mss T TB) (h2:TabOk mss T TC):TB = TC:=by
  have hi:∀ n i,T.length ≤ i + n → TB.getD i none = TC.getD i none:=fun n => by
    induction n with
    | zero =>
      intro i hi
      by_cases e:i = T.length
      · rw [e,h1.last,h2.last]
      · rw [List.getD_eq_getElem?_getD,List.getD_eq_getElem?_getD,List.getElem?_eq_none (by rw [h1.len]; omega),List.getElem?_eq_none (by rw [h2.len]; omega)]
    | succ n ih =>
      intro i hi
      by_cases e:T.length ≤ i + n
      · exact ih i e
      · exact tab_row hL (fun k hk => ih k (by omega)) (h1.row i (by omega)) (h2.row i (by omega))
  refine List.ext_getElem (by rw [h1.len,h2.len]) fun j j1 j2 => ?_
  have:=hi T.length j (by omega)
  rw [List.getD_eq_getElem?_getD,List.getD_eq_getElem?_getD,List.getElem?_eq_getElem j1,List.getElem?_eq_getElem j2] at this
  exact this
theorem means_nd {bk:List (Str × Str)} {mss:List (List (List Nat))} (hg:(bk.map (·.2)).Nodup) (h:MeansAre bk mss):mss.Nodup:=by
  refine List.pairwise_iff_getElem.mpr fun i j hi hj hij e => ?_
  have hbi:i < bk.length:=by rw [← h.1]; exact hi
  have hbj:j < bk.length:=by rw [← h.1]; exact hj
  have h1:=(h.2 i _ _ (List.getElem?_eq_getElem hbi) (List.getElem?_eq_getElem hi)).1
  have h2:=(h.2 j _ _ (List.getElem?_eq_getElem hbj) (List.getElem?_eq_getElem hj)).1
  have:=List.pairwise_iff_getElem.mp hg i j (by rw [List.length_map]; exact hbi) (by rw [List.length_map]; exact hbj) hij
  rw [List.getElem_map,List.getElem_map] at this
  exact this (by rw [h1,h2,e])
def wdsOf (bk:List (Str × Str)) (js:List Nat):List Str:=js.map fun j => (bk.getD j (Str.empty,Str.empty)).1
theorem said_is {bk:List (Str × Str)} {mss:List (List (List Nat))} (hg:GoodBk bk) (hm:MeansAre bk mss) {js:List Nat} (hj:∀ j ∈ js,j < bk.length) {ms:List Str} (h:Said bk (wdsOf bk js) ms):ms = js.map fun j => meanC (mss.getD j []):=by
  obtain ⟨h1,h2⟩:=h
  have hl:(wdsOf bk js).length = js.length:=List.length_map ..
  refine List.ext_getElem (by rw [List.length_map]; omega) fun i a b => ?_
  rw [List.length_map] at b
  have hi:=hj _ (List.getElem_mem b)
  have eb:bk.getD js[i] (Str.empty,Str.empty) = bk[js[i]]:=by rw [List.getD_eq_getElem?_getD,List.getElem?_eq_getElem hi]; rfl
  have e:=h2 i (bk[js[i]]).1 (by unfold wdsOf; rw [List.getElem?_map,List.getElem?_eq_getElem b,Option.map_some,eb])
  rw [mean_mem hg.words (List.getElem_mem hi),List.getElem?_eq_getElem a] at e
  have hmi:js[i] < mss.length:=by rw [hm.1]; exact hi
  have h3:=(hm.2 js[i] _ _ (List.getElem?_eq_getElem hi) (List.getElem?_eq_getElem hmi)).1
  rw [List.getElem_map,mLen_of (List.getElem?_eq_getElem hmi),← h3]
  injection e with e
  exact e.symm
theorem said_go {bk:List (Str × Str)} {mss:List (List (List Nat))} (hg:GoodBk bk) (hm:MeansAre bk mss) {H:Hp} {Q:VK} {aC rb rw':Addr} {E:XK} {js:List Nat} (hb:BkAt H rb bk) (hr:rdL H rw' = some ((wdsOf bk js).map V.str)) (h1:1 ≤ js.length) (h1000:js.length ≤ 1000) (hj:∀ j ∈ js,j < bk.length) (q:∀ H',Same H H' → Q (.str (meanC (flatM mss js))) H'):sp_text_said aC [.ref rb,.ref rw'] H Q E:=by
  have hl:(wdsOf bk js).length = js.length:=List.length_map ..
  refine ⟨rb,rw',bk,wdsOf bk js,rfl,hb,hg.words,fun x hx => ?_,hr,by omega,fun ms _ hs H' s => ?_,fun i v hv hn => ?_,fun z => ?_⟩
  · obtain ⟨ts,e,a1,a5,aT⟩:=hg.mean x hx
    have:=mean_lenN ts aT
    rw [e]
    omega
  · rw [said_is hg hm hj hs,join_flat (fun z => by rw [z] at h1; exact absurd h1 (by decide)) fun j hj' => ?_]
    · exact q H' s
    · have hjl:j < mss.length:=by rw [hm.1]; exact hj j hj'
      have h2:=(hm.2 j _ _ (List.getElem?_eq_getElem (hj j hj')) (List.getElem?_eq_getElem hjl)).2.1
      rw [mLen_of (List.getElem?_eq_getElem hjl)]
      intro z
      rw [z] at h2
      exact absurd h2 (by decide)
  · unfold wdsOf at hv
    rw [List.getElem?_map] at hv
    obtain ⟨j,ej,rfl⟩:=Option.map_eq_some_iff.mp hv
    have hjl:=hj j (List.mem_of_getElem? ej)
    rw [List.getD_eq_getElem?_getD,List.getElem?_eq_getElem hjl] at hn
    have:=mean_mem hg.words (List.getElem_mem hjl)
    rw [show mean bk bk[j].1 = none from hn] at this
    cases this
  · rw [z] at hl
    exact absurd hl (by rw [List.length_nil]; omega)
def rowF (bk:List (Str × Str)):V → Option V
  | .int j => some (V.str (bk.getD j.toNat (Str.empty,Str.empty)).1)
  | _ => none
theorem rows_fm (bk:List (Str × Str)):∀ rs:List Nat,(rs.map fun k => V.int ((k:Nat):Int)).filterMap (rowF bk) = (wdsOf bk rs).map V.str
  | [] => rfl
  | k :: r => by
    rw [List.map_cons,List.filterMap_cons_some (f:=rowF bk) (b:=V.str (bk.getD k (Str.empty,Str.empty)).1) rfl,rows_fm bk r]
    rfl
theorem s_ixT {H:Hp} {Q:VK} {p:Addr} {xs:List V} {i:Int} {v:V} (e:H p = some (.tup xs)) (e':atI xs i = some v) (h:Q v H):mIx (.ref p) (.int i) H Q:=by
  have e1:rdL H p = none:=by unfold rdL; rw [e]; rfl
  have e2:=tupL_of e
  unfold mIx
  simp only [e1,e2,e']
  exact h
def sp_l_rest (K:PySem.W.Frag):Sp:=fun vs H Q _ => ∃ (rb rt a:Addr) (bk:List (Str × Str)) (ts:List (List Nat)) (ns:List Int),vs = [.ref rb,.ref rt,.ref a] ∧ BkAt H rb bk ∧ GoodBk bk ∧ 1 ≤ bk.length ∧ TsAt H rt ts ∧ ts.length = 4 ∧ (∀ t ∈ ts,TermC t) ∧ SqL K H a (ns.map V.int) ∧ ns.length ≤ 63 ∧
  ∀ (r:Addr) (T:List (List Nat)) (H':Hp),H r = none → Same H H' → TsAt H' r T → 1 ≤ T.length → T.length ≤ 40 → (∀ t ∈ T,TermC t) → Q (.ref r) H'
theorem sc_l_rest:FnScope ["_law_book_here", "_law_terms_here", "_law_script", "_law_found", "_law_k", "_law_cell", "_law_mixed_here", "_law_many"] ["_law_book_here", "_law_terms_here", "_law_script"] (defScope s_l_rest):=⟨rfl,rfl,rfl,by decide +kernel,rfl,by decide +kernel,by decide +kernel⟩
theorem ok_l_rest {aNoWord aTowerError:Addr} {f:Addr} {fd:FuncData} (F:Fun K "_law_rest" "_law_rest" s_l_rest f fd) (G:Gs K mg aNoWord aTowerError) (c_l_mixed:Cal P w K mg base 1 "_law_mixed" ["_law_cell", "_law_k"] sp_l_mixed) (c_l_cell_at:Cal P w K mg base 1 "_law_cell_at" ["_law_script", "_law_k"] (sp_l_cell_at K)):FnOk P w K mg base CX0 2 f fd ["_law_book_here", "_law_terms_here", "_law_script"] (sp_l_rest K):=by
  refine F.ok sc_l_rest (fun vs H Q E h => ?_) (fun cdv A outer s H vs Q E hr h => ?_)
  · obtain ⟨rb,rt,a,bk,ts,ns,rfl,_⟩:=h; rfl
  obtain ⟨rb,rt,a,bk,ts,ns,rfl,hbk,hg,hb1,hts,ht4,htT,hS,h63,q⟩:=h
  refine ⟨_,(@pss_cons _ _ _ _ _ (@ps_set _ _ 3 _ _ _ _ sc_l_rest.nd (by rfl) (by exact (Or.inl rfl)) (pe_lst pa_nil) (by rfl) (by first | exact Or.inl rfl | exact Or.inr rfl)) (@pss_cons _ _ _ _ _ (pj_for PassesOwn.never rfl (pj_enum rfl G.b_enumerate (pa_cons (pe_slice sl_list (mv 2) (mo_some pe_int) (mo_some pe_int)) pa_nil)) (pg_pair (K:=K) (i:=4) (j:=5) (by rfl) (by rfl) sc_l_rest.nd (by rfl) (by exact (Or.inl rfl)) (by exact Or.inl rfl) (by rfl) (by exact (Or.inl rfl)) (by exact Or.inl rfl)) (@pss_cons _ _ _ _ _ (@ps_set _ _ 6 _ _ _ _ sc_l_rest.nd (by rfl) (by exact (Or.inl rfl)) (pe_cal c_l_mixed hr (by decide) rfl (pa_cons (mv 5) (pa_cons (pe_op m_add (mv 4) pe_int) pa_nil))) (by rfl) (by first | exact Or.inl rfl | exact Or.inr rfl)) (@pss_one _ _ _ (ps_if (mt_cmp m_eq (pe_op m_mod (mv 6) pe_int) pe_int (nomark _)) (@pss_one _ _ _ (ps_expr (me_meth PySem.F.plainAttrs_list PySem.F.slot_list_append PySem.F.type_list_append m_app (mv 3) (pa_cons (pe_ix m_ix (mv 1) (pe_op m_mod (pe_op m_fdiv (mv 6) pe_int) pe_int) (fun _ _ => rfl)) pa_nil)))) (@pss_one _ _ _ (ps_expr (me_meth PySem.F.plainAttrs_list PySem.F.slot_list_extend PySem.F.type_list_extend m_ext (mv 3) (pa_cons (me_meth PySem.F.plainAttrs_str PySem.F.slot_str_split PySem.F.type_str_split m_split (pe_ix m_ix (pe_ix m_ix (mv 0) (pe_op m_mod (pe_op m_fdiv (mv 6) pe_int) (pe_callB m_len rfl G.b_len bt_len (pa_cons (mv 0) pa_nil))) (fun _ _ => rfl)) pe_int (fun _ _ => rfl)) (@pa_str _ _ _ _ _ _ pa_nil)) pa_nil)))))))) (@pss_cons _ _ _ _ _ (ps_if (mt_cmp (m_eqL hr.units0) (mv 3) (pe_lst pa_nil) (nomark _)) (@pss_one _ _ _ (@ps_set _ _ 3 _ _ _ _ sc_l_rest.nd (by rfl) (by exact (Or.inl rfl)) (pe_lst (pa_cons (pe_ix m_ix (mv 1) pe_int (fun _ _ => rfl)) pa_nil)) (by rfl) (by first | exact Or.inl rfl | exact Or.inr rfl))) pss_nil) (@pss_cons _ _ _ _ _ (@ps_set _ _ 7 _ _ _ _ sc_l_rest.nd (by rfl) (by exact (Or.inl rfl)) (pe_op m_add pe_int (pe_op m_mod (pe_cal c_l_mixed hr (by decide) rfl (pa_cons (pe_cal c_l_cell_at hr (by decide) rfl (pa_cons (mv 2) (pa_cons pe_int pa_nil))) (pa_cons pe_int pa_nil))) pe_int)) (by rfl) (by first | exact Or.inl rfl | exact Or.inr rfl)) (@pss_one _ _ _ (ps_ret (pe_slice m_sl (mv 3) po_none (mo_some (mv 7))))))))),?_⟩
  obtain ⟨qs,b1,b2,b3⟩:=id hbk
  have rq:=rdL_of b1
  have rts:=rdL_of hts
  have hql:(qs.map V.ref).length = bk.length:=by rw [List.length_map,b2]
  obtain ⟨mss,hms⟩:=means_of hg
  walk_at "go"
  refine ⟨by decide,fun pf hpf => ?_⟩
  have s1:=same_upd hpf (.lst [])
  have e1:(upd H pf (.lst [])) pf = some (.lst []):=upd_same
  generalize upd H pf (.lst []) = H1 at s1 e1 ⊢
  walk_at "go"
  refine s_slK (s1.seq hS) fun rc hrc => ?_
  obtain ⟨ms,em,hm,hml⟩:=cut_ints ns (some 2) (some 62)
  rw [em]
  have s2:=same_upd hrc (.lst (ms.map V.int))
  have r2:rdL (upd H1 rc (.lst (ms.map V.int))) rc = some (ms.map V.int):=rdL_same
  have e2:=s2 _ _ e1
  have nrc:rc ≠ pf:=fun z => by rw [z,e1] at hrc; cases hrc
  generalize upd H1 rc (.lst (ms.map V.int)) = H2 at s2 r2 e2 ⊢
  have s12:=s1.trans s2
  walk_at "go"
  refine fj_enum (xs:=ms.map V.int) (fun i σ H' => ∃ (fs:List (List Nat)) (v4 v5 v6:Option V),σ = [some (.ref rb),some (.ref rt),some (.ref a),some (.ref pf),v4,v5,v6,none] ∧ Same H H' ∧ rdL H' rc = some (ms.map V.int) ∧ TsAt H' pf fs ∧ fs.length ≤ 5 * i ∧ ∀ t ∈ fs,TermC t)
    ⟨[],_,_,_,rfl,s12,r2,e2,Nat.zero_le _,fun t ht => by cases ht⟩ (fun i σ H' _ ⟨_,_,_,_,_,_,e,_⟩ => e) ?_ ?_
  · rintro i x σ H3 pe hx ⟨fs,v4,v5,v6,rfl,s3,r3,e3,hfl,hft⟩ hpe
    have hi:i < ms.length:=by have:=(List.getElem?_eq_some_iff.mp hx).1; rw [List.length_map] at this; exact this
    obtain ⟨c,_,rfl⟩:=of_map_int hx
    have s4:=same_upd hpe (.tup [V.int ((0 + i:Nat):Int),V.int c])
    have e4:=s4 _ _ e3
    have r4:=rdL_keep s4 r3
    have s04:=s3.trans s4
    have hfm:((fs.map strC).map V.str).length = fs.length:=by rw [List.length_map,List.length_map]
    have m4:=mutL_of e4
    have hln:((fs.map strC).map V.str).length < sizeLine:=by rw [hfm]; exact lt_line (by omega)
    walk_at "go"
    refine ⟨c,_,rfl,by omega,by omega,fun N hN => ?_⟩
    walk_at "go"
    refine ite2 (fun hc => ?_) (fun hc => ?_)
    · obtain ⟨t,ht,at'⟩:=get_term (ts:=ts) (i:=N / 16 % 4) (by omega) (by omega)
      walk_at "go"
      refine s_ixL (rdL_keep s04 rts) at' ?_
      walk_at "go"
      refine ⟨fs ++ [t],_,_,_,rfl,same_put hpf s04,by rw [rdL_ne nrc]; exact r4,?_,by rw [List.length_append]; show _ + 1 ≤ _; omega,fun u hu => ?_⟩
      · unfold TsAt
        rw [upd_same,List.map_append,List.map_append]
        rfl
      · rcases List.mem_append.mp hu with z | z
        · exact hft u z
        · rw [List.mem_singleton.mp z]; exact htT t ht
    · walk_at "go"
      have rq4:=rdL_keep s04 rq
      walk_at "go"
      rw [hql]
      have n0:=Int.emod_nonneg (N / 16) (show (bk.length:Int) ≠ 0 by omega)
      have n1:=Int.emod_lt_of_pos (N / 16) (show 0 < (bk.length:Int) by omega)
      generalize N / 16 % (bk.length:Int) = jj at n0 n1 ⊢
      obtain ⟨j,rfl⟩:∃ j:Nat,jj = (j:Int):=⟨jj.toNat,by omega⟩
      have hj:j < bk.length:=by omega
      have hq:qs[j]? = some (qs[j]'(by omega)):=List.getElem?_eq_getElem _
      have hbj:bk[j]? = some bk[j]:=List.getElem?_eq_getElem hj
      have tp:=s04 _ _ (b3 j _ _ hq hbj)
      obtain ⟨us,huj⟩:∃ us,mss[j]? = some us:=⟨_,List.getElem?_eq_getElem (by rw [hms.1]; exact hj)⟩
      obtain ⟨eu,u1,u5,uT⟩:=hms.2 j _ us hbj huj
      rw [eu] at tp
      have hul:=mean_lenN us uT
      refine s_ixL rq4 (v:=.ref (qs[j]'(by omega))) (atI_nat (by rw [List.getElem?_map,hq]; rfl)) ?_
      walk_at "go"
      refine s_ixT tp (v:=.str (meanC us)) rfl ?_
      walk_at "go"
      refine s_split rfl (by omega) fun r5 hr5 => ?_
      rw [show Txt.split (meanC us) (Str.ofString " ") = us.map strC from parts_mean u1 uT]
      have s5:=same_upd hr5 (.lst ((us.map strC).map V.str))
      have m5:mutL (upd (upd H3 pe (.tup [V.int ((0 + i:Nat):Int),V.int c])) r5 (.lst ((us.map strC).map V.str))) r5 = some ((us.map strC).map V.str):=mutL_same
      have e5:=s5 _ _ e4
      have r5':=rdL_keep s5 r4
      have s05:=s04.trans s5
      generalize upd (upd H3 pe (.tup [V.int ((0 + i:Nat):Int),V.int c])) r5 (.lst ((us.map strC).map V.str)) = H5 at s5 m5 e5 r5' s05 ⊢
      have m5f:=mutL_of e5
      have hum:((us.map strC).map V.str).length = us.length:=by rw [List.length_map,List.length_map]
      have hl2:((fs.map strC).map V.str).length + ((us.map strC).map V.str).length ≤ sizeLine:=by rw [hfm,hum]; exact len_line (by omega)
      walk_at "go"
      refine ⟨fs ++ us,_,_,_,rfl,same_put hpf s05,by rw [rdL_ne nrc]; exact r5',?_,by rw [List.length_append]; omega,fun u hu => (List.mem_append.mp hu).elim (hft u) (uT u)⟩
      unfold TsAt
      rw [upd_same,List.map_append,List.map_append]
  · rintro σ H3 ⟨fs,v4,v5,v6,rfl,s3,r3,e3,hfl,hft⟩
    rw [List.length_map] at hfl
    have en:∀ xs:List V,eqVs xs [] = xs.isEmpty:=fun xs => by cases xs <;> rfl
    with_reducible refine s_seqJ (fun σ' H' => ∃ (g:Addr) (gs:List (List Nat)),σ' = [some (.ref rb),some (.ref rt),some (.ref a),some (.ref g),v4,v5,v6,none] ∧ Same H H' ∧ TsAt H' g gs ∧ 1 ≤ gs.length ∧ ∀ t ∈ gs,TermC t) (fun σ' H4 j4 => ?_) (fun M hM => ?_)
    · obtain ⟨g,gs,rfl,s4,e4,g1,gT⟩:=j4
      have rg:=rdL_of e4
      walk_at "go"
      refine ⟨a,ns,1,rfl,s4.seq hS,by omega,fun n1 => ?_⟩
      walk_at "go"
      refine ⟨n1,101,rfl,by omega,by omega,fun N hN => ?_⟩
      have k0:=Int.emod_nonneg N (show (40:Int) ≠ 0 by decide)
      have k1:=Int.emod_lt_of_pos N (show (0:Int) < 40 by decide)
      walk_at "go"
      intro r6 hr6
      rw [cut_take (by omega),← List.map_take,← List.map_take]
      exact q r6 (gs.take (1 + N % 40).toNat) _ (none_of s4 hr6) (s4.trans (same_upd hr6 _)) upd_same (by rw [List.length_take]; omega) (by rw [List.length_take]; omega) (fun t ht => gT t (List.mem_of_mem_take ht))
    · walk_at "go"
      refine ⟨by decide,fun p7 hp7 => ?_⟩
      have s7:=same_upd hp7 (.lst [])
      refine s_eqL (rdL_keep s7 (rdL_of e3)) rdL_same (allFlat_str _) rfl ?_
      rw [if_neg Bool.false_ne_true,en]
      have e7:=s7 _ _ e3
      have s07:=s3.trans s7
      generalize upd H3 p7 (.lst []) = H7 at s7 e7 s07 ⊢
      walk_at "go"
      cases fs with
      | nil =>
        rw [show (List.map V.str (List.map strC ([]:List (List Nat)))).isEmpty = true from rfl]
        obtain ⟨t,ht,at'⟩:=get_term (ts:=ts) (i:=0) (by omega) (by omega)
        walk_at "go"
        refine s_ixL (rdL_keep s07 rts) at' ?_
        walk_at "go"
        refine ⟨by show 1 ≤ sizeLine; decide,fun p8 hp8 => ?_⟩
        walk_at "go"
        exact hM _ _ ⟨p8,[t],rfl,s07.trans (same_upd hp8 _),upd_same,Nat.le_refl _,fun u hu => by rw [List.mem_singleton.mp hu]; exact htT t ht⟩
      | cons f0 fr =>
        rw [show (List.map V.str (List.map strC (f0 :: fr))).isEmpty = false from rfl]
        walk_at "go"
        exact hM _ _ ⟨pf,f0 :: fr,rfl,s07,e7,by rw [List.length_cons]; omega,hft⟩
def MinTo (mss:List (List (List Nat))) (T:List (List Nat)) (TB:List (Option Int)) (i j:Nat) (o:Option Int):Prop :=
  (o = none ∧ ∀ j',j' < j → j' ∈ stand mss T i → TB.getD (i + mLen mss j') none = none) ∨
  ∃ m,o = some (1 + m) ∧ (∃ j',j' < j ∧ j' ∈ stand mss T i ∧ TB.getD (i + mLen mss j') none = some m) ∧ ∀ j',j' < j → j' ∈ stand mss T i → ∀ a,TB.getD (i + mLen mss j') none = some a → m ≤ a
theorem MinTo.skip {mss:List (List (List Nat))} {T:List (List Nat)} {TB:List (Option Int)} {i j:Nat} {o:Option Int} (h:MinTo mss T TB i j o) (hn:j ∈ stand mss T i → TB.getD (i + mLen mss j) none = none):MinTo mss T TB i (j + 1) o:=by
  rcases h with ⟨h1,h2⟩ | ⟨m,h1,⟨j0,a,b,c⟩,h3⟩
  · refine .inl ⟨h1,fun j' hj hs => ?_⟩
    by_cases e:j' = j
    · subst e; exact hn hs
    · exact h2 j' (by omega) hs
  · refine .inr ⟨m,h1,⟨j0,by omega,b,c⟩,fun j' hj hs a ha => ?_⟩
    by_cases e:j' = j
    · subst e; rw [hn hs] at ha; cases ha
    · exact h3 j' (by omega) hs a ha
theorem MinTo.stay {mss:List (List (List Nat))} {T:List (List Nat)} {TB:List (Option Int)} {i j:Nat} {m a:Int} (h:MinTo mss T TB i j (some m)) (hn:TB.getD (i + mLen mss j) none = some a) (hm:¬ a + 1 < m):MinTo mss T TB i (j + 1) (some m):=by
  rcases h with ⟨h1,_⟩ | ⟨m0,h1,⟨j0,u,b,c⟩,h3⟩
  · cases h1
  · cases h1
    refine .inr ⟨m0,rfl,⟨j0,by omega,b,c⟩,fun j' hj hs a' ha => ?_⟩
    by_cases e:j' = j
    · subst e; rw [hn] at ha; cases ha; omega
    · exact h3 j' (by omega) hs a' ha
theorem MinTo.put {mss:List (List (List Nat))} {T:List (List Nat)} {TB:List (Option Int)} {i j:Nat} {a:Int} {o:Option Int} (h:MinTo mss T TB i j o) (hs:j ∈ stand mss T i) (hn:TB.getD (i + mLen mss j) none = some a) (hm:∀ m,o = some m → a + 1 < m):MinTo mss T TB i (j + 1) (some (a + 1)):=by
  refine .inr ⟨a,by rw [Int.add_comm],⟨j,Nat.lt_succ_self _,hs,hn⟩,fun j' hj hs' b hb => ?_⟩
  by_cases e:j' = j
  · subst e; rw [hn] at hb; cases hb; exact Int.le_refl _
  · rcases h with ⟨_,h2⟩ | ⟨m0,h1,_,h3⟩
    · rw [h2 j' (by omega) hs'] at hb; cases hb
    · have:=h3 j' (by omega) hs' b hb
      have:=hm _ h1
      omega
theorem MinTo.row {mss:List (List (List Nat))} (hL:Lens mss) {T:List (List Nat)} {TB:List (Option Int)} {i:Nat} {o:Option Int} (h:MinTo mss T TB i mss.length o) (hi:i < TB.length):RowOk mss T (TB.set i o) i:=by
  have ebe:behL mss T (TB.set i o) i = behL mss T TB i:=beh_congr hL fun k hk => by rw [setO_getD hi,if_neg (by omega)]
  unfold RowOk knL
  rw [ebe,setO_getD hi,if_pos rfl]
  have mem:∀ a,a ∈ (behL mss T TB i).filterMap id ↔ ∃ j ∈ stand mss T i,TB.getD (i + mLen mss j) none = some a:=fun a => by
    constructor
    · intro h
      obtain ⟨o',ho,e⟩:=List.mem_filterMap.mp h
      have e2:o' = some a:=e
      obtain ⟨j,hj,ej⟩:=List.mem_map.mp ho
      exact ⟨j,hj,ej.trans e2⟩
    · rintro ⟨j,hj,e⟩
      exact List.mem_filterMap.mpr ⟨some a,List.mem_map.mpr ⟨j,hj,e⟩,rfl⟩
  rcases h with ⟨h1,h2⟩ | ⟨m,h1,⟨j0,u,b,c⟩,h3⟩
  · refine .inl ⟨List.eq_nil_iff_forall_not_mem.mpr fun a ha => ?_,h1⟩
    obtain ⟨j,hj,e⟩:=(mem a).mp ha
    rw [h2 j (stand_ok hj).1 hj] at e
    cases e
  · refine .inr ⟨m,(mem m).mpr ⟨j0,b,c⟩,fun a ha => ?_,h1⟩
    obtain ⟨j,hj,e⟩:=(mem a).mp ha
    exact h3 j (stand_ok hj).1 hj a e
def sp_l_table:Sp:=fun vs H Q _ => ∃ (rb rt:Addr) (bk:List (Str × Str)) (mss:List (List (List Nat))) (T:List (List Nat)),vs = [.ref rb,.ref rt] ∧ BkAt H rb bk ∧ bk.length ≤ 60 ∧ MeansAre bk mss ∧ TsAt H rt T ∧ T.length ≤ 40 ∧
  ∀ (r:Addr) (TB:List (Option Int)) (H':Hp),H r = none → Same H H' → H' r = some (.lst (TB.map tV)) → TabOk mss T TB → Q (.ref r) H'
theorem sc_l_table:FnScope ["_law_book_here", "_law_terms_here", "_law_due_here", "_law_at", "_law_word_here", "_law_meaning", "_law_some", "_law_behind"] ["_law_book_here", "_law_terms_here"] (defScope s_l_table):=⟨rfl,rfl,rfl,by decide +kernel,rfl,by decide +kernel,by decide +kernel⟩
theorem ok_l_table {aNoWord aTowerError:Addr} {f:Addr} {fd:FuncData} (F:Fun K "_law_table" "_law_table" s_l_table f fd) (G:Gs K mg aNoWord aTowerError)  : FnOk P w K mg base CX0 1 f fd ["_law_book_here", "_law_terms_here"] sp_l_table:=by
  refine F.ok sc_l_table (fun vs H Q E h => ?_) (fun cdv A outer s H vs Q E hr h => ?_)
  · obtain ⟨rb,rt,bk,mss,T,rfl,_⟩:=h; rfl
  obtain ⟨rb,rt,bk,mss,T,rfl,hbk,h60,hms,hT,h40,q⟩:=h
  refine ⟨_,(@pss_cons _ _ _ _ _ (@ps_set _ _ 2 _ _ _ _ sc_l_table.nd (by rfl) (by exact (Or.inl rfl)) (pe_op m_add (pe_op op_rep (pe_lst (pa_cons pe_non pa_nil)) (pe_callB m_len rfl G.b_len bt_len (pa_cons (mv 1) pa_nil))) (pe_lst (pa_cons pe_int pa_nil))) (by rfl) (by first | exact Or.inl rfl | exact Or.inr rfl)) (@pss_cons _ _ _ _ _ (pj_for PassesOwn.never rfl (pj_rev rfl G.b_reversed (pa_cons (pe_callTy m_rngV rfl G.b_range bt_range (pa_cons (pe_callB m_len rfl G.b_len bt_len (pa_cons (mv 1) pa_nil)) pa_nil)) pa_nil)) (pg_name (i:=3) sc_l_table.nd rfl (Or.inl rfl)) (@pss_one _ _ _ (pj_for PassesOwn.never rfl (pj_list (mv 0)) (pg_pair (K:=K) (i:=4) (j:=5) (by rfl) (by rfl) sc_l_table.nd (by rfl) (by exact (Or.inl rfl)) (by exact Or.inl rfl) (by rfl) (by exact (Or.inl rfl)) (by exact Or.inl rfl)) (@pss_cons _ _ _ _ _ (@ps_set _ _ 6 _ _ _ _ sc_l_table.nd (by rfl) (by exact (Or.inl rfl)) (me_meth PySem.F.plainAttrs_str PySem.F.slot_str_split PySem.F.type_str_split m_split (mv 5) (@pa_str _ _ _ _ _ _ pa_nil)) (by rfl) (by first | exact Or.inl rfl | exact Or.inr rfl)) (@pss_cons _ _ _ _ _ (@ps_set _ _ 7 _ _ _ _ sc_l_table.nd (by rfl) (by exact (Or.inl rfl)) (pe_op m_add (mv 3) (pe_callB m_len rfl G.b_len bt_len (pa_cons (mv 6) pa_nil))) (by rfl) (by first | exact Or.inl rfl | exact Or.inr rfl)) (@pss_one _ _ _ (ps_if (PW.pt (pw_and (mt_cmp (m_eqL hr.units0) (pe_slice m_sl (mv 1) (mo_some (mv 3)) (mo_some (mv 7))) (mv 6) (nomark _)) (pw_and1 (mt_cmp m_notN (pe_ix m_ix (mv 2) (mv 7) (fun _ _ => rfl)) pe_non (nomark _))))) (@pss_one _ _ _ (ps_if (PW.pt (pw_or (mt_cmp m_isN (pe_ix m_ix (mv 2) (mv 3) (fun _ _ => rfl)) pe_non (nomark _)) (pw_or1 (mt_cmp m_lt (pe_op m_add (pe_ix m_ix (mv 2) (mv 7) (fun _ _ => rfl)) pe_int) (pe_ix m_ix (mv 2) (mv 3) (fun _ _ => rfl)) (nomark _))))) (@pss_one _ _ _ (ps_asg (pe_op m_add (pe_ix m_ix (mv 2) (mv 7) (fun _ _ => rfl)) pe_int) (pg_sub (mv 2) (mv 3) set_list))) pss_nil)) pss_nil))))))) (@pss_one _ _ _ (ps_ret (mv 2))))),?_⟩
  have hL:=lens_of hms h60
  have htl:((T.map strC).map V.str).length = T.length:=by rw [List.length_map,List.length_map]
  have rT:=rdL_of hT
  obtain ⟨qs,b1,b2,b3⟩:=id hbk
  have rq:=rdL_of b1
  have hql:(qs.map V.ref).length = bk.length:=by rw [List.length_map,b2]
  walk_at "go"
  refine ⟨by show 1 ≤ sizeLine; decide,fun p0 hp0 => ?_⟩
  have s0:=same_upd hp0 (.lst [V.non])
  have e0:(upd H p0 (.lst [V.non])) p0 = some (.lst [V.non]):=upd_same
  generalize upd H p0 (.lst [V.non]) = H0 at s0 e0 ⊢
  have rT0:=rdL_keep s0 rT
  walk_at "go"
  rw [htl]
  refine ⟨p0,_,[V.non],rfl,rfl,e0,by omega,by omega,by show 1 * ((T.length:Int)).toNat ≤ sizeLine; exact len_line (by omega),fun p1 hp1 => ?_⟩
  have er:(List.replicate ((T.length:Int)).toNat [V.non]).flatten = (List.replicate T.length (none:Option Int)).map tV:=by
    rw [show ((T.length:Int)).toNat = T.length from rfl]
    generalize T.length = n
    induction n with
    | zero => rfl
    | succ n ih => rw [List.replicate_succ,List.flatten_cons,ih,List.replicate_succ,List.map_cons]; rfl
  rw [er]
  have s1:=s0.trans (same_upd hp1 (.lst ((List.replicate T.length (none:Option Int)).map tV)))
  have e1:(upd H0 p1 (.lst ((List.replicate T.length (none:Option Int)).map tV))) p1 = _:=upd_same
  generalize upd H0 p1 (.lst ((List.replicate T.length (none:Option Int)).map tV)) = H1 at s1 e1 ⊢
  walk_at "go"
  refine ⟨by show 1 ≤ sizeLine; decide,fun p2 hp2 => ?_⟩
  have n2:p1 ≠ p2:=ne_of_none e1 hp2
  refine s_addL (xs:=(List.replicate T.length (none:Option Int)).map tV) (ys:=[V.int 0]) (by rw [mutL_ne n2]; exact mutL_of e1) mutL_same (len_line (by rw [List.length_map,List.length_replicate]; show _ + 1 ≤ _; omega)) fun tb htb => ?_
  rw [show (List.replicate T.length (none:Option Int)).map tV ++ [V.int 0] = (List.replicate T.length (none:Option Int) ++ [some 0]).map tV by rw [List.map_append]; rfl]
  have htbH:H tb = none:=none_of (s1.trans (same_upd hp2 _)) htb
  have s3:=s1.trans ((same_upd hp2 (.lst [V.int 0])).trans (same_upd htb (.lst ((List.replicate T.length (none:Option Int) ++ [some 0]).map tV))))
  have e3:(upd (upd H1 p2 (.lst [V.int 0])) tb (.lst ((List.replicate T.length (none:Option Int) ++ [some 0]).map tV))) tb = _:=upd_same
  generalize upd (upd H1 p2 (.lst [V.int 0])) tb (.lst ((List.replicate T.length (none:Option Int) ++ [some 0]).map tV)) = H3 at s3 e3 ⊢
  have rT3:=rdL_keep s3 rT
  walk_at "go"
  refine s_jRev ?_
  walk_at "go"
  rw [htl]
  refine s_rngV1 fun rr hrr => ?_
  refine ⟨rr,T.length,rfl,upd_same,by omega,?_⟩
  have s3':=s3.trans (same_upd hrr (.rng 0 (T.length:Int)))
  have e3':=same_upd hrr (.rng 0 (T.length:Int)) _ _ e3
  generalize upd H3 rr (.rng 0 (T.length:Int)) = H3' at s3' e3' ⊢
  have ini:∀ k,(List.replicate T.length (none:Option Int) ++ [some 0]).getD k none = if k = T.length then some 0 else none:=fun k => by
    rw [List.getD_eq_getElem?_getD]
    by_cases h1:k < T.length
    · rw [List.getElem?_append_left (by rw [List.length_replicate]; exact h1),List.getElem?_replicate,if_pos h1,if_neg (by omega)]
      rfl
    · rw [List.getElem?_append_right (by rw [List.length_replicate]; omega),List.length_replicate]
      by_cases h2:k = T.length
      · subst h2; rw [if_pos rfl,Nat.sub_self]; rfl
      · rw [if_neg h2,List.getElem?_eq_none (by show 1 ≤ _; omega)]; rfl
  refine fj_range3 (fun t σ H' => ∃ (TB:List (Option Int)) (v3 v4 v5 v6 v7:Option V),σ = [some (.ref rb),some (.ref rt),some (.ref tb),v3,v4,v5,v6,v7] ∧ Same H H' ∧ H' tb = some (.lst (TB.map tV)) ∧ TB.length = T.length + 1 ∧ TB.getD T.length none = some 0 ∧ (∀ k v,TB.getD k none = some v → 0 ≤ v ∧ v ≤ (t:Int)) ∧ (∀ i,T.length ≤ i + t → i < T.length → RowOk mss T TB i) ∧ ∀ i,i + t < T.length → TB.getD i none = none)
    ⟨List.replicate T.length none ++ [some 0],_,_,_,_,_,rfl,s3',e3',by rw [List.length_append,List.length_replicate]; rfl,by rw [ini,if_pos rfl],fun k v hv => ?_,fun i h1 h2 => absurd h1 (by omega),fun i hi => by rw [ini,if_neg (by omega)]⟩ ?_ ?_
  · rw [ini] at hv
    split at hv
    · cases hv; omega
    · cases hv
  · rintro t σ H4 ht ⟨TB,v3,v4,v5,v6,v7,rfl,s4,e4,hlen,hlast,hsm,hrow,hnone⟩
    obtain ⟨st,hst⟩:∃ st:Nat,st + t + 1 = T.length:=⟨T.length - 1 - t,by omega⟩
    rw [show (T.length:Int) - 1 + (t:Int) * (-1) = (st:Int) by omega]
    have rq4:=rdL_keep s4 rq
    have hst1:st < TB.length:=by omega
    walk_at "go"
    refine fj_list (xs:=qs.map V.ref) (fun j σ H' => ∃ (o:Option Int) (v4 v5 v6 v7:Option V),σ = [some (.ref rb),some (.ref rt),some (.ref tb),some (.int (st:Int)),v4,v5,v6,v7] ∧ Same H H' ∧ H' tb = some (.lst ((TB.set st o).map tV)) ∧ MinTo mss T TB st j o)
      ⟨none,_,_,_,_,rfl,s4,?_,.inl ⟨rfl,fun j' hj => absurd hj (Nat.not_lt_zero _)⟩⟩ (fun j σ H' _ ⟨_,_,_,_,_,_,e,_⟩ => rdL_keep e rq) ?_ ?_
    · rw [show TB.set st none = TB from ?_]
      · exact e4
      · have:=hnone st (by omega)
        rw [List.getD_eq_getElem?_getD,List.getElem?_eq_getElem hst1] at this
        refine List.ext_getElem (List.length_set ..) fun k k1 k2 => ?_
        rw [List.getElem_set]
        by_cases e:st = k
        · subst e; rw [if_pos rfl]; exact this.symm
        · rw [if_neg e]
    · rintro j x σ H5 hx ⟨o,v4,v5,v6,v7,rfl,s5,e5,hmin⟩
      rw [List.getElem?_map] at hx
      obtain ⟨p,ep,rfl⟩:=Option.map_eq_some_iff.mp hx
      have hjb:j < bk.length:=by rw [← b2]; exact (List.getElem?_eq_some_iff.mp ep).1
      have hjm:j < mss.length:=by rw [hms.1]; exact hjb
      obtain ⟨hmn,hm1,hm5,hmt⟩:=hms.2 j _ _ (List.getElem?_eq_getElem hjb) (List.getElem?_eq_getElem hjm)
      have hml:mss[j].length = mLen mss j:=by unfold mLen; rw [mLen_of (List.getElem?_eq_getElem hjm)]
      have tt5:=tupL_of (s5 _ _ (b3 j p _ ep (List.getElem?_eq_getElem hjb)))
      have hmb:=mean_lenN mss[j] hmt
      have hSt:Stands mss T st j ↔ (T.drop st).take (mLen mss j) = mss[j]:=by unfold Stands; rw [mLen_of (List.getElem?_eq_getElem hjm)]
      walk_at "go"
      rw [hmn]
      refine s_split rfl (by omega) fun q6 hq6 => ?_
      rw [show Txt.split (meanC mss[j]) (Str.ofString " ") = mss[j].map strC from parts_mean hm1 hmt]
      have s6:=s5.trans (same_upd hq6 (.lst ((mss[j].map strC).map V.str)))
      have r66:rdL (upd H5 q6 (.lst ((mss[j].map strC).map V.str))) q6 = some ((mss[j].map strC).map V.str):=rdL_same
      have e6:=same_upd hq6 (.lst ((mss[j].map strC).map V.str)) _ _ e5
      generalize upd H5 q6 (.lst ((mss[j].map strC).map V.str)) = H6 at s6 r66 e6 ⊢
      have hl6:((mss[j].map strC).map V.str).length = mLen mss j:=by rw [List.length_map,List.length_map,hml]
      have rT6:=rdL_keep s6 rT
      walk_at "go"
      rw [hl6]
      intro r7 hr7
      rw [cutV_mid (by rw [htl]; omega),← List.map_drop,← List.map_drop,← List.map_take,← List.map_take]
      have k7:=same_upd hr7 (.lst ((((T.drop st).take (mLen mss j)).map strC).map V.str))
      refine s_eqL rdL_same (rdL_keep k7 r66) (allFlat_str _) (allFlat_str _) ?_
      rw [if_neg Bool.false_ne_true,eqVs_strs]
      have s7:=s6.trans k7
      have e7:=k7 _ _ e6
      generalize upd H6 r7 (.lst ((((T.drop st).take (mLen mss j)).map strC).map V.str)) = H7 at s7 e7 ⊢
      by_cases hS:(T.drop st).take (mLen mss j) = mss[j]
      · rw [decide_eq_true (congrArg (List.map strC) hS)]
        have hmem:j ∈ stand mss T st:=List.mem_filter.mpr ⟨List.mem_range.mpr hjm,decide_eq_true (hSt.mpr hS)⟩
        have hle:=stand_le (stand_ok hmem).2 (show st ≤ T.length by omega)
        have hj1:=(mLen_pos hL hjm).1
        have r7':=rdL_of e7
        have hsl:(TB.set st o).length = TB.length:=List.length_set ..
        have abe:atI ((TB.set st o).map tV) ((st:Int) + (mLen mss j:Int)) = some (tV (TB.getD (st + mLen mss j) none)):=by
          rw [show (st:Int) + (mLen mss j:Int) = ((st + mLen mss j:Nat):Int) by omega,tV_at (by omega),setO_getD hst1,if_neg (by omega)]
        have ast:atI ((TB.set st o).map tV) (st:Int) = some (tV o):=by rw [tV_at (by omega),setO_getD hst1,if_pos rfl]
        walk_at "go"
        refine s_ixL r7' abe ?_
        cases ob:TB.getD (st + mLen mss j) none with
        | none =>
          walk_at "go"
          exact ⟨o,_,_,_,_,rfl,s7,e7,hmin.skip fun _ => ob⟩
        | some b =>
          rw [ob] at abe
          have hbb:=hsm _ _ ob
          have abe':atI ((TB.set st o).map tV) ((st:Int) + (mLen mss j:Int)) = some (.int b):=abe
          have sib:∀ n:Int,decide (tV (some n) = V.non) = false:=fun n => decide_eq_false fun z => nomatch z
          have mst:=mutL_of e7
          have fin:(∀ m,o = some m → b + 1 < m) → ∃ o':Option Int,(upd H7 tb (.lst ((TB.set st (some (b + 1))).map tV))) tb = some (.lst ((TB.set st o').map tV)) ∧ MinTo mss T TB st (j + 1) o':=fun hm => ⟨some (b + 1),upd_same,hmin.put hmem ob hm⟩
          have hsx:((TB.set st o).map tV).set st (.int (b + 1)) = (TB.set st (some (b + 1))).map tV:=by
            rw [show V.int (b + 1) = tV (some (b + 1)) from rfl,← List.map_set,List.set_set]
          walk_at "go"
          rw [sib]
          walk_at "go"
          refine s_ixL r7' ast ?_
          cases o with
          | none =>
            walk_at "go"
            rw [show decide (tV none = V.non) = true from decide_eq_true rfl]
            walk_at "go"
            refine s_ixL r7' abe' ?_
            walk_at "go"
            refine s_set (o:=.non) mst (ixN_lt (by omega) (by rw [List.length_map]; omega)) ?_
            rw [show ((st:Nat):Int).toNat = st from rfl,hsx]
            walk_at "go"
            obtain ⟨o',f1,f2⟩:=fin fun m hm => nomatch hm
            exact ⟨o',_,_,_,_,rfl,same_put htbH s7,f1,f2⟩
          | some m =>
            walk_at "go"
            rw [sib]
            walk_at "go"
            refine s_ixL r7' abe' ?_
            walk_at "go"
            refine s_ixL r7' (v:=.int m) ast ?_
            walk_at "go"
            refine ite2 (fun hg => ?_) (fun hg => ?_)
            · walk_at "go"
              refine s_ixL r7' abe' ?_
              walk_at "go"
              refine s_set (o:=.int m) mst (ixN_lt (by omega) (by rw [List.length_map]; omega)) ?_
              rw [show ((st:Nat):Int).toNat = st from rfl,hsx]
              walk_at "go"
              obtain ⟨o',f1,f2⟩:=fin fun m' hm => by cases hm; exact of_decide_eq_true hg
              exact ⟨o',_,_,_,_,rfl,same_put htbH s7,f1,f2⟩
            · walk_at "go"
              exact ⟨some m,_,_,_,_,rfl,s7,e7,hmin.stay ob fun z => hg (decide_eq_true z)⟩
      · rw [decide_eq_false (fun z => hS (map_strC_inj z))]
        walk_at "go"
        exact ⟨o,_,_,_,_,rfl,s7,e7,hmin.skip fun z => absurd (hSt.mp (stand_ok z).2) hS⟩
    · rintro σ H5 ⟨o,v4,v5,v6,v7,rfl,s5,e5,hmin⟩
      rw [hql,← hms.1] at hmin
      have gd:∀ k,k ≠ st → TB.getD k none = (TB.set st o).getD k none:=fun k hk => by rw [setO_getD hst1,if_neg hk]
      refine ⟨TB.set st o,_,_,_,_,_,rfl,s5,e5,by rw [List.length_set]; exact hlen,by rw [← gd _ (by omega)]; exact hlast,fun k v hv => ?_,fun i h1 h2 => ?_,fun i hi => by rw [← gd _ (by omega)]; exact hnone i (by omega)⟩
      · by_cases ek:k = st
        · subst ek
          rw [setO_getD hst1,if_pos rfl] at hv
          subst hv
          rcases hmin with ⟨z,_⟩ | ⟨m,z,⟨j0,_,_,c⟩,_⟩
          · cases z
          · cases z
            have:=hsm _ _ c
            omega
        · rw [← gd k ek] at hv
          have:=hsm k v hv
          omega
      · by_cases ei:i = st
        · subst ei; exact hmin.row hL hst1
        · exact row_congr hL (fun k hk => gd k (by omega)) (hrow i (by omega) h2)
  · rintro σ H4 ⟨TB,v3,v4,v5,v6,v7,rfl,s4,e4,hlen,hlast,hsm,hrow,hnone⟩
    walk_at "go"
    exact q tb TB H4 htbH s4 e4 ⟨hlen,hlast,fun k n hn => by have:=hsm k n hn; omega,fun i hi => hrow i (by omega) hi⟩
def lessN (mss:List (List (List Nat))) (T:List (List Nat)) (TB:List (Option Int)) (i:Nat) (n:Int) (j:Nat):List Nat:=(List.range j).filter fun k => decide (k ∈ stand mss T i ∧ TB.getD (i + mLen mss k) none = some (n - 1))
theorem less_mem {mss:List (List (List Nat))} {T:List (List Nat)} {TB:List (Option Int)} {i j:Nat} {n:Int} {k:Nat}:k ∈ lessN mss T TB i n j ↔ k < j ∧ k ∈ stand mss T i ∧ TB.getD (i + mLen mss k) none = some (n - 1):=by
  unfold lessN
  rw [List.mem_filter,List.mem_range,decide_eq_true_iff]
theorem less_yes {mss:List (List (List Nat))} {T:List (List Nat)} {TB:List (Option Int)} {i j:Nat} {n:Int} (h:j ∈ stand mss T i) (e:TB.getD (i + mLen mss j) none = some (n - 1)):lessN mss T TB i n (j + 1) = lessN mss T TB i n j ++ [j]:=by
  unfold lessN
  rw [List.range_succ,List.filter_append,List.filter_cons,if_pos (decide_eq_true ⟨h,e⟩)]
  rfl
theorem less_no {mss:List (List (List Nat))} {T:List (List Nat)} {TB:List (Option Int)} {i j:Nat} {n:Int} (h:¬ (j ∈ stand mss T i ∧ TB.getD (i + mLen mss j) none = some (n - 1))):lessN mss T TB i n (j + 1) = lessN mss T TB i n j:=by
  unfold lessN
  rw [List.range_succ,List.filter_append,List.filter_cons,if_neg (by rw [decide_eq_true_iff]; exact h),List.filter_nil,List.append_nil]
theorem less_len (mss:List (List (List Nat))) (T:List (List Nat)) (TB:List (Option Int)) (i:Nat) (n:Int) (j:Nat):(lessN mss T TB i n j).length ≤ j:=by
  have:=List.length_filter_le (fun k => decide (k ∈ stand mss T i ∧ TB.getD (i + mLen mss k) none = some (n - 1))) (List.range j)
  rw [List.length_range] at this
  exact this
def prK (mss:List (List (List Nat))) (k:Nat):Int × Int:=((mLen mss k:Int),(k:Int))
theorem pr_best {mss:List (List (List Nat))} {T:List (List Nat)} {TB:List (Option Int)} {i:Nat} {n:Int} (hn:TB.getD i none = some n) {k:Nat} (hk:k ∈ lessN mss T TB i n mss.length) (hm:∀ k' ∈ (lessN mss T TB i n mss.length).map (prK mss),¬ ltPr (prK mss k) k'):Best mss T TB i k:=by
  obtain ⟨h1,h2,h3⟩:=less_mem.mp hk
  refine ⟨h2,⟨n,hn,h3⟩,fun j hj e => ?_⟩
  have:=hm _ (List.mem_map.mpr ⟨j,less_mem.mpr ⟨(stand_ok hj).1,hj,e.trans h3⟩,rfl⟩)
  unfold ltPr prK at this
  simp only at this
  omega
theorem less_some {mss:List (List (List Nat))} {T:List (List Nat)} {TB:List (Option Int)} {i:Nat} {n:Int} (r:RowOk mss T TB i) (hn:TB.getD i none = some n):0 < (lessN mss T TB i n mss.length).length:=by
  rcases r with ⟨_,z⟩ | ⟨m,hm,_,hm2⟩
  · rw [hn] at z; cases z
  · rw [hn] at hm2
    obtain ⟨o,ho,e⟩:=List.mem_filterMap.mp hm
    have e2:o = some m:=e
    obtain ⟨j,hj,ej⟩:=List.mem_map.mp ho
    refine List.length_pos_of_mem (less_mem.mpr ⟨(stand_ok hj).1,hj,?_⟩:j ∈ _)
    rw [ej,e2]
    injection hm2 with hm2
    rw [hm2]
    congr 1
    omega
def PrsAt (mss:List (List (List Nat))) (H:Hp) (r:Addr) (js:List Nat):Prop:=∃ ps:List Addr,H r = some (.lst (ps.map V.ref)) ∧ ps.length = js.length ∧ ∀ (u:Nat) p k,ps[u]? = some p → js[u]? = some k → H p = some (.tup [.int (mLen mss k:Int),.int (k:Int)])
theorem prs_max {mss:List (List (List Nat))} {H:Hp} {r:Addr} {js:List Nat} (h:PrsAt mss H r js) (h0:0 < js.length) {Q:VK} (q:∀ k ∈ js,(∀ k' ∈ js.map (prK mss),¬ ltPr (prK mss k) k') → ∀ p,H p = some (.tup [.int (mLen mss k:Int),.int (k:Int)]) → Q (.ref p) H):mMaxPr [.ref r] H Q:=by
  obtain ⟨ps,h1,h2,h3⟩:=h
  refine s_maxPr (ks:=js.map (prK mss)) (rdL_of h1) (by rw [List.length_map]; exact h2) (fun i p k hp hk => ?_) (by omega) fun i p k hp hk hm => ?_
  · rw [List.getElem?_map] at hk
    obtain ⟨j,ej,rfl⟩:=Option.map_eq_some_iff.mp hk
    exact h3 i p j hp ej
  · rw [List.getElem?_map] at hk
    obtain ⟨j,ej,rfl⟩:=Option.map_eq_some_iff.mp hk
    exact q j (List.mem_of_getElem? ej) hm p (h3 i p j hp ej)
theorem PrsAt.keep {mss:List (List (List Nat))} {H H':Hp} {r:Addr} {js:List Nat} (h:PrsAt mss H r js) (s:Same H H'):PrsAt mss H' r js:=by
  obtain ⟨ps,h1,h2,h3⟩:=h
  exact ⟨ps,s _ _ h1,h2,fun u p k hp hk => s _ _ (h3 u p k hp hk)⟩
theorem PrsAt.put {mss:List (List (List Nat))} {H:Hp} {r pn:Addr} {js:List Nat} {xs:List V} {o:HO} (h:PrsAt mss H r js) (e:H pn = some (.lst xs)) (ne:r ≠ pn):PrsAt mss (upd H pn o) r js:=by
  obtain ⟨ps,h1,h2,h3⟩:=h
  refine ⟨ps,by rw [upd_ne ne]; exact h1,h2,fun u p k hp hk => ?_⟩
  have:=h3 u p k hp hk
  rw [upd_ne fun z => by rw [z,e] at this; cases this]
  exact this
theorem PrsAt.add {mss:List (List (List Nat))} {H:Hp} {r pt:Addr} {js:List Nat} {j:Nat} {ps:List Addr} (h1:H r = some (.lst (ps.map V.ref))) (h2:ps.length = js.length) (h3:∀ (u:Nat) p k,ps[u]? = some p → js[u]? = some k → H p = some (.tup [.int (mLen mss k:Int),.int (k:Int)])) (ht:H pt = some (.tup [.int (mLen mss j:Int),.int (j:Int)])):PrsAt mss (upd H r (.lst (ps.map V.ref ++ [V.ref pt]))) r (js ++ [j]):=by
  have ne:∀ p xs,H p = some (.tup xs) → p ≠ r:=fun p xs e z => by rw [z,h1] at e; cases e
  refine ⟨ps ++ [pt],by rw [upd_same,List.map_append]; rfl,by rw [List.length_append,List.length_append,h2]; rfl,fun u p k hp hk => ?_⟩
  rcases Nat.lt_or_ge u ps.length with z | z
  · rw [List.getElem?_append_left z] at hp
    rw [List.getElem?_append_left (by omega)] at hk
    have:=h3 u p k hp hk
    rw [upd_ne (ne _ _ this)]
    exact this
  · rw [List.getElem?_append_right z] at hp
    rw [List.getElem?_append_right (by omega)] at hk
    obtain ⟨w1,w2⟩:=List.getElem?_eq_some_iff.mp hp
    obtain ⟨x1,x2⟩:=List.getElem?_eq_some_iff.mp hk
    have eu:u - ps.length = 0:=by have:u - ps.length < 1:=w1; omega
    have ev:u - js.length = 0:=by omega
    rw [eu] at hp
    rw [ev] at hk
    cases hp
    cases hk
    rw [upd_ne (ne _ _ ht)]
    exact ht
def sp_l_due:Sp:=fun vs H Q _ => ∃ (rb rt td:Addr) (bk:List (Str × Str)) (mss:List (List (List Nat))) (T:List (List Nat)) (TB:List (Option Int)) (v:Int),vs = [.ref rb,.ref rt,.ref td] ∧ BkAt H rb bk ∧ bk.length ≤ 60 ∧ MeansAre bk mss ∧ TsAt H rt T ∧ T.length ≤ 40 ∧ H td = some (.lst (TB.map tV)) ∧ TabOk mss T TB ∧ TB.getD 0 none = some v ∧
  ∀ (r:Addr) (ks:List Nat) (H':Hp),H r = none → Same H H' → H' r = some (.lst (ks.map fun k => V.int ((k:Nat):Int))) → Path mss T TB 0 ks → Q (.ref r) H'
theorem sc_l_due:FnScope ["_law_book_here", "_law_terms_here", "_law_due_here", "_law_found", "_law_at", "_law_best", "_law_number", "_law_row", "_law_some", "_law_behind"] ["_law_book_here", "_law_terms_here", "_law_due_here"] (defScope s_l_due):=⟨rfl,rfl,rfl,by decide +kernel,rfl,by decide +kernel,by decide +kernel⟩
theorem ok_l_due {aNoWord aTowerError:Addr} {f:Addr} {fd:FuncData} (F:Fun K "_law_due" "_law_due" s_l_due f fd) (G:Gs K mg aNoWord aTowerError)  : FnOk P w K mg base CX0 1 f fd ["_law_book_here", "_law_terms_here", "_law_due_here"] sp_l_due:=by
  refine F.ok sc_l_due (fun vs H Q E h => ?_) (fun cdv A outer s H vs Q E hr h => ?_)
  · obtain ⟨rb,rt,td,bk,mss,T,TB,v,rfl,_⟩:=h; rfl
  obtain ⟨rb,rt,td,bk,mss,T,TB,v0,rfl,hbk,h60,hms,hT,h40,etd,ok,ev0,q⟩:=h
  refine ⟨_,(@pss_cons _ _ _ _ _ (@ps_set _ _ 3 _ _ _ _ sc_l_due.nd (by rfl) (by exact (Or.inl rfl)) (pe_lst pa_nil) (by rfl) (by first | exact Or.inl rfl | exact Or.inr rfl)) (@pss_cons _ _ _ _ _ (@ps_set _ _ 4 _ _ _ _ sc_l_due.nd (by rfl) (by exact (Or.inl rfl)) pe_int (by rfl) (by first | exact Or.inl rfl | exact Or.inr rfl)) (@pss_cons _ _ _ _ _ (ps_while PassesOwn.never (mt_cmp m_lt (mv 4) (pe_callB m_len rfl G.b_len bt_len (pa_cons (mv 1) pa_nil)) (nomark _)) (@pss_cons _ _ _ _ _ (@ps_set _ _ 5 _ _ _ _ sc_l_due.nd (by rfl) (by exact (Or.inl rfl)) (pe_lst pa_nil) (by rfl) (by first | exact Or.inl rfl | exact Or.inr rfl)) (@pss_cons _ _ _ _ _ (pj_for PassesOwn.never rfl (pj_enum rfl G.b_enumerate (pa_cons (mv 0) pa_nil)) (pg_pair (K:=K) (i:=6) (j:=7) (by rfl) (by rfl) sc_l_due.nd (by rfl) (by exact (Or.inl rfl)) (by exact Or.inl rfl) (by rfl) (by exact (Or.inl rfl)) (by exact Or.inl rfl)) (@pss_cons _ _ _ _ _ (@ps_set _ _ 8 _ _ _ _ sc_l_due.nd (by rfl) (by exact (Or.inl rfl)) (me_meth PySem.F.plainAttrs_str PySem.F.slot_str_split PySem.F.type_str_split m_split (pe_ix m_ix (mv 7) pe_int (fun _ _ => rfl)) (@pa_str _ _ _ _ _ _ pa_nil)) (by rfl) (by first | exact Or.inl rfl | exact Or.inr rfl)) (@pss_cons _ _ _ _ _ (@ps_set _ _ 9 _ _ _ _ sc_l_due.nd (by rfl) (by exact (Or.inl rfl)) (pe_op m_add (mv 4) (pe_callB m_len rfl G.b_len bt_len (pa_cons (mv 8) pa_nil))) (by rfl) (by first | exact Or.inl rfl | exact Or.inr rfl)) (@pss_one _ _ _ (ps_if (PW.pt (pw_and (mt_cmp (m_eqL hr.units0) (pe_slice m_sl (mv 1) (mo_some (mv 4)) (mo_some (mv 9))) (mv 8) (nomark _)) (pw_and1 (mt_cmp m_eq (pe_ix m_ix (mv 2) (mv 9) (fun _ _ => rfl)) (pe_op m_sub (pe_ix m_ix (mv 2) (mv 4) (fun _ _ => rfl)) pe_int) (nomark _))))) (@pss_one _ _ _ (ps_expr (me_meth PySem.F.plainAttrs_list PySem.F.slot_list_append PySem.F.type_list_append m_app (mv 5) (pa_cons (pe_tup (pa_cons (pe_callB m_len rfl G.b_len bt_len (pa_cons (mv 8) pa_nil)) (pa_cons (mv 6) pa_nil))) pa_nil)))) pss_nil))))) (@pss_cons _ _ _ _ _ (ps_expr (me_meth PySem.F.plainAttrs_list PySem.F.slot_list_append PySem.F.type_list_append m_app (mv 3) (pa_cons (pe_ix m_ix (pe_callB (m_maxPr rfl hr.units) rfl G.b_max bt_max (pa_cons (mv 5) pa_nil)) pe_int (fun _ _ => rfl)) pa_nil))) (@pss_one _ _ _ (@ps_set _ _ 4 _ _ _ _ sc_l_due.nd (by rfl) (by exact (Or.inl rfl)) (pe_op m_add (mv 4) (pe_ix m_ix (pe_callB (m_maxPr rfl hr.units) rfl G.b_max bt_max (pa_cons (mv 5) pa_nil)) pe_int (fun _ _ => rfl))) (by rfl) (by first | exact Or.inl rfl | exact Or.inr rfl))))))) (@pss_one _ _ _ (ps_ret (mv 3)))))),?_⟩
  have hL:=lens_of hms h60
  have hlen:=ok.len
  have htl:((T.map strC).map V.str).length = T.length:=by rw [List.length_map,List.length_map]
  have rT:=rdL_of hT
  obtain ⟨qs,b1,b2,b3⟩:=id hbk
  have rq:=rdL_of b1
  have hql:(qs.map V.ref).length = bk.length:=by rw [List.length_map,b2]
  walk_at "go"
  refine ⟨by decide,fun pn hpn => ?_⟩
  have s4:=same_upd hpn (.lst [])
  have e4:(upd H pn (.lst [])) pn = some (.lst ((([]:List Nat)).map fun k => V.int ((k:Nat):Int))):=upd_same
  generalize upd H pn (.lst []) = H4 at s4 e4 ⊢
  walk_at "go"
  refine ⟨fun m σ H' => ∃ (i:Nat) (ks:List Nat) (v5 v6 v7 v8 v9:Option V),σ = [some (.ref rb),some (.ref rt),some (.ref td),some (.ref pn),some (.int (i:Int)),v5,v6,v7,v8,v9] ∧ m + i = T.length ∧ Same H H' ∧ H' pn = some (.lst (ks.map fun k => V.int ((k:Nat):Int))) ∧ PathTo mss T TB i ks ∧ ∃ v,TB.getD i none = some v,
    ⟨T.length,0,[],_,_,_,_,_,rfl,rfl,s4,e4,.nil,_,ev0⟩,?_⟩
  rintro m0 σ H5 ⟨i,ks,v5,v6,v7,v8,v9,rfl,hi,s5,e5,hp,v,ev⟩
  have rt5:=rdL_keep s5 rT
  have hpl:=hp.len hL
  walk_at "go"
  rw [htl]
  refine ite2 (fun hg => ?_) (fun hg => ?_)
  · have hlt:i < T.length:=by have:=of_decide_eq_true hg; omega
    refine ⟨fun σ' H' => ∃ (i':Nat) (ks:List Nat) (v5 v6 v7 v8 v9:Option V),i < i' ∧ i' ≤ T.length ∧ σ' = [some (.ref rb),some (.ref rt),some (.ref td),some (.ref pn),some (.int (i':Int)),v5,v6,v7,v8,v9] ∧ Same H H' ∧ H' pn = some (.lst (ks.map fun k => V.int ((k:Nat):Int))) ∧ PathTo mss T TB i' ks ∧ ∃ v,TB.getD i' none = some v,fun σ' H' ⟨i',ks,v5,v6,v7,v8,v9,a1,a2,a3,a4⟩ => ⟨T.length - i',by omega,i',ks,v5,v6,v7,v8,v9,a3,by omega,a4⟩,?_⟩
    walk_at "go"
    refine ⟨by decide,fun pb hpb => ?_⟩
    have k6:=same_upd hpb (.lst [])
    have e6:PrsAt mss (upd H5 pb (.lst [])) pb []:=⟨[],upd_same,rfl,fun u p k hp => by cases hp⟩
    have e56:=k6 _ _ e5
    have hpbH:H pb = none:=none_of s5 hpb
    have npb:pb ≠ pn:=fun z => by rw [z,e5] at hpb; cases hpb
    have s6:=s5.trans k6
    generalize upd H5 pb (.lst []) = H6 at k6 e6 e56 s6 ⊢
    have rq6:=rdL_keep s6 rq
    walk_at "go"
    refine fj_enum (xs:=qs.map V.ref) (fun j σ H' => ∃ (v6 v7 v8 v9:Option V),σ = [some (.ref rb),some (.ref rt),some (.ref td),some (.ref pn),some (.int (i:Int)),some (.ref pb),v6,v7,v8,v9] ∧ Same H H' ∧ H' pn = some (.lst (ks.map fun k => V.int ((k:Nat):Int))) ∧ PrsAt mss H' pb (lessN mss T TB i v j))
      ⟨_,_,_,_,rfl,s6,e56,e6⟩ (fun j σ H' _ ⟨_,_,_,_,_,e,_⟩ => rdL_keep e rq) ?_ ?_
    · rintro j x σ H7 pe hx ⟨v6,v7,v8,v9,rfl,s7,e7,hps⟩ hpe
      rw [List.getElem?_map] at hx
      obtain ⟨p,ep,rfl⟩:=Option.map_eq_some_iff.mp hx
      have hjb:j < bk.length:=by rw [← b2]; exact (List.getElem?_eq_some_iff.mp ep).1
      have hjm:j < mss.length:=by rw [hms.1]; exact hjb
      obtain ⟨hmn,hm1,hm5,hmt⟩:=hms.2 j _ _ (List.getElem?_eq_getElem hjb) (List.getElem?_eq_getElem hjm)
      have hml:mss[j].length = mLen mss j:=by unfold mLen; rw [mLen_of (List.getElem?_eq_getElem hjm)]
      have k8:=same_upd hpe (.tup [V.int ((0 + j:Nat):Int),V.ref p])
      have s8:=s7.trans k8
      have e8:=k8 _ _ e7
      have hps8:=hps.keep k8
      have te8:(upd H7 pe (.tup [V.int ((0 + j:Nat):Int),V.ref p])) pe = some (.tup [V.int ((0 + j:Nat):Int),V.ref p]):=upd_same
      generalize upd H7 pe (.tup [V.int ((0 + j:Nat):Int),V.ref p]) = H8 at s8 e8 hps8 te8 ⊢
      have tt8:=tupL_of te8
      have tp8:=s8 _ _ (b3 j p _ ep (List.getElem?_eq_getElem hjb))
      rw [hmn] at tp8
      have hmb:=mean_lenN mss[j] hmt
      have hSt:Stands mss T i j ↔ (T.drop i).take (mLen mss j) = mss[j]:=by unfold Stands; rw [mLen_of (List.getElem?_eq_getElem hjm)]
      walk_at "go"
      refine s_ixT tp8 (v:=.str (meanC mss[j])) rfl ?_
      walk_at "go"
      refine s_split rfl (by omega) fun q9 hq9 => ?_
      rw [show Txt.split (meanC mss[j]) (Str.ofString " ") = mss[j].map strC from parts_mean hm1 hmt]
      have k9:=same_upd hq9 (.lst ((mss[j].map strC).map V.str))
      have s9:=s8.trans k9
      have r99:rdL (upd H8 q9 (.lst ((mss[j].map strC).map V.str))) q9 = some ((mss[j].map strC).map V.str):=rdL_same
      have e9:=k9 _ _ e8
      have hps9:=hps8.keep k9
      generalize upd H8 q9 (.lst ((mss[j].map strC).map V.str)) = H9 at s9 r99 e9 hps9 ⊢
      have hl9:((mss[j].map strC).map V.str).length = mLen mss j:=by rw [List.length_map,List.length_map,hml]
      have rT9:=rdL_keep s9 rT
      walk_at "go"
      rw [hl9]
      intro r7 hr7
      rw [cutV_mid (by rw [htl]; omega),← List.map_drop,← List.map_drop,← List.map_take,← List.map_take]
      have k7:=same_upd hr7 (.lst ((((T.drop i).take (mLen mss j)).map strC).map V.str))
      refine s_eqL rdL_same (rdL_keep k7 r99) (allFlat_str _) (allFlat_str _) ?_
      rw [if_neg Bool.false_ne_true,eqVs_strs]
      have s10:=s9.trans k7
      have e10:=k7 _ _ e9
      have r910:=rdL_keep k7 r99
      have hps10:=hps9.keep k7
      generalize upd H9 r7 (.lst ((((T.drop i).take (mLen mss j)).map strC).map V.str)) = H10 at s10 e10 hps10 r910 ⊢
      by_cases hS:(T.drop i).take (mLen mss j) = mss[j]
      · rw [decide_eq_true (congrArg (List.map strC) hS)]
        have hmem:j ∈ stand mss T i:=List.mem_filter.mpr ⟨List.mem_range.mpr hjm,decide_eq_true (hSt.mpr hS)⟩
        have hle:=stand_le (stand_ok hmem).2 (show i ≤ T.length by omega)
        have r10:=rdL_of (s10 _ _ etd)
        have abe:atI (TB.map tV) ((i:Int) + (mLen mss j:Int)) = some (tV (TB.getD (i + mLen mss j) none)):=by
          rw [show (i:Int) + (mLen mss j:Int) = ((i + mLen mss j:Nat):Int) by omega,tV_at (by omega)]
        have ast:atI (TB.map tV) (i:Int) = some (.int v):=by rw [tV_at (by omega),ev]; rfl
        walk_at "go"
        refine s_ixL r10 abe ?_
        walk_at "go"
        refine s_ixL r10 ast ?_
        walk_at "go"
        cases ob:TB.getD (i + mLen mss j) none with
        | none =>
          refine ⟨rfl,?_⟩
          rw [show decide (tV none = V.int (v - 1)) = false from decide_eq_false fun z => nomatch z]
          walk_at "go"
          refine ⟨_,_,_,_,rfl,s10,e10,?_⟩
          rw [less_no fun z => by rw [ob] at z; cases z.2]
          exact hps10
        | some m =>
          show mEq (V.int m) (V.int (v - 1)) _ _
          walk_at "go"
          refine ite2 (fun hg => ?_) (fun hg => ?_)
          · have hmv:m = v - 1:=of_decide_eq_true hg
            obtain ⟨ps,g1,g2,g3⟩:=id hps10
            walk_at "go"
            rw [hl9,show ((0 + j:Nat):Int) = (j:Int) by omega]
            refine ⟨by show 2 ≤ sizeLine; decide,fun pt hpt => ?_⟩
            have k11:=same_upd hpt (.tup [V.int (mLen mss j:Int),V.int (j:Int)])
            have t11:(upd H10 pt (.tup [V.int (mLen mss j:Int),V.int (j:Int)])) pt = some (.tup [V.int (mLen mss j:Int),V.int (j:Int)]):=upd_same
            have s11:=s10.trans k11
            have g11:=k11 _ _ g1
            have e11:=k11 _ _ e10
            have g31:∀ (u:Nat) p k,ps[u]? = some p → (lessN mss T TB i v j)[u]? = some k → (upd H10 pt (.tup [V.int (mLen mss j:Int),V.int (j:Int)])) p = some (.tup [.int (mLen mss k:Int),.int (k:Int)]):=fun u p k hp hk => k11 _ _ (g3 u p k hp hk)
            generalize upd H10 pt (.tup [V.int (mLen mss j:Int),V.int (j:Int)]) = H11 at s11 g11 e11 t11 g31 ⊢
            have mu:=mutL_of g11
            have hln:(ps.map V.ref).length ≤ 60:=by have:=less_len mss T TB i v j; rw [List.length_map,g2]; omega
            walk_at "go"
            refine ⟨_,_,_,_,rfl,same_put hpbH s11,by rw [upd_ne npb.symm]; exact e11,?_⟩
            rw [less_yes hmem (by rw [ob,hmv])]
            exact PrsAt.add g11 g2 g31 t11
          · have hmv:m ≠ v - 1:=fun z => hg (decide_eq_true z)
            walk_at "go"
            refine ⟨_,_,_,_,rfl,s10,e10,?_⟩
            rw [less_no fun z => by rw [ob] at z; exact hmv (by injection z.2)]
            exact hps10
      · rw [decide_eq_false (fun z => hS (map_strC_inj z))]
        walk_at "go"
        refine ⟨_,_,_,_,rfl,s10,e10,?_⟩
        rw [less_no fun z => hS (hSt.mp (stand_ok z.1).2)]
        exact hps10
    · rintro σ H7 ⟨v6,v7,v8,v9,rfl,s7,e7,hps⟩
      rw [hql,← hms.1] at hps
      have hpos:=less_some (ok.row i hlt) ev
      walk_at "go"
      refine prs_max hps hpos fun k hk hmx p ep => ?_
      have hb:=pr_best ev hk hmx
      obtain ⟨hkm,hS⟩:=stand_ok hb.st
      have hle:=stand_le hS (by omega)
      have hk1:=(mLen_pos hL hkm).1
      obtain ⟨n',en,en2⟩:=hb.one
      have m7:=mutL_of e7
      have hkl:(ks.map fun k => V.int ((k:Nat):Int)).length ≤ 40:=by rw [List.length_map]; omega
      walk_at "go"
      refine s_ixT ep (v:=.int (k:Int)) rfl ?_
      walk_at "go"
      have hps8:PrsAt mss (upd H7 pn (.lst ((ks.map fun k => V.int ((k:Nat):Int)) ++ [V.int (k:Int)]))) pb _:=hps.put e7 npb
      have s8:Same H (upd H7 pn (.lst ((ks.map fun k => V.int ((k:Nat):Int)) ++ [V.int (k:Int)]))):=same_put hpn s7
      have e8:(upd H7 pn (.lst ((ks.map fun k => V.int ((k:Nat):Int)) ++ [V.int (k:Int)]))) pn = some (.lst ((ks ++ [k]).map fun k => V.int ((k:Nat):Int))):=by rw [upd_same,List.map_append]; rfl
      generalize upd H7 pn (.lst ((ks.map fun k => V.int ((k:Nat):Int)) ++ [V.int (k:Int)])) = H8 at hps8 s8 e8 ⊢
      refine prs_max hps8 hpos fun k2 hk2 hmx2 p2 ep2 => ?_
      have eml:mLen mss k2 = mLen mss k:=by
        have h1:=hmx _ (List.mem_map.mpr ⟨k2,hk2,rfl⟩)
        have h2:=hmx2 _ (List.mem_map.mpr ⟨k,hk,rfl⟩)
        unfold ltPr prK at h1 h2
        simp only at h1 h2
        omega
      rw [eml] at ep2
      walk_at "go"
      refine s_ixT ep2 (v:=.int (mLen mss k:Int)) rfl ?_
      walk_at "go"
      exact ⟨i + mLen mss k,ks ++ [k],_,_,_,_,_,by omega,hle,by rfl,s8,e8,.snoc hlt hb hp,_,en2⟩
  · walk_at "go"
    obtain rfl:i = T.length:=by rw [decide_eq_true_iff] at hg; omega
    exact q pn ks H5 hpn s5 e5 (by have:=hp.path .nil; rw [List.append_nil] at this; exact this)
theorem iflat (L:List Nat):(L.map fun k => V.int ((k:Nat):Int)).all flatV = true:=by
  rw [List.all_eq_true]
  intro x hx
  obtain ⟨k,_,rfl⟩:=List.mem_map.mp hx
  rfl
theorem join_mean (T:List (List Nat)):Txt.join (Str.ofString " ") (T.map strC) = meanC T:=rfl
def OnAt (mss:List (List (List Nat))) (H:Hp) (rt td:Addr) (T:List (List Nat)) (TB:List (Option Int)) (i:Nat) (v:Int):Prop:=TsAt H rt T ∧ T.length ≤ 40 ∧ (∀ t ∈ T,TermC t) ∧ H td = some (.lst (TB.map tV)) ∧ TabOk mss T TB ∧ i < T.length ∧ TB.getD i none = some v
theorem sc_law:FnScope ["_law_script", "_law_book_here", "_law_terms_here", "_law_table_here", "_law_at", "_law_due_here", "_law_handed", "_law_found"] ["_law_script"] (defScope s_law):=⟨rfl,rfl,rfl,by decide +kernel,rfl,by decide +kernel,by decide +kernel⟩
theorem ok_law {aNoWord aTowerError:Addr} {Pt:Addr} {f:Addr} {fd:FuncData} (F:Fun K "law" "law" s_law f fd) (G:Gs K mg aNoWord aTowerError) (c_l_good_book:Cal P w K mg base 3 "_law_good_book" ["_law_script"] (sp_l_good_book K)) (c_l_rest:Cal P w K mg base 2 "_law_rest" ["_law_book_here", "_law_terms_here", "_law_script"] (sp_l_rest K)) (c_l_table:Cal P w K mg base 1 "_law_table" ["_law_book_here", "_law_terms_here"] sp_l_table) (c_l_due:Cal P w K mg base 1 "_law_due" ["_law_book_here", "_law_terms_here", "_law_due_here"] sp_l_due) (c_cut_text:Cal P w K mg base 4 "cut_text" ["book", "text"] (sp_cut_text Pt)) (c_l_terms:Cal P w K mg base 1 "_law_terms" ["_law_cell"] sp_l_terms) (c_text_said:CalX P w K mg base 3 "text_said" ["book", "words"] (sp_text_said aNoWord)) (c_l_mixed:Cal P w K mg base 1 "_law_mixed" ["_law_cell", "_law_k"] sp_l_mixed) (c_l_cell_at:Cal P w K mg base 1 "_law_cell_at" ["_law_script", "_law_k"] (sp_l_cell_at K)):FnOk P w K mg base CX0 5 f fd ["_law_script"] (sp_law K Pt):=by
  refine F.ok sc_law (fun vs H Q E h => ?_) (fun cdv A outer s H vs Q E hr h => ?_)
  · obtain ⟨a,ns,rfl,_⟩:=h; rfl
  obtain ⟨a,ns,rfl,hS,h63,hP,q⟩:=h
  refine ⟨_,(@pss_cons _ _ _ _ _ (@ps_set _ _ 1 _ _ _ _ sc_law.nd (by rfl) (by exact (Or.inr rfl)) (pe_cal c_l_good_book hr (by decide) rfl (pa_cons (mv 0) pa_nil)) (by rfl) (by first | exact Or.inl rfl | exact Or.inr rfl)) (@pss_cons _ _ _ _ _ (@ps_set _ _ 2 _ _ _ _ sc_law.nd (by rfl) (by exact (Or.inl rfl)) (pe_cal c_l_rest hr (by decide) rfl (pa_cons (mv 1) (pa_cons (pe_cal c_l_terms hr (by decide) rfl (pa_cons (pe_cal c_l_mixed hr (by decide) rfl (pa_cons (pe_cal c_l_cell_at hr (by decide) rfl (pa_cons (mv 0) (pa_cons pe_int pa_nil))) (pa_cons pe_int pa_nil))) pa_nil)) (pa_cons (mv 0) pa_nil)))) (by rfl) (by first | exact Or.inl rfl | exact Or.inr rfl)) (@pss_cons _ _ _ _ _ (@ps_set _ _ 3 _ _ _ _ sc_law.nd (by rfl) (by exact (Or.inl rfl)) (pe_cal c_l_table hr (by decide) rfl (pa_cons (mv 1) (pa_cons (mv 2) pa_nil))) (by rfl) (by first | exact Or.inl rfl | exact Or.inr rfl)) (@pss_cons _ _ _ _ _ (@ps_set _ _ 4 _ _ _ _ sc_law.nd (by rfl) (by exact (Or.inl rfl)) pe_int (by rfl) (by first | exact Or.inl rfl | exact Or.inr rfl)) (@pss_cons _ _ _ _ _ (ps_while PassesOwn.never (mt_cmp m_isN (pe_ix m_ix (mv 3) (mv 4) (fun _ _ => rfl)) pe_non (nomark _)) (@pss_one _ _ _ (@ps_set _ _ 4 _ _ _ _ sc_law.nd (by rfl) (by exact (Or.inl rfl)) (pe_op m_add (mv 4) pe_int) (by rfl) (by first | exact Or.inl rfl | exact Or.inr rfl)))) (@pss_cons _ _ _ _ _ (ps_if (mt_cmp m_eq (mv 4) (pe_callB m_len rfl G.b_len bt_len (pa_cons (mv 2) pa_nil)) (nomark _)) (@pss_cons _ _ _ _ _ (@ps_set _ _ 2 _ _ _ _ sc_law.nd (by rfl) (by exact (Or.inl rfl)) (me_meth PySem.F.plainAttrs_str PySem.F.slot_str_split PySem.F.type_str_split m_split (pe_ix m_ix (pe_ix m_ix (mv 1) pe_int (fun _ _ => rfl)) pe_int (fun _ _ => rfl)) (@pa_str _ _ _ _ _ _ pa_nil)) (by rfl) (by first | exact Or.inl rfl | exact Or.inr rfl)) (@pss_cons _ _ _ _ _ (@ps_set _ _ 3 _ _ _ _ sc_law.nd (by rfl) (by exact (Or.inl rfl)) (pe_cal c_l_table hr (by decide) rfl (pa_cons (mv 1) (pa_cons (mv 2) pa_nil))) (by rfl) (by first | exact Or.inl rfl | exact Or.inr rfl)) (@pss_one _ _ _ (@ps_set _ _ 4 _ _ _ _ sc_law.nd (by rfl) (by exact (Or.inl rfl)) pe_int (by rfl) (by first | exact Or.inl rfl | exact Or.inr rfl))))) pss_nil) (@pss_cons _ _ _ _ _ (@ps_set _ _ 2 _ _ _ _ sc_law.nd (by rfl) (by exact (Or.inl rfl)) (pe_slice m_sl (mv 2) (mo_some (mv 4)) po_none) (by rfl) (by first | exact Or.inl rfl | exact Or.inr rfl)) (@pss_cons _ _ _ _ _ (@ps_set _ _ 3 _ _ _ _ sc_law.nd (by rfl) (by exact (Or.inl rfl)) (pe_slice m_sl (mv 3) (mo_some (mv 4)) po_none) (by rfl) (by first | exact Or.inl rfl | exact Or.inr rfl)) (@pss_cons _ _ _ _ _ (@ps_set _ _ 5 _ _ _ _ sc_law.nd (by rfl) (by exact (Or.inl rfl)) (pe_cal c_l_due hr (by decide) rfl (pa_cons (mv 1) (pa_cons (mv 2) (pa_cons (mv 3) pa_nil)))) (by rfl) (by first | exact Or.inl rfl | exact Or.inr rfl)) (@pss_cons _ _ _ _ _ (@ps_set _ _ 6 _ _ _ _ sc_law.nd (by rfl) (by exact (Or.inl rfl)) (pe_callTy m_list rfl G.b_list bt_list (pa_cons (mv 1) pa_nil)) (by rfl) (by first | exact Or.inl rfl | exact Or.inr rfl)) (@pss_cons _ _ _ _ _ (@ps_set _ _ 7 _ _ _ _ sc_law.nd (by rfl) (by exact (Or.inl rfl)) (pe_cal c_cut_text hr (by decide) rfl (pa_cons (mv 6) (pa_cons (me_meth PySem.F.plainAttrs_str PySem.F.slot_str_join PySem.F.type_str_join m_join pe_str (pa_cons (mv 2) pa_nil)) pa_nil))) (by rfl) (by first | exact Or.inl rfl | exact Or.inr rfl)) (@pss_cons _ _ _ _ _ (ps_if (PW.pt (pw_or (pt_not (mt_truth (pe_callB m_isi rfl G.b_isinstance bt_isinstance (pa_cons (mv 7) (pa_cons (pe_bty rfl G.b_list bt_list) pa_nil))))) (pw_or (mt_cmp (m_neL hr.units0) (mv 7) (mv 5) (nomark _)) (pw_or (mt_cmp m_ne (pe_callB m_len rfl G.b_len bt_len (pa_cons (mv 7) pa_nil)) (pe_ix m_ix (mv 3) pe_int (fun _ _ => rfl)) (nomark _)) (pw_or1 (mt_cmp (m_neX hr.units) (mv 6) (mv 1) (nomark _))))))) (@pss_one _ _ _ (ps_ret pe_bl)) pss_nil) (@pss_cons _ _ _ _ _ (ps_if (mt_cmp (m_neL hr.units0) (pe_comp rfl (pj_list (mv 7)) (clOk0 (N:=["_law_number"]) (by decide +kernel) (by decide +kernel)) (by decide +kernel) rfl (by decide +kernel) (fun C s₀ H₀ ex => (pg_name (i:=0) (show List.Nodup (["_law_number"]:List Str) by decide +kernel) rfl (Or.inl rfl))) (fun C s₀ H₀ ex => (pf_one (PW.pt (pw_or (pt_not (mt_truth (pe_callB m_isi rfl G.b_isinstance bt_isinstance (pa_cons (mv 0) (pa_cons (pe_bty rfl G.b_int bt_int) pa_nil))))) (pw_or1 (mt_truth (pe_callB m_isi rfl G.b_isinstance bt_isinstance (pa_cons (mv 0) (pa_cons (pe_bty rfl G.b_bool bt_bool) pa_nil))))))))) (fun C s₀ H₀ ex => (mv 0))) (pe_lst pa_nil) (nomark _)) (@pss_one _ _ _ (ps_ret pe_bl)) pss_nil) (@pss_cons _ _ _ _ _ (ps_if (mt_cmp m_ne (pe_calX c_text_said pass_none hr (by decide) rfl (pa_cons (mv 1) (pa_cons (pe_comp rfl (pj_list (mv 7)) (clOkF (N:=["_law_number", "_law_book_here"]) ["_law_script", "_law_book_here", "_law_terms_here", "_law_table_here", "_law_at", "_law_due_here", "_law_handed", "_law_found"] (defScope s_law) [none,some 1] rfl rfl rfl (fun x h => cell_has h) (by decide +kernel)) (by decide +kernel) rfl (by decide +kernel) (fun C s₀ H₀ ex => (pg_name (i:=0) (show List.Nodup (["_law_number", "_law_book_here"]:List Str) by decide +kernel) rfl (Or.inl rfl))) (fun C s₀ H₀ ex => pf_nil) (fun C s₀ H₀ ex => (pe_ix m_ix (pe_ix m_ix (mv 1) (mv 0) (fun _ _ => rfl)) pe_int (fun _ _ => rfl)))) pa_nil))) (me_meth PySem.F.plainAttrs_str PySem.F.slot_str_join PySem.F.type_str_join m_join pe_str (pa_cons (mv 2) pa_nil)) (nomark _)) (@pss_one _ _ _ (ps_ret pe_bl)) pss_nil) (@pss_cons _ _ _ _ _ (ps_expr (me_meth PySem.F.plainAttrs_list PySem.F.slot_list_append PySem.F.type_list_append m_app (mv 7) (pa_cons pe_int pa_nil))) (@pss_one _ _ _ (ps_ret (pe_cmpR (m_eqL hr.units0) (pe_cal c_cut_text hr (by decide) rfl (pa_cons (mv 6) (pa_cons (me_meth PySem.F.plainAttrs_str PySem.F.slot_str_join PySem.F.type_str_join m_join pe_str (pa_cons (mv 2) pa_nil)) pa_nil))) (mv 5) (nomark _))))))))))))))))))),?_⟩
  have l0:LamH Pt H:=.inl hP
  walk_at "go"
  refine ⟨a,ns,rfl,hS,h63,fun rb bk H1 hrb s1 hbk hg hb1 => ?_⟩
  obtain ⟨mss,hms⟩:=means_of hg
  have h60:=hg.le
  have hL:=lens_of hms h60
  have nd:=means_nd hg.means hms
  have hS1:=s1.seq hS
  have l1:=l0.keep s1
  walk_at "go"
  refine ⟨a,ns,0,rfl,hS1,by omega,fun n0 => ?_⟩
  walk_at "go"
  refine ⟨n0,0,rfl,by omega,by omega,fun first hf => ?_⟩
  walk_at "go"
  refine ⟨first,rfl,hf,fun r2 ts H2 hr2 s2 e2 ht4 htT => ?_⟩
  walk_at "go"
  refine ⟨rb,r2,a,bk,ts,ns,rfl,hbk.keep s2,hg,hb1,e2,ht4,htT,s2.seq hS1,h63,fun rt T H3 hrt s3 eT hT1 hT40 hTT => ?_⟩
  have s13:=s2.trans s3
  have hb3:=hbk.keep s13
  have l3:=l1.keep s13
  clear hS hS1 hbk l0 l1 hP e2 s2 s3 s13 htT
  walk_at "go"
  refine ⟨rb,rt,bk,mss,T,rfl,hb3,h60,hms,eT,hT40,fun td TB H4 htd s4 e4 ok => ?_⟩
  have hb4:=hb3.keep s4
  have l4:=l3.keep s4
  have eT4:=s4 _ _ eT
  have hTl:((T.map strC).map V.str).length = T.length:=by rw [List.length_map,List.length_map]
  have sib:∀ n:Int,decide (tV (some n) = V.non) = false:=fun n => decide_eq_false fun z => nomatch z
  walk_at "go"
  refine ⟨fun m σ H' => ∃ (i:Nat),σ = [some (.ref a),some (.ref rb),some (.ref rt),some (.ref td),some (.int (i:Int)),none,none,none] ∧ m + i = T.length ∧ H' = H4,⟨T.length,0,rfl,by omega,rfl⟩,?_⟩
  rintro m0 σ H5 ⟨i,rfl,hi,rfl⟩
  walk_at "go"
  refine s_ixL (rdL_of e4) (tV_at (by rw [ok.len]; omega)) ?_
  cases ob:TB.getD i none with
  | none =>
    walk_at "go"
    rw [show decide (tV none = V.non) = true from decide_eq_true rfl]
    have hlt:i < T.length:=by
      rcases Nat.lt_or_ge i T.length with z | z
      · exact z
      · rw [show i = T.length by omega,ok.last] at ob
        cases ob
    walk_at "go"
    refine ⟨fun σ' H' => σ' = [some (.ref a),some (.ref rb),some (.ref rt),some (.ref td),some (.int ((i + 1:Nat):Int)),none,none,none] ∧ H' = H5,fun σ' H' ⟨a1,a2⟩ => ⟨T.length - (i + 1),by omega,i + 1,a1,by omega,a2⟩,?_⟩
    walk_at "go"
    exact ⟨rfl,rfl⟩
  | some v =>
    walk_at "go"
    rw [sib]
    walk_at "gs"
    have hbe:1 ≤ bk.length:=hb1
    with_reducible refine s_seqJ (fun σ' H' => ∃ (rt' td':Addr) (T':List (List Nat)) (TB':List (Option Int)) (i':Nat) (v':Int),σ' = [some (.ref a),some (.ref rb),some (.ref rt'),some (.ref td'),some (.int (i':Int)),none,none,none] ∧ Same H5 H' ∧ OnAt mss H' rt' td' T' TB' i' v') (fun σ' H6 j6 => ?_) (fun M hM => ?_)
    · obtain ⟨rt',td',T',TB',i',v',rfl,s6,eT6,h40',hTT',e6,ok',hi',ev'⟩:=j6
      have hb6:=hb4.keep s6
      have l6:=l4.keep s6
      clear hi ob e4 ok eT4 hTl hTT hT40 hT1 eT hb3 l3 hrt
      have hrt6:=rdL_of eT6
      walk_at "go"
      intro r7 hr7
      rw [cutV_drop (by omega),show ((i':Nat):Int).toNat = i' from rfl,← List.map_drop,← List.map_drop]
      have k7:=same_upd hr7 (.lst (((T'.drop i').map strC).map V.str))
      have eT7:TsAt (upd H6 r7 (.lst (((T'.drop i').map strC).map V.str))) r7 (T'.drop i'):=upd_same
      have e67:=k7 _ _ e6
      have hb7:=hb6.keep k7
      have l7:=l6.keep k7
      generalize upd H6 r7 (.lst (((T'.drop i').map strC).map V.str)) = H7 at k7 eT7 e67 hb7 l7 ⊢
      have re67:=rdL_of e67
      walk_at "go"
      intro r8 hr8
      rw [cutV_drop (by omega),show ((i':Nat):Int).toNat = i' from rfl,← List.map_drop]
      have k8:=same_upd hr8 (.lst ((TB'.drop i').map tV))
      have e8:(upd H7 r8 (.lst ((TB'.drop i').map tV))) r8 = some (.lst ((TB'.drop i').map tV)):=upd_same
      have eT8:=k8 _ _ eT7
      have hb8:=hb7.keep k8
      have l8:=l7.keep k8
      generalize upd H7 r8 (.lst ((TB'.drop i').map tV)) = H8 at k8 e8 eT8 hb8 l8 ⊢
      have ok8:=tab_drop ok' (Nat.le_of_lt hi')
      have ev8:(TB'.drop i').getD 0 none = some v':=by rw [getD_drop]; exact ev'
      have hl1:1 ≤ (T'.drop i').length:=by rw [List.length_drop]; omega
      have hl40:(T'.drop i').length ≤ 40:=by rw [List.length_drop]; omega
      have hTT8:∀ t ∈ T'.drop i',TermC t:=fun t ht => hTT' t (List.mem_of_mem_drop ht)
      generalize T'.drop i' = U at eT8 ok8 hl1 hl40 hTT8 ⊢
      generalize TB'.drop i' = UB at e8 ok8 ev8 ⊢
      clear hi' ev' ok' e6 eT6 hTT' h40' k7 k8 hb6 hb7 l6 l7 e67 re67 eT7 hrt6
      walk_at "go"
      refine ⟨rb,r7,r8,bk,mss,U,UB,v',rfl,hb8,h60,hms,eT8,hl40,e8,ok8,ev8,fun rd ks H9 hrd s9 e9 hp => ?_⟩
      have hb9:=hb8.keep s9
      have l9:=l8.keep s9
      have eT9:=s9 _ _ eT8
      have e89:=s9 _ _ e8
      obtain ⟨qs,b1,b2,b3⟩:=id hb9
      have rq9:=rdL_of b1
      have hql:(qs.map V.ref).length ≤ 60:=by rw [List.length_map,b2]; exact h60
      walk_at "go"
      intro rh hrh
      have k10:=same_upd hrh (.lst (qs.map V.ref))
      have hh10:BkAt (upd H9 rh (.lst (qs.map V.ref))) rh bk:=⟨qs,upd_same,b2,fun j p b hp hb => k10 _ _ (b3 j p b hp hb)⟩
      have erh:(upd H9 rh (.lst (qs.map V.ref))) rh = some (.lst (qs.map V.ref)):=upd_same
      have hb10:=hb9.keep k10
      have l10:=l9.keep k10
      have eT10:=k10 _ _ eT9
      have e10:=k10 _ _ e89
      have ed10:=k10 _ _ e9
      have eb10:=k10 _ _ b1
      generalize upd H9 rh (.lst (qs.map V.ref)) = H10 at k10 hh10 erh hb10 l10 eT10 e10 ed10 eb10 ⊢
      clear k10 hb9 l9 eT9 e89 e9 b1 b3 rq9 hb8 l8 eT8 e8 s9
      have hUm:=mean_lenN U hTT8
      have hUs:=sum_terms U hTT8
      obtain ⟨n,_,hcov⟩:=(tab_cov hL ok8 U.length 0 (by omega)).2 _ ev8
      walk_at "go"
      refine s_join (ss:=U.map strC) (rdL_of eT10) (by rw [List.length_map,show (Str.ofString " ").length = 1 from rfl]; omega) ?_
      rw [join_mean]
      walk_at "go"
      refine ⟨rh,bk,mss,U,n,rfl,hh10,h60,hms,hl1,hl40,hTT8,hcov,l10,fun rf TC js H11 hrf s11 l11 e11 ok11 hp11 => ?_⟩
      obtain rfl:=tab_uniq hL ok11 ok8
      obtain rfl:=path_uniq nd hp11 hp
      have hpl:=path_len ok11 hp
      have ed11:=atP s11 l10 ed10 fun _ => nofun
      have e8_11:=atP s11 l10 e10 fun _ => nofun
      have eb11:=atP s11 l10 eb10 fun _ => nofun
      have erh11:=atP s11 l10 erh fun _ => nofun
      have hb11:=bkP hb10 s11 l10
      obtain ⟨ef,hjs⟩:=path_flat hp
      rw [List.drop_zero] at ef
      have hjb:∀ k ∈ js,k < bk.length:=fun k hk => by rw [← hms.1]; exact hjs k hk
      have hj1:1 ≤ js.length:=by
        cases js with
        | nil => rw [ef] at hl1; exact absurd hl1 (by show ¬ 1 ≤ 0; decide)
        | cons _ _ => rw [List.length_cons]; omega
      have hj40:js.length ≤ 1000:=by have:=ok11.small _ _ hpl; omega
      walk_at "go"
      refine s_eqL (neg:=true) (rdL_of e11) (rdL_of ed11) (iflat js) (iflat js) ?_
      rw [if_pos rfl,eqVs_self _ (iflat js)]
      have re11:=rdL_of e11
      walk_at "go"
      refine s_ixL (rdL_of e8_11) (v:=.int (js.length:Int)) (by rw [show (0:Int) = ((0:Nat):Int) from rfl,tV_at (by rw [ok11.len]; omega),hpl]; rfl) ?_
      walk_at "go"
      rw [show (!decide ((((js.map fun k => V.int ((k:Nat):Int)).length:Nat):Int) = ((js.length:Nat):Int))) = false by rw [List.length_map,decide_eq_true rfl]; rfl]
      walk_at "go"
      refine s_alx 0 (rdL_of erh11) (rdL_of eb11) rfl (fun j x y hx hy => ?_) ?_
      · rw [hx] at hy
        cases hy
        rw [List.getElem?_map] at hx
        obtain ⟨p,_,rfl⟩:=Option.map_eq_some_iff.mp hx
        exact Alx.same (.inr ⟨p,rfl⟩)
      walk_at "go"
      refine cw_listS (xs:=(js.map fun k => V.int ((k:Nat):Int))) (fun _ => none) re11 (by rw [List.length_map]; exact lt_line (by omega)) (fun i' x Hc A B hx sm hA => ?_) (fun D H12 hD s12 e12 => ?_)
      · rw [List.getElem?_map] at hx
        obtain ⟨k,ek,rfl⟩:=Option.map_eq_some_iff.mp hx
        have r:B Hc:=hA _ (Same.refl _)
        walk_at "go"
        refine ⟨Wk.set rfl (Wk.refl _),?_⟩
        walk_at "go"
        exact r
      rw [show (js.map fun k => V.int ((k:Nat):Int)).filterMap (fun _ => (none:Option V)) = [] from List.filterMap_eq_nil_iff.mpr fun _ _ => rfl] at e12
      walk_at "go"
      refine ⟨by decide,fun p13 hp13 => ?_⟩
      have s13:=same_upd hp13 (.lst [])
      refine s_eqL (neg:=true) (rdL_keep s13 (rdL_of e12)) rdL_same rfl rfl ?_
      have s113:=s12.trans s13
      generalize upd H12 p13 (.lst []) = H13 at s13 s113 ⊢
      have hb13:=hb11.keep s113
      have l13:=l11.keep s113
      have e13:=s113 _ _ e11
      have s10_13:=s11.trans (Same.p s113)
      have eT13:=atP s10_13 l10 eT10 fun _ => nofun
      obtain ⟨qs4,c1,c2,c3⟩:=id hb13
      have rq4:=rdL_of c1
      have rr4:=rdL_of e13
      rw [show (if true = true then !eqVs ([]:List V) [] else eqVs [] []) = false from rfl]
      walk_at "go"
      refine cw_listS (xs:=(js.map fun k => V.int ((k:Nat):Int))) (rowF bk) rr4 (by rw [List.length_map]; exact lt_line (by omega)) (fun i' x Hc A B hx sm hA => ?_) (fun D14 H14 hD14 s14 e14 => ?_)
      · rw [List.getElem?_map] at hx
        obtain ⟨k,ek,rfl⟩:=Option.map_eq_some_iff.mp hx
        have hk:=hjb k (List.mem_of_getElem? ek)
        have hqk:qs4[k]? = some (qs4[k]'(by omega)):=List.getElem?_eq_getElem _
        have hbk':bk[k]? = some bk[k]:=List.getElem?_eq_getElem hk
        have htp:=sm _ _ (c3 k _ _ hqk hbk')
        have rqc:=rdL_keep sm rq4
        have hwk:(bk.getD k (Str.empty,Str.empty)).1 = bk[k].1:=by rw [List.getD_eq_getElem?_getD,hbk']; rfl
        have r:A (V.str (bk.getD k (Str.empty,Str.empty)).1) Hc:=hA _ (Same.refl _)
        walk_at "go"
        refine ⟨Wk.set rfl (Wk.refl _),?_⟩
        walk_at "go"
        refine s_ixL rqc (v:=.ref (qs4[k]'(by omega))) (atI_nat (by rw [List.getElem?_map,hqk]; rfl)) ?_
        refine s_ixT htp (v:=.str bk[k].1) rfl ?_
        rw [hwk] at r
        exact r
      rw [rows_fm] at e14
      have hb14:=hb13.keep s14
      have l14:=l13.keep s14
      have eT14:=s14 _ _ eT13
      have rd14:=rdL_of e14
      have e11_14:=s14 _ _ e13
      have s10_14:=s10_13.trans (Same.p s14)
      walk_at "go"
      refine said_go hg hms hb14 rd14 hj1 hj40 hjb fun H15 s15 => ?_
      have eT15:=s15 _ _ eT14
      have l15:=l14.keep s15
      have e15:=s15 _ _ e11_14
      have s10_15:=s10_14.trans (Same.p s15)
      walk_at "go"
      refine s_join (ss:=U.map strC) (rdL_of eT15) (by rw [List.length_map,show (Str.ofString " ").length = 1 from rfl]; omega) ?_
      rw [join_mean,← ef]
      walk_at "go"
      rw [show (!decide (meanC U = meanC U)) = false by rw [decide_eq_true rfl]; rfl]
      have m15:=mutL_of e15
      have hjl:(js.map fun k => V.int ((k:Nat):Int)).length ≤ 1000:=by rw [List.length_map]; exact hj40
      walk_at "go"
      have s16:SameP Pt H10 (upd H15 rf (.lst ((js.map fun k => V.int ((k:Nat):Int)) ++ [V.int 0]))):=putP hrf s10_15
      have l16:LamH Pt (upd H15 rf (.lst ((js.map fun k => V.int ((k:Nat):Int)) ++ [V.int 0]))):=lam_put l15 e15
      generalize upd H15 rf (.lst ((js.map fun k => V.int ((k:Nat):Int)) ++ [V.int 0])) = H16 at s16 l16 ⊢
      have hh16:=bkP hh10 s16 l10
      have eT16:=atP s16 l10 eT10 fun _ => nofun
      have ed16:=atP s16 l10 ed10 fun _ => nofun
      walk_at "go"
      refine s_join (ss:=U.map strC) (rdL_of eT16) (by rw [List.length_map,show (Str.ofString " ").length = 1 from rfl]; omega) ?_
      rw [join_mean]
      walk_at "go"
      refine ⟨rh,bk,mss,U,n,rfl,hh16,h60,hms,hl1,hl40,hTT8,hcov,l16,fun rg TD gs H17 hrg s17 l17 e17 ok17 hp17 => ?_⟩
      obtain rfl:=tab_uniq hL ok17 ok11
      obtain rfl:=path_uniq nd hp17 hp
      have ed17:=atP s17 l16 ed16 fun _ => nofun
      walk_at "go"
      refine s_eqL (neg:=false) (rdL_of e17) (rdL_of ed17) (iflat gs) (iflat gs) ?_
      rw [if_neg Bool.false_ne_true,eqVs_self _ (iflat gs)]
      exact q _
    · walk_at "go"
      rw [hTl]
      refine ite2 (fun hgt => ?_) (fun hgt => ?_)
      · obtain ⟨qs,b1,b2,b3⟩:=id hb4
        have hq:qs[0]? = some (qs[0]'(by omega)):=List.getElem?_eq_getElem _
        have hb0:bk[0]? = some bk[0]:=List.getElem?_eq_getElem hbe
        have tp:=b3 0 _ _ hq hb0
        have hm0:0 < mss.length:=by rw [hms.1]; exact hbe
        obtain ⟨us,hu0⟩:∃ us,mss[0]? = some us:=⟨_,List.getElem?_eq_getElem hm0⟩
        obtain ⟨eu,u1,u5,uT⟩:=hms.2 0 _ us hb0 hu0
        rw [eu] at tp
        have hul:=mean_lenN us uT
        walk_at "go"
        refine s_ixL (rdL_of b1) (v:=.ref (qs[0]'(by omega))) (by rw [show (0:Int) = ((0:Nat):Int) from rfl]; exact atI_nat (by rw [List.getElem?_map,hq]; rfl)) ?_
        walk_at "go"
        refine s_ixT tp (v:=.str (meanC us)) rfl ?_
        walk_at "go"
        refine s_split rfl (by omega) fun r6 hr6 => ?_
        rw [show Txt.split (meanC us) (Str.ofString " ") = us.map strC from parts_mean u1 uT]
        have k6:=same_upd hr6 (.lst ((us.map strC).map V.str))
        have eU6:TsAt (upd H5 r6 (.lst ((us.map strC).map V.str))) r6 us:=upd_same
        generalize upd H5 r6 (.lst ((us.map strC).map V.str)) = H6 at k6 eU6 ⊢
        walk_at "go"
        refine ⟨rb,r6,bk,mss,us,rfl,hb4.keep k6,h60,hms,eU6,by omega,fun td7 TB7 H7 htd7 s7 e7 ok7 => ?_⟩
        have hcov:=cov_flat (mss:=mss) (T:=us) hL (js:=[0]) (i:=0) (Nat.zero_le _) (fun j hj => by rw [List.mem_singleton.mp hj]; exact hm0) (by rw [List.drop_zero,flatM_cons,mLen_of hu0]; exact (List.append_nil _).symm)
        obtain ⟨m,hm,em⟩:=(tab_cov hL ok7 us.length 0 (by omega)).1 _ hcov
        walk_at "go"
        exact hM _ _ ⟨r6,td7,us,TB7,0,m,rfl,k6.trans s7,s7 _ _ eU6,by omega,uT,e7,ok7,by omega,em⟩
      · have hne:i ≠ T.length:=fun z => hgt (decide_eq_true (by rw [z]))
        walk_at "go"
        exact hM _ _ ⟨rt,td,T,TB,i,v,rfl,Same.refl _,eT4,hT40,hTT,e4,ok,by omega,ob⟩
end
local macro_rules | `(tactic| walk_at "bd") => `(tactic| (intro a1 a2 a3 a4 a5 a6 us hl; iterate 7 (all_goals try (rcases us with _ | ⟨u,us⟩; (· first | rfl | (simp at hl)))); all_goals (simp at hl)))
theorem all_mk {l:PySem.W.OpenLaw} {w:World} {K:PySem.W.Frag} {h:Heap} {mg:Str → Option Value} {fa:Addr} {od_0 an_0 od_1 an_1 od_2 an_2 od_3 an_3 od_4 an_4 od_5 an_5 od_6 an_6 od_7 an_7 od_8 an_8 od_9 an_9 od_10 an_10 od_11 an_11 od_12 an_12 od_13 an_13 od_14 an_14 od_15 an_15 od_16 an_16 od_17 an_17 od_18 an_18 od_19 an_19:Option Addr} {sl_0 sl_1 sl_2 sl_3 sl_4 sl_5 sl_6 sl_7 sl_8 sl_9 sl_10 sl_11 sl_12 sl_13 sl_14 sl_15 sl_16 sl_17 sl_18 sl_19:Array (Option Value)} {f_0 f_1 f_2 f_3 f_4 f_5 f_6 f_7 f_8 f_9 f_10 f_11 f_12 f_13 f_14 f_15 f_16 f_17 f_18 f_19:Addr} {oc_0 kV_0 dc_0 pm_0 cd_0 ct_0 oc_1 kV_1 dc_1 pm_1 cd_1 ct_1 oc_2 kV_2 dc_2 pm_2 cd_2 ct_2 oc_3 kV_3 dc_3 pm_3 cd_3 ct_3 oc_4 kV_4 dc_4 pm_4 cd_4 ct_4 oc_5 kV_5 dc_5 pm_5 cd_5 ct_5 oc_6 kV_6 dc_6 pm_6 cd_6 ct_6 oc_7 kV_7 dc_7 pm_7 cd_7 ct_7 oc_8 kV_8 dc_8 pm_8 cd_8 ct_8 oc_9 kV_9 dc_9 pm_9 cd_9 ct_9 oc_10 kV_10 dc_10 pm_10 cd_10 ct_10 oc_11 kV_11 dc_11 pm_11 cd_11 ct_11 oc_12 kV_12 dc_12 pm_12 cd_12 ct_12 oc_13 kV_13 dc_13 pm_13 cd_13 ct_13 oc_14 kV_14 dc_14 pm_14 cd_14 ct_14 oc_15 kV_15 dc_15 pm_15 cd_15 ct_15 oc_16 kV_16 dc_16 pm_16 cd_16 ct_16 oc_17 kV_17 dc_17 pm_17 cd_17 ct_17 oc_18 kV_18 dc_18 pm_18 cd_18 ct_18 oc_19 kV_19 dc_19 pm_19 cd_19 ct_19:Value} {t_LONGEST_TERM:Tok} {t_TERM_LETTERS:Tok} {t_MOST_TERMS:Tok} {aNoWord:Addr} {aTowerError:Addr} {c Pt:Addr} (X:K.In h) (Gn:h.Ns mainGlobals mg) (hfa:mg "law" = some (.ref fa)) (TH:TabHd h mg "longest_on" c)
    (a_0:PySem.W.nsIn K mainGlobals "_law_mixed" = some (some (.ref f_0))) (l_0:K.lookup f_0 = some ⟨oc_0,od_0,.func (PySem.W.fnOf "_law_mixed" "_law_mixed" (defArgs s_l_mixed) (defBody s_l_mixed) (defScope s_l_mixed) .none kV_0 dc_0 pm_0 an_0 cd_0 ct_0),sl_0⟩) (c_0:PySem.W.codeIn K cd_0 "_law_mixed" = true) (k_0:PySem.W.keepIn K (.ref f_0) = true)
    (a_1:PySem.W.nsIn K mainGlobals "_law_terms" = some (some (.ref f_1))) (l_1:K.lookup f_1 = some ⟨oc_1,od_1,.func (PySem.W.fnOf "_law_terms" "_law_terms" (defArgs s_l_terms) (defBody s_l_terms) (defScope s_l_terms) .none kV_1 dc_1 pm_1 an_1 cd_1 ct_1),sl_1⟩) (c_1:PySem.W.codeIn K cd_1 "_law_terms" = true) (k_1:PySem.W.keepIn K (.ref f_1) = true)
    (a_2:PySem.W.nsIn K mainGlobals "_law_word" = some (some (.ref f_2))) (l_2:K.lookup f_2 = some ⟨oc_2,od_2,.func (PySem.W.fnOf "_law_word" "_law_word" (defArgs s_l_word) (defBody s_l_word) (defScope s_l_word) .none kV_2 dc_2 pm_2 an_2 cd_2 ct_2),sl_2⟩) (c_2:PySem.W.codeIn K cd_2 "_law_word" = true) (k_2:PySem.W.keepIn K (.ref f_2) = true)
    (a_3:PySem.W.nsIn K mainGlobals "_law_book" = some (some (.ref f_3))) (l_3:K.lookup f_3 = some ⟨oc_3,od_3,.func (PySem.W.fnOf "_law_book" "_law_book" (defArgs s_l_book) (defBody s_l_book) (defScope s_l_book) .none kV_3 dc_3 pm_3 an_3 cd_3 ct_3),sl_3⟩) (c_3:PySem.W.codeIn K cd_3 "_law_book" = true) (k_3:PySem.W.keepIn K (.ref f_3) = true)
    (a_4:PySem.W.nsIn K mainGlobals "_law_cell_at" = some (some (.ref f_4))) (l_4:K.lookup f_4 = some ⟨oc_4,od_4,.func (PySem.W.fnOf "_law_cell_at" "_law_cell_at" (defArgs s_l_cell_at) (defBody s_l_cell_at) (defScope s_l_cell_at) .none kV_4 dc_4 pm_4 an_4 cd_4 ct_4),sl_4⟩) (c_4:PySem.W.codeIn K cd_4 "_law_cell_at" = true) (k_4:PySem.W.keepIn K (.ref f_4) = true)
    (a_5:PySem.W.nsIn K mainGlobals "_law_good_book" = some (some (.ref f_5))) (l_5:K.lookup f_5 = some ⟨oc_5,od_5,.func (PySem.W.fnOf "_law_good_book" "_law_good_book" (defArgs s_l_good_book) (defBody s_l_good_book) (defScope s_l_good_book) .none kV_5 dc_5 pm_5 an_5 cd_5 ct_5),sl_5⟩) (c_5:PySem.W.codeIn K cd_5 "_law_good_book" = true) (k_5:PySem.W.keepIn K (.ref f_5) = true)
    (a_6:PySem.W.nsIn K mainGlobals "_law_rest" = some (some (.ref f_6))) (l_6:K.lookup f_6 = some ⟨oc_6,od_6,.func (PySem.W.fnOf "_law_rest" "_law_rest" (defArgs s_l_rest) (defBody s_l_rest) (defScope s_l_rest) .none kV_6 dc_6 pm_6 an_6 cd_6 ct_6),sl_6⟩) (c_6:PySem.W.codeIn K cd_6 "_law_rest" = true) (k_6:PySem.W.keepIn K (.ref f_6) = true)
    (a_7:PySem.W.nsIn K mainGlobals "_law_table" = some (some (.ref f_7))) (l_7:K.lookup f_7 = some ⟨oc_7,od_7,.func (PySem.W.fnOf "_law_table" "_law_table" (defArgs s_l_table) (defBody s_l_table) (defScope s_l_table) .none kV_7 dc_7 pm_7 an_7 cd_7 ct_7),sl_7⟩) (c_7:PySem.W.codeIn K cd_7 "_law_table" = true) (k_7:PySem.W.keepIn K (.ref f_7) = true)
    (a_8:PySem.W.nsIn K mainGlobals "_law_due" = some (some (.ref f_8))) (l_8:K.lookup f_8 = some ⟨oc_8,od_8,.func (PySem.W.fnOf "_law_due" "_law_due" (defArgs s_l_due) (defBody s_l_due) (defScope s_l_due) .none kV_8 dc_8 pm_8 an_8 cd_8 ct_8),sl_8⟩) (c_8:PySem.W.codeIn K cd_8 "_law_due" = true) (k_8:PySem.W.keepIn K (.ref f_8) = true)
    (a_9:PySem.W.nsIn K mainGlobals "is_term" = some (some (.ref f_9))) (l_9:K.lookup f_9 = some ⟨oc_9,od_9,.func (PySem.W.fnOf "is_term" "is_term" (defArgs s_is_term) (defBody s_is_term) (defScope s_is_term) .none kV_9 dc_9 pm_9 an_9 cd_9 ct_9),sl_9⟩) (c_9:PySem.W.codeIn K cd_9 "is_term" = true) (k_9:PySem.W.keepIn K (.ref f_9) = true)
    (a_10:PySem.W.nsIn K mainGlobals "is_row_of_terms" = some (some (.ref f_10))) (l_10:K.lookup f_10 = some ⟨oc_10,od_10,.func (PySem.W.fnOf "is_row_of_terms" "is_row_of_terms" (defArgs s_is_row_of_terms) (defBody s_is_row_of_terms) (defScope s_is_row_of_terms) .none kV_10 dc_10 pm_10 an_10 cd_10 ct_10),sl_10⟩) (c_10:PySem.W.codeIn K cd_10 "is_row_of_terms" = true) (k_10:PySem.W.keepIn K (.ref f_10) = true)
    (a_11:PySem.W.nsIn K mainGlobals "terms_of" = some (some (.ref f_11))) (l_11:K.lookup f_11 = some ⟨oc_11,od_11,.func (PySem.W.fnOf "terms_of" "terms_of" (defArgs s_terms_of) (defBody s_terms_of) (defScope s_terms_of) .none kV_11 dc_11 pm_11 an_11 cd_11 ct_11),sl_11⟩) (c_11:PySem.W.codeIn K cd_11 "terms_of" = true) (k_11:PySem.W.keepIn K (.ref f_11) = true)
    (a_12:PySem.W.nsIn K mainGlobals "meanings_of" = some (some (.ref f_12))) (l_12:K.lookup f_12 = some ⟨oc_12,od_12,.func (PySem.W.fnOf "meanings_of" "meanings_of" (defArgs s_meanings_of) (defBody s_meanings_of) (defScope s_meanings_of) .none kV_12 dc_12 pm_12 an_12 cd_12 ct_12),sl_12⟩) (c_12:PySem.W.codeIn K cd_12 "meanings_of" = true) (k_12:PySem.W.keepIn K (.ref f_12) = true)
    (a_13:PySem.W.nsIn K mainGlobals "standing_at" = some (some (.ref f_13))) (l_13:K.lookup f_13 = some ⟨oc_13,od_13,.func (PySem.W.fnOf "standing_at" "standing_at" (defArgs s_standing_at) (defBody s_standing_at) (defScope s_standing_at) .none kV_13 dc_13 pm_13 an_13 cd_13 ct_13),sl_13⟩) (c_13:PySem.W.codeIn K cd_13 "standing_at" = true) (k_13:PySem.W.keepIn K (.ref f_13) = true)
    (a_14:PySem.W.nsIn K mainGlobals "least_numbers" = some (some (.ref f_14))) (l_14:K.lookup f_14 = some ⟨oc_14,od_14,.func (PySem.W.fnOf "least_numbers" "least_numbers" (defArgs s_least_numbers) (defBody s_least_numbers) (defScope s_least_numbers) .none kV_14 dc_14 pm_14 an_14 cd_14 ct_14),sl_14⟩) (c_14:PySem.W.codeIn K cd_14 "least_numbers" = true) (k_14:PySem.W.keepIn K (.ref f_14) = true)
    (a_15:PySem.W.nsIn K mainGlobals "longest_on" = some (some (.ref f_15))) (l_15:K.lookup f_15 = some ⟨oc_15,od_15,.func (PySem.W.fnOf "longest_on" "longest_on" (defArgs s_longest_on) (defBody s_longest_on) (defScope s_longest_on) .none kV_15 dc_15 pm_15 an_15 cd_15 ct_15),sl_15⟩) (c_15:PySem.W.codeIn K cd_15 "longest_on" = true) (k_15:PySem.W.keepIn K (.ref f_15) = true)
    (a_16:PySem.W.nsIn K mainGlobals "cut_text" = some (some (.ref f_16))) (l_16:K.lookup f_16 = some ⟨oc_16,od_16,.func (PySem.W.fnOf "cut_text" "cut_text" (defArgs s_cut_text) (defBody s_cut_text) (defScope s_cut_text) .none kV_16 dc_16 pm_16 an_16 cd_16 ct_16),sl_16⟩) (c_16:PySem.W.codeIn K cd_16 "cut_text" = true) (k_16:PySem.W.keepIn K (.ref f_16) = true)
    (y_17:PySem.W.typeIn K (.ref f_17) = some (.type "function"))
    (a_17:PySem.W.findIn K (.ref aNoWord) "__init__" = some (some (.ref f_17))) (l_17:K.lookup f_17 = some ⟨oc_17,od_17,.func (PySem.W.fnOf "__init__" "NoWord.__init__" (defArgs s_NoWord_init) (defBody s_NoWord_init) (defScope s_NoWord_init) .none kV_17 dc_17 pm_17 an_17 cd_17 ct_17),sl_17⟩) (c_17:PySem.W.codeIn K cd_17 "NoWord.__init__" = true) (k_17:PySem.W.keepIn K (.ref f_17) = true)
    (a_18:PySem.W.nsIn K mainGlobals "text_said" = some (some (.ref f_18))) (l_18:K.lookup f_18 = some ⟨oc_18,od_18,.func (PySem.W.fnOf "text_said" "text_said" (defArgs s_text_said) (defBody s_text_said) (defScope s_text_said) .none kV_18 dc_18 pm_18 an_18 cd_18 ct_18),sl_18⟩) (c_18:PySem.W.codeIn K cd_18 "text_said" = true) (k_18:PySem.W.keepIn K (.ref f_18) = true)
    (a_19:PySem.W.nsIn K mainGlobals "law" = some (some (.ref f_19))) (l_19:K.lookup f_19 = some ⟨oc_19,od_19,.func (PySem.W.fnOf "law" "law" (defArgs s_law) (defBody s_law) (defScope s_law) .none kV_19 dc_19 pm_19 an_19 cd_19 ct_19),sl_19⟩) (c_19:PySem.W.codeIn K cd_19 "law" = true) (k_19:PySem.W.keepIn K (.ref f_19) = true)
    (z_range:PySem.W.nsIn K mainGlobals "range" = some none)
    (z_len:PySem.W.nsIn K mainGlobals "len" = some none)
    (z_enumerate:PySem.W.nsIn K mainGlobals "enumerate" = some none)
    (z_reversed:PySem.W.nsIn K mainGlobals "reversed" = some none)
    (z_max:PySem.W.nsIn K mainGlobals "max" = some none)
    (z_all:PySem.W.nsIn K mainGlobals "all" = some none)
    (z_min:PySem.W.nsIn K mainGlobals "min" = some none)
    (z_dict:PySem.W.nsIn K mainGlobals "dict" = some none)
    (z_list:PySem.W.nsIn K mainGlobals "list" = some none)
    (z_isinstance:PySem.W.nsIn K mainGlobals "isinstance" = some none)
    (z_bool:PySem.W.nsIn K mainGlobals "bool" = some none)
    (z_int:PySem.W.nsIn K mainGlobals "int" = some none)
    (g_LONGEST_TERM:PySem.W.nsIn K mainGlobals "LONGEST_TERM" = some (some (.int 10 t_LONGEST_TERM)))
    (g_TERM_LETTERS:PySem.W.nsIn K mainGlobals "TERM_LETTERS" = some (some (.str "abcdefghijklmnopqrstuvwxyz" t_TERM_LETTERS)))
    (g_MOST_TERMS:PySem.W.nsIn K mainGlobals "MOST_TERMS" = some (some (.int 40 t_MOST_TERMS)))
    (q_NoWord:PySem.W.nsIn K mainGlobals "NoWord" = some (some (.ref aNoWord)))
    (q_TowerError:PySem.W.nsIn K mainGlobals "TowerError" = some (some (.ref aTowerError)))
    (f_t1_TowerError:PySem.W.specialIn K (.ref aTowerError) "__getattribute__" = some (some (.builtin "type.__getattribute__")))
    (f_t2_TowerError:PySem.W.readsIn K aTowerError (.type "type") = true)
    (f_t3_TowerError:PySem.W.findCls K (.ref aTowerError) (.type "type") "__init__" = some (.val (.builtin "ValueError.__init__")))
    (f_xo_NoWord:excJ K aNoWord [.type "ValueError",.type "Exception",.type "BaseException",.type "object"] "ValueError.__new__" = true)
    (f_xk_NoWord:PySem.W.keepIn K (.ref aNoWord) = true)
    (f_xe1_NoWord:PySem.W.hasDictIn K aNoWord = true)
    (f_xe2_NoWord:PySem.W.findIn K (.ref aNoWord) "__getattribute__" = some (some (.builtin "BaseException.__getattribute__")))
    (f_xe3_NoWord:PySem.W.findIn K (.ref aNoWord) "__getattr__" = some none)
    (f_xe4_NoWord:PySem.W.findIn K (.ref aNoWord) "__class__" = some (some (.builtin "object.__class__")))
    (f_xe5_NoWord:PySem.W.specialIn K (.builtin "object.__class__") "__get__" = some (some (.builtin "getset_descriptor.__get__")))
    (f_xe6_NoWord:PySem.W.takesIn K (.builtin "object.__class__") = some true)
    (f_xe7_NoWord:PySem.W.mroIn K aNoWord (.type "object") = some true)
    (f_xe8_NoWord:PySem.W.subIn K (.ref aNoWord) (.type "BaseException") = some true)
    (f_xs_NoWord:PySem.W.findIn K (.ref aNoWord) "__setattr__" = some (some (.builtin "object.__setattr__")))
    (f_xr_NoWord:mroB K aNoWord aTowerError = true)
    (f_xv_NoWord:PySem.W.subIn K (.ref aNoWord) (.type "ValueError") = some true)
    (f_xn_NoWord_at:PySem.W.findIn K (.ref aNoWord) "at" = some none)
    : ∃ fd:FuncData,(∀ (s:Shared) (v:Value),BindsTo s fd ⟨[v],[]⟩ [("_law_script",v)]) ∧ ∀ base:Heap,K.In base → base.Ns mainGlobals mg → LamB mg base c Pt → FnOk l.prog w K mg base CX0 5 fa fd ["_law_script"] (sp_law K Pt):=by
  have M:∀ {x:Str} {v:Value},PySem.W.nsIn K mainGlobals x = some (some v) → mg x = some v:=fun h => PySem.W.mg_of X Gn h
  have N:∀ {x:Str},PySem.W.nsIn K mainGlobals x = some none → mg x = none:=fun h => PySem.W.mg_none_of X Gn h
  have e:=hfa.symm.trans (M a_19)
  cases e
  have G:Gs K mg aNoWord aTowerError:=⟨M q_NoWord,M q_TowerError,f_t1_TowerError,f_t2_TowerError,f_t3_TowerError,f_xo_NoWord,f_xk_NoWord,f_xe1_NoWord,f_xe2_NoWord,f_xe3_NoWord,f_xe4_NoWord,f_xe5_NoWord,f_xe6_NoWord,f_xe7_NoWord,f_xe8_NoWord,f_xs_NoWord,f_xr_NoWord,f_xv_NoWord,f_xn_NoWord_at,N z_range,N z_len,N z_enumerate,N z_reversed,N z_max,N z_all,N z_min,N z_dict,N z_list,N z_isinstance,N z_bool,N z_int,⟨_,M g_LONGEST_TERM⟩,⟨_,M g_TERM_LETTERS⟩,⟨_,M g_MOST_TERMS⟩⟩
  have F_0:=fun_mk (st:=s_l_mixed) l_0 c_0 k_0
  have b_0:=F_0.binds (ps:=["_law_cell", "_law_k"]) (by walk_at "bd")
  have F_1:=fun_mk (st:=s_l_terms) l_1 c_1 k_1
  have b_1:=F_1.binds (ps:=["_law_cell"]) (by walk_at "bd")
  have F_2:=fun_mk (st:=s_l_word) l_2 c_2 k_2
  have b_2:=F_2.binds (ps:=["_law_cell", "_law_k"]) (by walk_at "bd")
  have F_3:=fun_mk (st:=s_l_book) l_3 c_3 k_3
  have b_3:=F_3.binds (ps:=["_law_cells", "_law_terms_here", "_law_cell"]) (by walk_at "bd")
  have F_4:=fun_mk (st:=s_l_cell_at) l_4 c_4 k_4
  have b_4:=F_4.binds (ps:=["_law_script", "_law_k"]) (by walk_at "bd")
  have F_5:=fun_mk (st:=s_l_good_book) l_5 c_5 k_5
  have b_5:=F_5.binds (ps:=["_law_script"]) (by walk_at "bd")
  have F_6:=fun_mk (st:=s_l_rest) l_6 c_6 k_6
  have b_6:=F_6.binds (ps:=["_law_book_here", "_law_terms_here", "_law_script"]) (by walk_at "bd")
  have F_7:=fun_mk (st:=s_l_table) l_7 c_7 k_7
  have b_7:=F_7.binds (ps:=["_law_book_here", "_law_terms_here"]) (by walk_at "bd")
  have F_8:=fun_mk (st:=s_l_due) l_8 c_8 k_8
  have b_8:=F_8.binds (ps:=["_law_book_here", "_law_terms_here", "_law_due_here"]) (by walk_at "bd")
  have F_9:=fun_mk (st:=s_is_term) l_9 c_9 k_9
  have b_9:=F_9.binds (ps:=["text"]) (by walk_at "bd")
  have F_10:=fun_mk (st:=s_is_row_of_terms) l_10 c_10 k_10
  have b_10:=F_10.binds (ps:=["text", "most"]) (by walk_at "bd")
  have F_11:=fun_mk (st:=s_terms_of) l_11 c_11 k_11
  have b_11:=F_11.binds (ps:=["text"]) (by walk_at "bd")
  have F_12:=fun_mk (st:=s_meanings_of) l_12 c_12 k_12
  have b_12:=F_12.binds (ps:=["book"]) (by walk_at "bd")
  have F_13:=fun_mk (st:=s_standing_at) l_13 c_13 k_13
  have b_13:=F_13.binds (ps:=["meanings", "terms", "start"]) (by walk_at "bd")
  have F_14:=fun_mk (st:=s_least_numbers) l_14 c_14 k_14
  have b_14:=F_14.binds (ps:=["meanings", "terms"]) (by walk_at "bd")
  have F_15:=fun_mk (st:=s_longest_on) l_15 c_15 k_15
  have b_15:=F_15.binds (ps:=["meanings", "terms", "table", "start"]) (by walk_at "bd")
  have F_16:=fun_mk (st:=s_cut_text) l_16 c_16 k_16
  have b_16:=F_16.binds (ps:=["book", "text"]) (by walk_at "bd")
  have F_17:=fun_mk (st:=s_NoWord_init) l_17 c_17 k_17
  have b_17:=F_17.binds (ps:=["self", "at"]) (by walk_at "bd")
  have F_18:=fun_mk (st:=s_text_said) l_18 c_18 k_18
  have b_18:=F_18.binds (ps:=["book", "words"]) (by walk_at "bd")
  have F_19:=fun_mk (st:=s_law) l_19 c_19 k_19
  refine ⟨PySem.W.fnOf "law" "law" (defArgs s_law) (defBody s_law) (defScope s_law) .none kV_19 dc_19 pm_19 an_19 cd_19 ct_19,fun s v => .of_eq rfl,fun base _ _ LB => ?_⟩
  have mk:∀ {k:Nat} {x:Str} {ps:List Str} {sp:Sp} {f:Addr} {fd:FuncData},FnOk l.prog w K mg base CX0 k f fd ps sp → mg x = some (.ref f) → PySem.W.keepIn K (.ref f) = true → Binds K fd ps [] → Cal l.prog w K mg base k x ps sp:=fun a b c d => ⟨_,_,a,b,c,d⟩
  have mkX:∀ {k:Nat} {x:Str} {ps:List Str} {sp:Sp} {f:Addr} {fd:FuncData},FnOk l.prog w K mg base (CXr l.prog w) k f fd ps sp → mg x = some (.ref f) → PySem.W.keepIn K (.ref f) = true → Binds K fd ps [] → CalX l.prog w K mg base k x ps sp:=fun a b c d => ⟨_,_,a,b,c,d⟩
  have c_l_mixed:=mk (ok_l_mixed F_0 G ) (M a_0) k_0 b_0
  have c_l_terms:=mk (ok_l_terms F_1 G ) (M a_1) k_1 b_1
  have c_l_word:=mk (ok_l_word F_2 G ) (M a_2) k_2 b_2
  have c_l_book:=mk (ok_l_book F_3 G c_l_mixed c_l_word) (M a_3) k_3 b_3
  have c_l_cell_at:=mk (ok_l_cell_at F_4 G ) (M a_4) k_4 b_4
  have c_l_good_book:=mk (ok_l_good_book F_5 G c_l_mixed c_l_terms c_l_book c_l_cell_at) (M a_5) k_5 b_5
  have c_l_rest:=mk (ok_l_rest F_6 G c_l_mixed c_l_cell_at) (M a_6) k_6 b_6
  have c_l_table:=mk (ok_l_table F_7 G ) (M a_7) k_7 b_7
  have c_l_due:=mk (ok_l_due F_8 G ) (M a_8) k_8 b_8
  have c_is_term:=mk (ok_is_term F_9 G ) (M a_9) k_9 b_9
  have c_is_row_of_terms:=mk (ok_is_row_of_terms F_10 G c_is_term) (M a_10) k_10 b_10
  have c_terms_of:=mk (ok_terms_of F_11 G c_is_row_of_terms) (M a_11) k_11 b_11
  have c_meanings_of:=mk (ok_meanings_of F_12 G ) (M a_12) k_12 b_12
  have c_standing_at:=mk (ok_standing_at F_13 G ) (M a_13) k_13 b_13
  have c_least_numbers:=mk (ok_least_numbers F_14 G c_standing_at) (M a_14) k_14 b_14
  have c_longest_on:=mk (ok_longest_on F_15 G (code_at TH X (M a_15) l_15) LB c_standing_at) (M a_15) k_15 b_15
  have c_cut_text:=mk (ok_cut_text F_16 G c_terms_of c_meanings_of c_least_numbers c_longest_on) (M a_16) k_16 b_16
  have c_NoWord_init:CalI l.prog w K mg base 1 aNoWord ["self", "at"] (sp_NoWord_init aNoWord):=⟨f_17,_,ok_NoWord_init F_17 G ,a_17,y_17,b_17⟩
  have c_text_said:=mkX (ok_text_said F_18 G c_NoWord_init) (M a_18) k_18 b_18
  exact ok_law F_19 G c_l_good_book c_l_rest c_l_table c_l_due c_cut_text c_l_terms c_text_said c_l_mixed c_l_cell_at
theorem walk {l:PySem.W.OpenLaw} {q:Program} {loose:List Str} {XP:(Str → Option Value) → Heap → Prop} {YP:World → Heap → Prop} {d:DefRec} {K:Params → PySem.W.Frag} (hn:l.most = some 63) (hdf:d.params.defaults = [])
    (hd2:((PyProof.Rows.recsOf q).find? fun e => e.name == PySem.Str.ofString "longest_on").isSome = true) (hno:∀ w:World,PySem.W.noTabs (K w.params) = true) (hY:∀ (w:World) (h:Heap),YP w h → (K w.params).In h)
    (F:∀ (w:World) (mg:Str → Option Value) (fa:Addr) (h:Heap) (c Pt:Addr),(K w.params).In h → h.Ns mainGlobals mg → mg d.name = some (.ref fa) → TabHd h mg "longest_on" c →
      ∃ fd:FuncData,(∀ (s:Shared) (u:Value),BindsTo s fd ⟨[u],[]⟩ [("_law_script",u)]) ∧ ∀ base:Heap,(K w.params).In base → base.Ns mainGlobals mg → LamB mg base c Pt → FnOk l.prog w (K w.params) mg base CX0 5 fa fd ["_law_script"] (sp_law (K w.params) Pt)) :
    PySem.W.WalkO q loose XP YP l.row.toRowW d [] (fun f vs => PySem.call f vs):=by
  obtain ⟨d2,e⟩:=Option.isSome_iff_exists.mp hd2
  have e3:=List.find?_some e
  have e2:d2.name = PySem.Str.ofString "longest_on" := eq_of_beq e3
  exact L2.walk_ofT (d2:=d2) (n:=63) (k:=5) (x := "_law_script") (CX:=fun _ => CX0) (sp:=fun w => sp_law (K w.params)) hn (by decide) hdf ⟨rfl,by decide,by decide⟩ (List.mem_of_find?_eq_some e) hno hY (fun w mg fa h c Pt a1 a2 a3 a4 => F w mg fa h c Pt a1 a2 a3 (e2 ▸ a4)) (fun _ _ a Pt ns hl hP hS => ⟨a,ns,rfl,hS,hl,hP,fun _ => rfl⟩) fun _ _ _ _ _ z => z
end Mine
namespace PySem.W.Fast
theorem tw4185805834487555971:True:=⟨⟩
theorem tw12385910973432696064:True:=⟨⟩
theorem tw2225784891764738525:True:=⟨⟩
theorem tw12736878108101084669:True:=⟨⟩
theorem tw4647291381239593729:True:=⟨⟩
theorem tw15955736671498521821:True:=⟨⟩
theorem tw4357385968677687643:True:=⟨⟩
theorem tw14780686635834962493:True:=⟨⟩
theorem tw5619568080111663357:True:=⟨⟩
theorem tw6691214132794374490:True:=⟨⟩
theorem tw7389990634004442980:True:=⟨⟩
theorem tw17061675848931201406:True:=⟨⟩
theorem tw9760487626028501581:True:=⟨⟩
theorem tw12460627419084303141:True:=⟨⟩
theorem tw7800018394445643212:True:=⟨⟩
theorem tw16840492136477749116:True:=⟨⟩
theorem tw2257857720277818390:True:=⟨⟩
theorem tw15239964117286637779:True:=⟨⟩
theorem tw15142250884228818720:True:=⟨⟩
theorem tw10176296945276814499:True:=⟨⟩
theorem tw15689478959157920910:True:=⟨⟩
theorem tw1534725765916614624:True:=⟨⟩
theorem tw5952966675007963400:True:=⟨⟩
theorem tw10907890728727318933:True:=⟨⟩
theorem tw14754890082704402787:True:=⟨⟩
theorem tw6918027629660361318:True:=⟨⟩
theorem tw4083738472410032812:True:=⟨⟩
theorem tw8335689111084635126:True:=⟨⟩
theorem tw2273844388211731986:True:=⟨⟩
theorem tw1577193528179990834:True:=⟨⟩
theorem tw16815982474345712193:True:=⟨⟩
theorem tw418303492880724571:True:=⟨⟩
theorem tw10393360560818163297:True:=⟨⟩
theorem tw3280699971628162348:True:=⟨⟩
theorem tw12079519352781570880:True:=⟨⟩
theorem tw17747929818514209430:True:=⟨⟩
theorem tw266263165291105809:True:=⟨⟩
theorem tw10507557621211249996:True:=⟨⟩
theorem tw11502801983606693759:True:=⟨⟩
theorem tw6538828500320187370:True:=⟨⟩
theorem tw16011471587404246230:True:=⟨⟩
theorem tw6469658108578375453:True:=⟨⟩
theorem tw3894319126480748761:True:=⟨⟩
theorem tw3182282497418414131:True:=⟨⟩
theorem tw12561361877001965054:True:=⟨⟩
theorem tw8354085241456334994:True:=⟨⟩
theorem tw18386922052789512067:True:=⟨⟩
theorem tw14645939073823883909:True:=⟨⟩
theorem tw12170718204404866713:True:=⟨⟩
theorem tw8510821788450339328:True:=⟨⟩
theorem tw16627331182947802663:True:=⟨⟩
theorem tw15804734413588395018:True:=⟨⟩
theorem tw7709139904032205997:True:=⟨⟩
theorem tw8229600138062997435:True:=⟨⟩
theorem tw15880958730351140999:True:=⟨⟩
theorem tw5536385740397705558:True:=⟨⟩
theorem tw16559210650249736216:True:=⟨⟩
theorem tw17745796881965008574:True:=⟨⟩
theorem tw1574879307289731931:True:=⟨⟩
theorem tw15488750308021046246:True:=⟨⟩
theorem tw4369827408386076881:True:=⟨⟩
theorem tw4981498391272061902:True:=⟨⟩
theorem tw15829820197775553527:True:=⟨⟩
theorem tw170493650278266163:True:=⟨⟩
theorem tw15397759317942044992:True:=⟨⟩
theorem tw17068616221544309901:True:=⟨⟩
theorem tw13743639662104222934:True:=⟨⟩
theorem tw11289899972767206921:True:=⟨⟩
theorem tw18315482386026584856:True:=⟨⟩
theorem tw1600032299249686650:True:=⟨⟩
theorem tw11758008232488981330:True:=⟨⟩
theorem tw11542552290272326955:True:=⟨⟩
theorem tw5717304338094635267:True:=⟨⟩
theorem tw1682414860161860326:True:=⟨⟩
theorem tw8556542600113642458:True:=⟨⟩
theorem tw1241217904198303417:True:=⟨⟩
theorem tw6435158062223090205:True:=⟨⟩
theorem tw10955739812013873948:True:=⟨⟩
theorem tw4791152020300370195:True:=⟨⟩
theorem tw14570196496160589478:True:=⟨⟩
theorem tw9143118512883023207:True:=⟨⟩
theorem tw3176485819354109411:True:=⟨⟩
theorem tw18081949966219887287:True:=⟨⟩
theorem tw17808451590886381069:True:=⟨⟩
theorem tw10012584401904336481:True:=⟨⟩
theorem tw5254268319774687220:True:=⟨⟩
theorem tw12802030461291786324:True:=⟨⟩
theorem tw7301356452283974577:True:=⟨⟩
theorem tw10809880314698086348:True:=⟨⟩
theorem tw14680642023655309810:True:=⟨⟩
theorem tw12520072489053253846:True:=⟨⟩
theorem tw13911138721758826559:True:=⟨⟩
theorem tw7714212122967918771:True:=⟨⟩
theorem tw11850518747269690470:True:=⟨⟩
theorem tw11187798210170363636:True:=⟨⟩
theorem tw4576920176042376719:True:=⟨⟩
theorem tw11139480933108116429:True:=⟨⟩
theorem tw1878881245874183922:True:=⟨⟩
theorem tw14815122765092057753:True:=⟨⟩
theorem tw6720562967995323702:True:=⟨⟩
theorem tw7760169079249392320:True:=⟨⟩
theorem tw14279938113021160057:True:=⟨⟩
theorem tw4312630129412559748:True:=⟨⟩
theorem tw4567101625493401847:True:=⟨⟩
theorem tw127200843737437197:True:=⟨⟩
theorem tw15585982215297091810:True:=⟨⟩
theorem tw4820054491637829544:True:=⟨⟩
theorem tw5178020817251401529:True:=⟨⟩
theorem tw14451826805617231003:True:=⟨⟩
theorem tw14949656398620512903:True:=⟨⟩
theorem tw4302817704209792541:True:=⟨⟩
theorem tw14034495151433839017:True:=⟨⟩
theorem tw7052413838043110705:True:=⟨⟩
theorem tw12837946111090211754:True:=⟨⟩
theorem tw11180745874363156270:True:=⟨⟩
theorem tw17787687595953143006:True:=⟨⟩
theorem tw18393759726568947778:True:=⟨⟩
theorem tw15106241128512647820:True:=⟨⟩
theorem tw13944055717766365131:True:=⟨⟩
theorem tw15547988161275203399:True:=⟨⟩
theorem tw5348578952733758354:True:=⟨⟩
theorem tw12845331314761128179:True:=⟨⟩
theorem tw4271208936229581453:True:=⟨⟩
theorem tw13725924013068309686:True:=⟨⟩
theorem tw14279468684349805525:True:=⟨⟩
theorem tw3178901958870503880:True:=⟨⟩
theorem tw3868544635940774446:True:=⟨⟩
theorem tw6202063730579090791:True:=⟨⟩
theorem tw10989244329864224350:True:=⟨⟩
theorem tw4750555376251899573:True:=⟨⟩
theorem tw10434299950074404466:True:=⟨⟩
theorem tw5169275466784071394:True:=⟨⟩
theorem tw15096413772763761154:True:=⟨⟩
theorem tw507019049883896777:True:=⟨⟩
theorem tw6954996226079092293:True:=⟨⟩
theorem tw1602428570050670920:True:=⟨⟩
theorem tw8228751855589294502:True:=⟨⟩
theorem tw1277184832613300459:True:=⟨⟩
theorem tw16246201444990284425:True:=⟨⟩
theorem tw4808308751408375424:True:=⟨⟩
theorem tw10939136141712069204:True:=⟨⟩
theorem tw15022216213748231365:True:=⟨⟩
theorem tw1529936274839576755:True:=⟨⟩
theorem tw8473008793405793611:True:=⟨⟩
theorem tw1457604025122787129:True:=⟨⟩
theorem tw1585376235746218148:True:=⟨⟩
theorem tw8459843783952241153:True:=⟨⟩
theorem tw13241723850676430568:True:=⟨⟩
theorem tw12585410201504248840:True:=⟨⟩
theorem tw12977023745973903323:True:=⟨⟩
theorem tw10876544985054070186:True:=⟨⟩
theorem tw14114120465228475208:True:=⟨⟩
theorem tw17372926069410788163:True:=⟨⟩
theorem tw14643039014508810756:True:=⟨⟩
theorem tw5493678059758197661:True:=⟨⟩
theorem tw18262485927589127969:True:=⟨⟩
theorem tw207492809176531863:True:=⟨⟩
theorem tw1740379603474059652:True:=⟨⟩
theorem tw14781955064337113220:True:=⟨⟩
theorem tw2084645738520328362:True:=⟨⟩
theorem tw16517072088956745186:True:=⟨⟩
theorem tw16393187118269325715:True:=⟨⟩
theorem tw6401664688349333383:True:=⟨⟩
theorem tw16282292960155818318:True:=⟨⟩
theorem tw1803222185271289974:True:=⟨⟩
theorem tw13930354792472520316:True:=⟨⟩
theorem tw17205455456797694975:True:=⟨⟩
theorem tw6069282479492323929:True:=⟨⟩
theorem tw11150525097149855013:True:=⟨⟩
theorem tw485741201160826704:True:=⟨⟩
theorem tw11095277732918562362:True:=⟨⟩
theorem tw10350295512266102991:True:=⟨⟩
theorem tw814293911492582037:True:=⟨⟩
theorem tw14589757841545736771:True:=⟨⟩
theorem tw6766071856574351607:True:=⟨⟩
theorem tw1676695840191587149:True:=⟨⟩
theorem tw7349344133018243112:True:=⟨⟩
theorem tw11808116120785387342:True:=⟨⟩
theorem tw17432402481768863446:True:=⟨⟩
theorem tw18319319326538618472:True:=⟨⟩
theorem tw13818348909286485159:True:=⟨⟩
theorem tw1358171833849985704:True:=⟨⟩
theorem tw16622756344648606331:True:=⟨⟩
theorem tw5236959412669889771:True:=⟨⟩
theorem tw12029763908838459897:True:=⟨⟩
theorem tw5308792890436383402:True:=⟨⟩
theorem tw5619653765755992138:True:=⟨⟩
end PySem.W.Fast
open PySem PySem.W PyProof.Rows
set_option maxRecDepth 100000 in
set_option maxHeartbeats 0 in
theorem PySem.Challenge.cw_flaglocker_k36_fewest_words_holds : PySem.Challenge.rw_flaglocker_k36_fewest_words.Holds := by
  w_on; o_law; k_head; (case hw => w_witness2)
  k_fill
  refine Mine.walk (l:=PySem.Challenge.rw_flaglocker_k36_fewest_words) rfl rfl ?hd2 ?hno (fun w h Y => PySem.W.km_in_of Y) ?F
  case hd2 => kernel_rfl!
  case hno => intro w; kernel_rfl!
  case F =>
    intro w mg fa h c Pt KX G hmg TH
    refine' Mine.all_mk KX G hmg TH ?a_0 ?l_0 ?c_0 ?k_0 ?a_1 ?l_1 ?c_1 ?k_1 ?a_2 ?l_2 ?c_2 ?k_2 ?a_3 ?l_3 ?c_3 ?k_3 ?a_4 ?l_4 ?c_4 ?k_4 ?a_5 ?l_5 ?c_5 ?k_5 ?a_6 ?l_6 ?c_6 ?k_6 ?a_7 ?l_7 ?c_7 ?k_7 ?a_8 ?l_8 ?c_8 ?k_8 ?a_9 ?l_9 ?c_9 ?k_9 ?a_10 ?l_10 ?c_10 ?k_10 ?a_11 ?l_11 ?c_11 ?k_11 ?a_12 ?l_12 ?c_12 ?k_12 ?a_13 ?l_13 ?c_13 ?k_13 ?a_14 ?l_14 ?c_14 ?k_14 ?a_15 ?l_15 ?c_15 ?k_15 ?a_16 ?l_16 ?c_16 ?k_16 ?y_17 ?a_17 ?l_17 ?c_17 ?k_17 ?a_18 ?l_18 ?c_18 ?k_18 ?a_19 ?l_19 ?c_19 ?k_19 ?z_range ?z_len ?z_enumerate ?z_reversed ?z_max ?z_all ?z_min ?z_dict ?z_list ?z_isinstance ?z_bool ?z_int ?g_LONGEST_TERM ?g_TERM_LETTERS ?g_MOST_TERMS ?q_NoWord ?q_TowerError ?f_t1_TowerError ?f_t2_TowerError ?f_t3_TowerError ?f_xo_NoWord ?f_xk_NoWord ?f_xe1_NoWord ?f_xe2_NoWord ?f_xe3_NoWord ?f_xe4_NoWord ?f_xe5_NoWord ?f_xe6_NoWord ?f_xe7_NoWord ?f_xe8_NoWord ?f_xs_NoWord ?f_xr_NoWord ?f_xv_NoWord ?f_xn_NoWord_at
    (case q_NoWord | q_TowerError | a_0 | l_0 | c_0 | k_0 | a_1 | l_1 | c_1 | k_1 | a_2 | l_2 | c_2 | k_2 | a_3 | l_3 | c_3 | k_3 | a_4 | l_4 | c_4 | k_4 | a_5 | l_5 | c_5 | k_5 | a_6 | l_6 | c_6 | k_6 | a_7 | l_7 | c_7 | k_7 | a_8 | l_8 | c_8 | k_8 | a_9 | l_9 => k_is)
    (case c_9 | k_9 | a_10 | l_10 | c_10 | k_10 | a_11 | l_11 | c_11 | k_11 | a_12 | l_12 | c_12 | k_12 | a_13 | l_13 | c_13 | k_13 | a_14 | l_14 | c_14 | k_14 | a_15 | l_15 | c_15 | k_15 | a_16 | l_16 | c_16 | k_16 | a_17 | l_17 | c_17 | k_17 | a_18 | l_18 | c_18 | k_18 | a_19 | l_19 => k_is)
    (case c_19 | k_19 | z_range | z_len | z_enumerate | z_reversed | z_max | z_all | z_min | z_dict | z_list | z_isinstance | z_bool | z_int | g_LONGEST_TERM | g_TERM_LETTERS | g_MOST_TERMS | f_t1_TowerError | f_t2_TowerError | f_t3_TowerError => k_is)
    (case f_xo_NoWord => kernel_rfl!)
    (case f_xk_NoWord | f_xe1_NoWord | f_xe2_NoWord | f_xe3_NoWord | f_xe4_NoWord | f_xe5_NoWord | f_xe6_NoWord | f_xe7_NoWord | f_xe8_NoWord | f_xs_NoWord => k_is)
    (case f_xr_NoWord => kernel_rfl!)
    (case f_xv_NoWord | f_xn_NoWord_at | y_17 => k_is)
