import PyProof.Rows.All
import Wide.All
import OpenK.AllK
import Wide.FinOn
import Lean
import PyProof.EqAt
import PyProof.EqKinds
import PyProof.TupleCall
import PySem.Challenge.RW_flaglocker_k31_whole_many_hauls
set_option Elab.async false
set_option compiler.extract_closed false
set_option linter.all false
set_option maxRecDepth 100000
abbrev Aa:=@List.getElem?_eq_getElem
abbrev Ab:=@List.length_map
abbrev Ac:=@List.getD_eq_getElem?_getD
abbrev Ad:=@List.getElem?_eq_some_iff
abbrev Ae:=@PySem.wpAny_bind
abbrev Af:=@PySem.Heap.get?_push_of_some
abbrev Ag:=@List.getElem?_map
abbrev Ah:=@Nat.le_refl
abbrev Ai:=@List.mem_of_getElem?
abbrev Aj:=@List.length_append
abbrev Ak:=@List.map_append
abbrev Al:=@Bool.false_ne_true
abbrev Am:=@PySem.wpAny_pure
abbrev An:=@List.mem_cons_self
abbrev Ao:=@List.mem_cons_of_mem
abbrev Ap:=@List.map_cons
abbrev Aq:=@PySem.Heap.lt_size
abbrev Ar:=@decide_eq_true
abbrev As:=@List.mem_singleton
abbrev Au:=@List.getElem?_append_left
abbrev Av:=@decide_eq_false
abbrev Aw:=@List.take_add_one
abbrev Ax:=@PySem.Heap.get?_push_size
abbrev Ay:=@List.getElem?_append_right
abbrev Az:=@List.length_cons
abbrev Ba:=@List.mem_cons
abbrev Bb:=@Nat.le_trans
abbrev Bc:=@List.mem_map
abbrev Bd:=@Nat.lt_of_lt_of_le
abbrev Be:=@of_decide_eq_true
abbrev Bf:=@PySem.PassesOwn.never
abbrev Bg:=@List.mem_append_right
abbrev Bh:=@List.take_length
abbrev Bi:=@List.mem_append
abbrev Bj:=@Nat.ne_of_lt
abbrev Bk:=@List.append_nil
abbrev Bl:=@List.length_take
abbrev Bm:=@List.take_of_length_le
abbrev Bo:=@List.size_toArray
abbrev Bp:=@decide_eq_true_iff
abbrev Bq:=@of_decide_eq_false
abbrev Br:=@List.getElem_mem
abbrev Bs:=@Option.some.inj
abbrev Bt:=@List.mem_append_left
abbrev Bu:=@PySem.wpAny_loadPart'
abbrev Bv:=@PySem.F.slot_dict_get
abbrev Bw:=@Bool.eq_false_iff
abbrev Bx:=@List.nodup_cons
abbrev By:=@PySem.Heap.get?_update_other
abbrev Bz:=@List.length_range
abbrev Ca:=@List.mem_iff_getElem
abbrev Cb:=@List.range_succ
abbrev Cc:=@List.mem_range
abbrev Cd:=@List.filterMap_append
abbrev Ce:=@PySem.F.plainAttrs_list
abbrev Cf:=@PySem.wpAny_mono
abbrev Cg:=@List.length_set
abbrev Ci:=@List.map_map
abbrev Cj:=@List.map_congr_left
abbrev Ck:=@List.length_drop
abbrev Cm:=@Array.getElem?_eq_some_iff
abbrev Co:=@List.flatten_cons
abbrev Cp:=@List.sum_cons
abbrev Cq:=@PySem.F.type_dict_get
abbrev Cr:=@List.nodup_append
abbrev Cs:=@List.getElem?_set_ne
abbrev Ct:=@Nat.zero_le
abbrev Cu:=@List.getElem?_set_self
abbrev Cv:=@PySem.mem_of_lookup
abbrev Cw:=@Int.toNat_natCast
abbrev Cy:=@PySem.wpAny_holding
abbrev Cz:=@List.length_filterMap_le
abbrev Da:=@List.filterMap_cons_some
abbrev Dc:=@List.mem_filter
abbrev Dd:=@Int.emod_nonneg
abbrev De:=@List.mem_filterMap
abbrev Df:=@List.filterMap_nil
abbrev Dg:=@Int.emod_lt_of_pos
abbrev Dh:=@decide_eq_decide
abbrev Di:=@List.countP_cons
abbrev Dj:=@PyProof.Rows.callWith_type1
abbrev Dk:=@Nat.lt_irrefl
abbrev Dm:=@List.lookup_cons
abbrev Dn:=@List.filterMap_cons_none
abbrev Do:=@PySem.F.slot_list_extend
abbrev Dp:=@PySem.F.type_list_extend
abbrev Dq:=@congrArg
abbrev Dr:=@PySem.codeAny_call_builtin
abbrev Ds:=@PySem.wpAny_typeNameOfWhole_keyiter
abbrev Dt:=@List.of_mem_zip
abbrev Du:=@Option.map_some
abbrev Dv:=@PySem.F.slot_dict_keyiterator_next
abbrev Dw:=@List.filterMap_cons
abbrev Dx:=@List.replicate_succ
abbrev Dy:=@List.flatMap_append
abbrev Dz:=@PySem.wpAny_Call_Name_kw
abbrev Ea:=@PySem.tupleKind_room_in1
abbrev Eb:=@List.take_zero
abbrev Ec:=@List.mem_iff_getElem?
abbrev Ed:=@List.mem_or_eq_of_mem_set
abbrev Ee:=@PySem.wpAny_passesOwn
abbrev Ef:=@PySem.codeAny_builtin
abbrev Eg:=@PySem.wpAny_truthy_bool
abbrev Eh:=@PySem.codeAny_mono
abbrev Ei:=@PySem.wpAny_field
abbrev Ej:=@PySem.Around.under_plainId
abbrev Ek:=@Option.isSome_iff_exists
abbrev El:=@PySem.F.slot_list_append
abbrev Em:=@PySem.F.type_list_append
abbrev En:=@beq_eq_false_iff_ne
abbrev Eo:=@Array.length_toList
abbrev Ep:=@List.filter_sublist
abbrev Er:=@PySem.Heap.size_push
abbrev Et:=@PySem.wpAny_getItem_str_slice
abbrev Eu:=@List.all_eq_true
abbrev Ew:=@Nat.add_sub_cancel_left
abbrev Ey:=@PySem.F.entry_dict_get
abbrev Ez:=@List.filter_append
abbrev Fa:=@List.countP_eq_length_filter
abbrev Fb:=@PySem.wpAny_standAt
abbrev Fc:=@Array.getElem?_toList
abbrev Fd:=@List.getElem?_zipWith
abbrev Fe:=@PySem.wpAny_pyIter_list
abbrev Ff:=@PySem.wpAny_loadPart_at
abbrev Fg:=@Array.getD_eq_getD_getElem?
abbrev Fh:=@List.flatMap_cons
abbrev Fi:=@PySem.Heap.get?_none_of_le
abbrev Fj:=@PySem.F.excBase_ValueError
abbrev Fk:=@List.getElem_inj
abbrev Fl:=@Bool.and_eq_true
abbrev Fm:=@List.map_nil
abbrev Fn:=@List.filter_cons
abbrev Fo:=@PySem.wpAny_call_entry
abbrev Fp:=@List.mem_flatMap
abbrev Fq:=@Array.getElem?_eq_getElem
abbrev Fs:=@List.getElem?_range
abbrev Ft:=@PySem.W.of_hideAll
abbrev Fu:=@PySem.wpAny_call
abbrev Fv:=@PySem.Code.quiet_builtin
abbrev Fw:=@PySem.Obj.data_mapFields
abbrev Fx:=@List.countP_append
abbrev Fy:=@List.mem_replicate
abbrev Fz:=@Nat.ne_of_gt
abbrev Ga:=@List.take_sublist
abbrev Gb:=@List.append_assoc
abbrev Gc:=@PySem.wpAny_newObj_type
abbrev Gd:=@PySem.wpAny_setField
abbrev Ge:=@PySem.call_meetsIn
abbrev Gf:=@List.foldl_append
abbrev Gg:=@Nat.sub_self
abbrev Gh:=@List.any_eq_true
abbrev Gi:=@Nat.min_eq_right
abbrev Gj:=@List.any_cons
abbrev Gk:=@Bool.false_or
abbrev Gm:=@PySem.plainId_quiet
abbrev Gp:=@PySem.sizeLine_eq
abbrev Gq:=@Int.le_refl
namespace L2
open PySem PySem.Spec PyProof.Rows
abbrev Key:=Sum Int Str
def kK:Key → Value → Bool
 | .inl k,v => Value.isInt k v
 | .inr x,v => Value.isStrOf x v
def dXG (w:World):Key → Int
 | .inl k => hashInt k
 | .inr x => hashStr w x
theorem bN:∀ {k:Key} {v:Value},kK k v = true → (∃ i t,k = Sum.inl i ∧ v = Value.int i t) ∨ (∃ x t,k = Sum.inr x ∧ v = Value.str x t)
 | .inl i,v,h => by
   obtain ⟨t,e⟩:=Value.isInt_shape (k:=i) (v:=v) h
   exact .inl ⟨i,t,rfl,e⟩
 | .inr x,v,h => by
   obtain ⟨t,e⟩:=Value.isStrOf_shape (x:=x) (v:=v) h
   exact .inr ⟨x,t,rfl,e⟩
theorem aZF (i:Int) (t:Tok):kK (.inl i) (.int i t) = true:=by simp [kK,Value.isInt]
theorem aXH (x:Str) (t:Tok):kK (.inr x) (.str x t) = true:=by simp [kK,Value.isStrOf]
theorem cJP (a b:Int):decide ((Sum.inl a:Key) = Sum.inl b) = (a == b):=by
 by_cases e:a = b
 · subst e; simp
 · have h:¬ (Sum.inl a:Key) = Sum.inl b:=fun q => e (Sum.inl.inj q)
   rw [Av h]
   exact (En.mpr e).symm
theorem cXN (a b:Str):decide ((Sum.inr a:Key) = Sum.inr b) = decide (a = b):=by
 by_cases e:a = b
 · subst e; simp
 · have h:¬ (Sum.inr a:Key) = Sum.inr b:=fun q => e (Sum.inr.inj q)
   rw [Av h,Av e]
theorem cX3 (a:Int) (b:Str):decide ((Sum.inl a:Key) = Sum.inr b) = false:=Av (fun q => nomatch q)
theorem cZG (a:Str) (b:Int):decide ((Sum.inr a:Key) = Sum.inl b) = false:=Av (fun q => nomatch q)
def aZ (prog:Program) (w:World):PySem.KeyKind prog w Key where
 is:=kK
 hash:=dXG w
 inj:=fun v a b ha hb => by
   rcases bN ha with ⟨i,t,rfl,rfl⟩ | ⟨x,t,rfl,rfl⟩
   · rcases bN hb with ⟨j,u,rfl,e⟩ | ⟨y,u,rfl,e⟩
     · injection e with e1 _; rw [e1]
     · exact nomatch e
   · rcases bN hb with ⟨j,u,rfl,e⟩ | ⟨y,u,rfl,e⟩
     · exact nomatch e
     · injection e with e1 _; rw [e1]
 byValue:=fun k v h => by
   rcases bN h with ⟨i,t,rfl,rfl⟩ | ⟨x,t,rfl,rfl⟩ <;> rfl
 pyHash:=fun hv h => by
   rcases bN hv with ⟨i,t,rfl,rfl⟩ | ⟨x,t,rfl,rfl⟩
   · exact wpAny_pyHash_int h
   · exact wpAny_pyHash_str h
 eqBool:=fun hu hv h => by
   rcases bN hu with ⟨i,t,rfl,rfl⟩ | ⟨x,t,rfl,rfl⟩
   · rcases bN hv with ⟨j,u,rfl,rfl⟩ | ⟨y,u,rfl,rfl⟩
     · rw [cJP] at h; exact wpAny_eqBool_int h
     · rw [cX3] at h; exact SeqAt.EqAt.int_str i t y u _ _ _ _ h
   · rcases bN hv with ⟨j,u,rfl,rfl⟩ | ⟨y,u,rfl,rfl⟩
     · rw [cZG] at h; exact SeqAt.EqAt.str_int x t j u _ _ _ _ h
     · rw [cXN] at h; exact wpAny_eqBool_str h
 «strs» := fun k x t v h => by
   rcases bN h with ⟨i,u,rfl,e⟩ | ⟨y,u,rfl,e⟩
   · exact nomatch e
   · injection e with e1 _
     subst e1
     cases v <;> rfl
theorem wJ (prog:Program) (w:World) (i:Int) (t:Tok):(aZ prog w).is (.inl i) (.int i t) = true:=aZF i t
theorem vD (prog:Program) (w:World) (x:Str) (t:Tok):(aZ prog w).is (.inr x) (.str x t) = true:=aXH x t
end L2
namespace L2
open PySem PySem.Spec PyProof.Rows
inductive V where
 | non | bl (b:Bool) | int (i:Int) | str (x:Str) | byt (b:Array UInt8) | flt (b:UInt64) | ref (a:Addr) | ty (n:String)
 deriving DecidableEq
def RelV:V → Value → Prop
 | .non,u => u = Value.none
 | .bl b,u => u = Value.bool b
 | .int i,u => ∃ t,u = Value.int i t
 | .str x,u => ∃ t,u = Value.str x t
 | .byt b,u => ∃ t,u = Value.bytes b t
 | .flt b,u => ∃ t,u = Value.float b t
 | .ref a,u => u = Value.ref a
 | .ty n,u => u = Value.type n
abbrev Vals:List V → List Value → Prop:=Paired RelV
theorem Vals.length {xs:List V} {us:List Value} (r:Vals xs us):xs.length = us.length:=Paired.length r
theorem Vals.get:∀ {xs:List V} {us:List Value} {i:Nat} {x:V},Vals xs us → xs[i]? = some x → ∃ u,us[i]? = some u ∧ RelV x u
 | _,_,_,_,.nil,e => by simp at e
 | _,_,0,_,.cons r _,e => by simp at e; subst e; exact ⟨_,rfl,r⟩
 | _,_,i + 1,x,.cons _ t,e => by
   obtain ⟨u,h1,h2⟩:=Vals.get (i:=i) (x:=x) t (by simpa using e)
   exact ⟨u,by simpa using h1,h2⟩
theorem Vals.set {x:V} {u:Value} (r:RelV x u):∀ {xs:List V} {us:List Value} (i:Nat),Vals xs us → Vals (xs.set i x) (us.set i u)
 | _,_,_,.nil => .nil
 | _,_,0,.cons _ t => .cons r t
 | _,_,i + 1,.cons q t => .cons q (Vals.set r i t)
theorem Vals.append:∀ {xs ys:List V} {us ws:List Value},Vals xs us → Vals ys ws → Vals (xs ++ ys) (us ++ ws)
 | _,_,_,_,.nil,s => s
 | _,_,_,_,.cons r t,s => .cons r (Vals.append t s)
theorem Vals.take:∀ {xs:List V} {us:List Value} (n:Nat),Vals xs us → Vals (xs.take n) (us.take n)
 | _,_,0,_ => .nil
 | _,_,_ + 1,.nil => .nil
 | _,_,n + 1,.cons r t => .cons r (Vals.take n t)
theorem Vals.drop:∀ {xs:List V} {us:List Value} (n:Nat),Vals xs us → Vals (xs.drop n) (us.drop n)
 | _,_,0,r => r
 | _,_,_ + 1,.nil => .nil
 | _,_,n + 1,.cons _ t => Vals.drop n t
theorem Vals.none_of:∀ {xs:List V} {us:List Value} {i:Nat},Vals xs us → xs[i]? = none → us[i]? = none:=fun {xs us i} r e => by
 have h1:=r.length
 have h2:xs.length ≤ i:=List.getElem?_eq_none_iff.mp e
 exact List.getElem?_eq_none_iff.mpr (by omega)
def RelO:Option V → Option Value → Prop
 | some v,some u => RelV v u
 | none,none => True
 | _,_ => False
def KV {κ:Type}:List (κ × V) → List (κ × Value) → Prop:=Paired fun (p:κ × V) (q:κ × Value) => p.1 = q.1 ∧ RelV p.2 q.2
def kV:Key → V
 | .inl i => .int i
 | .inr x => .str x
inductive HO where
   | lst (xs:List V)
   | tup (xs:List V)
   | dK (kvs:List (Key × V)) | dT (kvs:List (List Key × V))
   | set (S:Int → Bool) (n:Nat)
   | ins (C dx:Addr) (fs:List (Str × V))
   | own (x:Addr)
   | xd (fs:List (Str × V))
   | met (f x:Addr)
   | rng (lo hi:Int)
   | frz (o:Obj) (u:HO)
   | tbl (ps:Array Value)
   | ext (φ:Heap → Prop)
abbrev Hp:=Addr → Option HO
def upd (H:Hp) (a:Addr) (o:HO):Hp:=fun b => if b = a then some o else H b
theorem aB {H:Hp} {a:Addr} {o:HO}:upd H a o a = some o:=by unfold upd; rw [if_pos rfl]
theorem aI {H:Hp} {a b:Addr} {o:HO} (h:b ≠ a):upd H a o b = H b:=by unfold upd; rw [if_neg h]
theorem aQB {H:Hp} {a:Addr} {o u:HO}:upd (upd H a o) a u = upd H a u:=by
 funext b; unfold upd; split <;> rfl
theorem dXH {H:Hp} {a b:Addr} {o u:HO} (h:H a = some o) (h':H b = some u) (d:o ≠ u):a ≠ b:=by
 intro e; subst e; rw [h] at h'; exact d (Bs h')
theorem bH {H:Hp} {a b:Addr} {o:HO} (h:H a = some o) (h':H b = none):a ≠ b:=by
 intro e; subst e; rw [h] at h'; cases h'
section
variable (P:Program) (w:World)
def ObjOk (H:Hp) (h:Heap) (a:Addr):HO → Prop
 | .lst xs => xs.length ≤ sizeLine ∧ ∃ (its:List Value) (n:Nat),Vals xs its ∧ h.get? a = some { cls:=.type "list",data:=.seq its.toArray n }
 | .tup xs => xs.length ≤ sizeLine ∧ ∃ its:List Value,Vals xs its ∧ IsTup h a its.toArray
 | .dK kvs => kvs.length ≤ sizeLine ∧ (a == sysModules) = false ∧ ∃ vs,KV kvs vs ∧ h.DictOf (aZ P w) a vs
 | .dT kvs => kvs.length ≤ sizeLine ∧ (a == sysModules) = false ∧ ∃ xs:List (List Key × Addr × Value),
     Paired (fun (p:List Key × V) (q:List Key × Addr × Value) => p.1 = q.1 ∧ H q.2.1 = some (.tup (p.1.map kV)) ∧ RelV p.2 q.2.2) kvs xs ∧
     ∃ o es ep,h.get? a = some o ∧ o.ExactDict ∧ o.data = .dict es ep ∧ es.toList = xs.map (entryOfKey (tupleKind (aZ P w))) ∧ (xs.map (·.1)).Nodup
 | .set S n => h.SetOf (intKind P w) a S n
 | .ins C dx fs => H dx = some (.own a) ∧ fs.length ≤ 1000 ∧ dx ≠ a ∧ h.get? a = some (PySem.W.instObj C dx) ∧
     ∃ mA,h.Ns1 dx mA ∧ (∀ f,RelO (fs.lookup f) (mA f)) ∧ PySem.Within mA (fs.map (·.1))
 | .own _ => ∃ o,h.get? a = some o
 | .xd fs => ∃ mA,h.Ns1 a mA ∧ ∀ f,RelO (fs.lookup f) (mA f)
 | .rng lo hi => ∃ t u v,h.get? a = some { cls:=.type "range",data:=.fields #[.int lo t,.int hi u,.int 1 v] }
 | .frz o u => h.get? a = some o ∧ ObjOk H h a u
 | .tbl ps => h.get? a = some { cls:=.none,data:=.fields ps }
 | .met f x => h.get? a = some (PySem.W.methodObj (.ref f) (.ref x))
 | .ext φ => φ h ∧ (∃ o,h.get? a = some o) ∧ ∀ h1 h2:Heap,φ h1 → (∀ o,h1.get? a = some o → h2.get? a = some o) → φ h2
def HOk (H:Hp) (h:Heap):Prop:=∀ a o,H a = some o → ObjOk P w H h a o
end
section
variable {P:Program} {w:World} {H H':Hp} {h h':Heap} {a:Addr} {o:HO}
theorem ObjOk.lt (x:ObjOk P w H h a o):a < h.objs.size:=by
 cases o with
 | lst xs => obtain ⟨_,_,_,_,e⟩:=x; exact Aq e
 | tup xs => obtain ⟨_,_,_,p⟩:=x; exact p.lt
 | dK kvs => obtain ⟨_,_,_,_,o,_,_,e,_⟩:=x; exact Aq e
 | dT kvs => obtain ⟨_,_,_,_,o,_,_,e,_⟩:=x; exact Aq e
 | set S n => obtain ⟨o,_,_,_,e,_⟩:=x; exact Aq e
 | ins C dx fs => obtain ⟨_,_,_,e,_⟩:=x; exact Aq e
 | own y => obtain ⟨_,e⟩:=x; exact Aq e
 | xd fs => obtain ⟨_,⟨_,_,_,e,_⟩,_⟩:=x; exact Aq e
 | rng lo hi => obtain ⟨_,_,_,e⟩:=x; exact Aq e
 | frz ob u => obtain ⟨e,_⟩:=x; exact Aq e
 | tbl ps => exact Aq (show h.get? a = some _ from x)
 | met f y => exact Aq (show h.get? a = some _ from x)
 | ext φ => obtain ⟨_,⟨_,e⟩,_⟩:=x; exact Aq e
theorem Paired.mapP {α β:Type} {F G:α → β → Prop}:∀ {l₁:List α} {l₂:List β},Paired F l₁ l₂ → (∀ a b,F a b → G a b) → Paired G l₁ l₂
 | _,_,.nil,_ => .nil
 | _,_,.cons r t,f => .cons (f _ _ r) (Paired.mapP t f)
theorem ObjOk.stay (x:ObjOk P w H h a o) (k:∀ b u,(b = a ∨ H b = some (.own a)) → h.get? b = some u → h'.get? b = some u)
   (ho:∀ b,H b = some (.own a) → H' b = some (.own a)) (ht:∀ b xs,H b = some (.tup xs) → H' b = some (.tup xs)):ObjOk P w H' h' a o:=by
 induction o with
 | lst xs => obtain ⟨z,its,n,r,e⟩:=x; exact ⟨z,its,n,r,k _ _ (.inl rfl) e⟩
 | tup xs => obtain ⟨z,its,r,ob,e,c⟩:=x; exact ⟨z,its,r,ob,k _ _ (.inl rfl) e,c⟩
 | dK kvs => obtain ⟨z,y,vs,r,ob,es,ep,e,c⟩:=x; exact ⟨z,y,vs,r,ob,es,ep,k _ _ (.inl rfl) e,c⟩
 | dT kvs =>
   obtain ⟨z,y,xs,r,ob,es,ep,e,c⟩:=x
   exact ⟨z,y,xs,Paired.mapP r fun p q z => ⟨z.1,ht _ _ z.2.1,z.2.2⟩,ob,es,ep,k _ _ (.inl rfl) e,c⟩
 | set S n => obtain ⟨ob,es,ep,t,e,c⟩:=x; exact ⟨ob,es,ep,t,k _ _ (.inl rfl) e,c⟩
 | ins C dx fs =>
   obtain ⟨d,z,ne,e,mA,⟨od,es,ep,e2,c⟩,r⟩:=x
   exact ⟨ho _ d,z,ne,k _ _ (.inl rfl) e,mA,⟨od,es,ep,k _ _ (.inr d) e2,c⟩,r⟩
 | own y => obtain ⟨ob,e⟩:=x; exact ⟨ob,k _ _ (.inl rfl) e⟩
 | xd fs => obtain ⟨mA,⟨od,es,ep,e,c⟩,r⟩:=x; exact ⟨mA,⟨od,es,ep,k _ _ (.inl rfl) e,c⟩,r⟩
 | rng lo hi => obtain ⟨t,u,v,e⟩:=x; exact ⟨t,u,v,k _ _ (.inl rfl) e⟩
 | frz ob u ih => obtain ⟨e,q⟩:=x; exact ⟨k _ _ (.inl rfl) e,ih q⟩
 | tbl ps =>
   have e:h.get? a = some { cls:=.none,data:=.fields ps }:=x
   show h'.get? a = some { cls:=.none,data:=.fields ps }
   exact k a _ (.inl rfl) e
 | met f y =>
   have e:h.get? a = some (PySem.W.methodObj (.ref f) (.ref y)):=x
   show h'.get? a = some (PySem.W.methodObj (.ref f) (.ref y))
   exact k a _ (.inl rfl) e
 | ext φ => obtain ⟨p,⟨o,e⟩,st⟩:=x; exact ⟨st _ _ p fun o q => k _ _ (.inl rfl) q,⟨o,k _ _ (.inl rfl) e⟩,st⟩
theorem HOk.lt (x:HOk P w H h) (e:H a = some o):a < h.objs.size:=(x a o e).lt
theorem HOk.fresh (x:HOk P w H h) (e:h.objs.size ≤ a):H a = none:=by
 cases q:H a with
 | none => rfl
 | some u => exact absurd (Bd (x.lt q) e) (Dk _)
theorem HOk.kept (x:HOk P w H h) (k:∀ b u,h.get? b = some u → h'.get? b = some u):HOk P w H h':=fun a o e =>
 (x a o e).stay (fun b u _ q => k b u q) (fun _ q => q) fun _ _ q => q
theorem HOk.laid (x:HOk P w H h) (k:∀ b u,h.get? b = some u → h'.get? b = some u) (hp:h.objs.size ≤ a) (new:ObjOk P w (upd H a o) h' a o):HOk P w (upd H a o) h':=fun b u e => by
 have hn:=x.fresh hp
 by_cases hb:b = a
 · subst hb; rw [aB] at e; cases e; exact new
 · rw [aI hb] at e
   exact (x b u e).stay (fun c v _ q => k c v q) (fun c q => by rw [aI (bH q hn)]; exact q) fun c xs q => by rw [aI (bH q hn)]; exact q
end
def Rd (H:Hp) (a:Addr) (u:HO):Prop:=H a = some u ∨ ∃ o,H a = some (.frz o u)
theorem Rd.of {H:Hp} {a:Addr} {u:HO} (h:H a = some u):Rd H a u:=.inl h
theorem Rd.ok {P:Program} {w:World} {H:Hp} {h:Heap} {a:Addr} {u:HO} (r:Rd H a u) (x:HOk P w H h):ObjOk P w H h a u:=by
 rcases r with r | ⟨o,r⟩
 · exact x a u r
 · obtain ⟨_,q⟩:=x a _ r
   exact q
def Mut:Option HO → Prop
 | some (.lst _) => True
 | some (.dK _) => True
 | some (.dT _) => True
 | some (.set _ _) => True
 | some (.ins _ _ _) => True
 | some (.ext _) => True
 | _ => False
section
variable {P:Program} {w:World} {H:Hp} {h h':Heap} {x e:Addr} {o':HO}
theorem HOk.write (ok:HOk P w H h) (mu:Mut (H x)) (he:e = x ∨ H e = some (.own x)) (k:∀ b u,b ≠ e → h.get? b = some u → h'.get? b = some u) (heo:∃ u,h'.get? e = some u)
   (new:ObjOk P w (upd H x o') h' x o'):HOk P w (upd H x o') h':=fun b u q => by
 have nown:∀ c y,H c = some (.own y) → c ≠ x:=fun c y r z => by subst z; rw [r] at mu; exact mu
 have ntup:∀ c xs,H c = some (.tup xs) → c ≠ x:=fun c xs r z => by subst z; rw [r] at mu; exact mu
 by_cases hb:b = x
 · subst hb; rw [aB] at q; cases q; exact new
 · rw [aI hb] at q
   by_cases hbe:b = e
   · have q':H b = some (.own x):=by
       rcases he with z | z
       · exact absurd (hbe.trans z) hb
       · rw [hbe]; exact z
     rw [q] at q'; cases q'
     obtain ⟨v,hv⟩:=heo
     exact ⟨v,by rw [hbe]; exact hv⟩
   · refine (ok b u q).stay (fun c v hc r => k c v ?_ r) (fun c r => by rw [aI (nown c b r)]; exact r) fun c xs r => by rw [aI (ntup c xs r)]; exact r
     rcases hc with rfl | hc
     · exact hbe
     · rintro rfl
       rcases he with z | z
       · exact nown c b hc z
       · rw [hc] at z; cases z; exact hb rfl
end
structure Un (fs ex:List Addr) (H H':Hp) (h h':Heap):Prop where
 keep:∀ b o,h.get? b = some o → H b = none → b ∉ fs → b ∉ ex → h'.get? b = some o
 slot:∀ b o,h.get? b = some o → H b = none → b ∈ fs → b ∉ ex → ∃ sl,h'.get? b = some { o with slots:=sl }
 free:∀ b o,h.get? b = some o → H b = none → b ∉ ex → H' b = none
 there:∀ b o,h.get? b = some o → b ∉ ex → ∃ o',h'.get? b = some o'
 tups:∀ b xs,H b = some (.tup xs) → H' b = some (.tup xs)
 frzs:∀ b o u,H b = some (.frz o u) → H' b = some (.frz o u)
 tbls:∀ b ps,H b = some (.tbl ps) → ∃ more,H' b = some (.tbl (ps ++ more))
section
variable {fs fs' ex ex':List Addr} {H H1 H2:Hp} {h h1 h2 h':Heap} {a x e:Addr} {o:HO}
theorem Un.any (u:Un fs ex H H1 h h1) {b:Addr} {ob:Obj} (q:h.get? b = some ob) (n:H b = none) (hx:b ∉ ex):∃ sl,h1.get? b = some { ob with slots:=sl }:=by
 by_cases hb:b ∈ fs
 · exact u.slot b ob q n hb hx
 · exact ⟨ob.slots,u.keep b ob q n hb hx⟩
theorem Un.trans (a:Un fs ex H H1 h h1) (b:Un fs ex H1 H2 h1 h2):Un fs ex H H2 h h2 where
 keep:=fun c ob q n hc hx => b.keep c ob (a.keep c ob q n hc hx) (a.free c ob q n hx) hc hx
 slot:=fun c ob q n hc hx => by
   obtain ⟨sl,e1⟩:=a.slot c ob q n hc hx
   obtain ⟨sl',e2⟩:=b.slot c _ e1 (a.free c ob q n hx) hc hx
   exact ⟨sl',e2⟩
 free:=fun c ob q n hx => by
   obtain ⟨o',e1⟩:=a.there c ob q hx
   exact b.free c o' e1 (a.free c ob q n hx) hx
 there:=fun c ob q hx => by
   obtain ⟨o',e1⟩:=a.there c ob q hx
   exact b.there c o' e1 hx
 tups:=fun c xs q => b.tups c xs (a.tups c xs q)
 frzs:=fun c ob xs q => b.frzs c ob xs (a.frzs c ob xs q)
 tbls:=fun c ps q => by
   obtain ⟨m1,e1⟩:=a.tbls c ps q
   obtain ⟨m2,e2⟩:=b.tbls c _ e1
   exact ⟨m1 ++ m2,by rw [e2,Array.append_assoc]⟩
theorem Un.kept (k:∀ b u,h.get? b = some u → h'.get? b = some u):Un fs ex H H h h' :=
 ⟨fun b ob q _ _ _ => k b ob q,fun b ob q _ _ _ => ⟨ob.slots,k b ob q⟩,fun _ _ _ n _ => n,fun b ob q _ => ⟨ob,k b ob q⟩,fun _ _ q => q,fun _ _ _ q => q,fun _ ps q => ⟨#[],by rw [q]; simp⟩⟩
theorem Un.refl:Un fs ex H H h h:=Un.kept fun _ _ q => q
theorem Un.laid (k:∀ b u,h.get? b = some u → h'.get? b = some u) (hp:h.objs.size ≤ a) (hn:H a = none):Un fs ex H (upd H a o) h h' where
 keep:=fun b u q _ _ _ => k b u q
 slot:=fun b u q _ _ _ => ⟨u.slots,k b u q⟩
 free:=fun b u q n _ => by rw [aI (Bj (Bd (Aq q) hp))]; exact n
 there:=fun b u q _ => ⟨u,k b u q⟩
 tups:=fun b xs q => by rw [aI (bH q hn)]; exact q
 frzs:=fun b u xs q => by rw [aI (bH q hn)]; exact q
 tbls:=fun b ps q => ⟨#[],by rw [aI (bH q hn),q]; simp⟩
theorem Un.write (mu:Mut (H x)) (he:e = x ∨ H e = some (.own x)) (k:∀ b u,b ≠ e → h.get? b = some u → h'.get? b = some u) (heo:∃ u,h'.get? e = some u):Un fs ex H (upd H x o) h h':=by
 have hx:∀ b,H b = none → b ≠ x:=fun b n z => by subst z; rw [n] at mu; exact mu
 have hb:∀ b,H b = none → b ≠ e:=fun b n z => by
   subst z
   rcases he with r | r
   · exact hx b n r
   · rw [n] at r; cases r
 have hm:∀ b u,H b = some u → ¬ Mut (some u) → b ≠ x:=fun b u q nm z => by subst z; rw [q] at mu; exact nm mu
 refine ⟨fun b u q n _ _ => k b u (hb b n) q,fun b u q n _ _ => ⟨u.slots,k b u (hb b n) q⟩,fun b u q n _ => by rw [aI (hx b n)]; exact n,fun b u q _ => ?_,
   fun b xs q => by rw [aI (hm b _ q fun z => z)]; exact q,fun b u xs q => by rw [aI (hm b _ q fun z => z)]; exact q,fun b ps q => ⟨#[],by rw [aI (hm b _ q fun z => z),q]; simp⟩⟩
 by_cases hbe:b = e
 · subst hbe; exact heo
 · exact ⟨u,k b u hbe q⟩
theorem Un.mono (u:Un fs ex H H1 h h1) (hs:∀ b ∈ fs,b ∈ fs') (hx:∀ b ∈ ex,b ∈ ex'):Un fs' ex' H H1 h h1 :=
 ⟨fun b ob q n hb he => u.keep b ob q n (fun z => hb (hs b z)) fun z => he (hx b z),fun _ _ q n _ he => u.any q n fun z => he (hx _ z),fun b ob q n he => u.free b ob q n fun z => he (hx b z),fun b ob q he => u.there b ob q fun z => he (hx b z),u.tups,u.frzs,u.tbls⟩
end
def trk (h:Heap) (H:Hp):List Addr:=(List.range h.objs.size).filter fun a => (H a).isSome
def uE (h:Heap) (H:Hp):Heap:=PySem.W.hideAll h (trk h H)
theorem aXP (h:Heap) (H:Hp):(uE h H).objs.size = h.objs.size:=PySem.W.hideAll_size _ _
theorem bQB {h:Heap} {H:Hp} {b:Addr} {o:Obj} (e:h.get? b = some o) (n:H b = none):(uE h H).get? b = some o :=
 PySem.W.hideAll_get _ e fun hm => by
   have q:(H b).isSome = true:=(Dc.mp hm).2
   rw [n] at q; simp at q
theorem cQE {h:Heap} {H:Hp} {b:Addr} {o:Obj} (e:(uE h H).get? b = some o):h.get? b = some o ∧ H b = none:=by
 have e':h.get? b = some o:=Ft (trk h H) e
 refine ⟨e',?_⟩
 cases q:H b with
 | none => rfl
 | some x =>
   have hm:b ∈ trk h H:=List.mem_filter.mpr ⟨List.mem_range.mpr (Heap.lt_size e'),by simp [q]⟩
   have z:(uE h H).get? b = none:=PySem.W.hideAll_none (trk h H) hm
   rw [z] at e; cases e
def bZX (g h:Heap) (L:Addr):List (Addr × Obj):=(List.range h.objs.size).filterMap fun a => if a = L ∨ (g.get? a).isSome = true then none else (h.get? a).map fun o => (a,o)
def rest (g h:Heap) (L d:Addr):List (Addr × Obj):=(bZX g h L).filter fun p => decide (p.1 ≠ d)
end L2
namespace L2
open PySem PySem.Spec PyProof.Rows
structure Mod (K:PySem.W.Frag) (mg:Str → Option Value) (base:Heap):Prop where
 kin:K.In base
 glob:base.Ns mainGlobals mg
 blt:∃ mb,base.Ns builtinsNs mb ∧ ∀ x:Str,x ≠ "__name__" → mb x = bootBuiltins x
 nolimit:base.NoLimit
structure Cx where
 prog:Program
 w:World
 K:PySem.W.Frag
 mg:Str → Option Value
 base:Heap
 A:Around
 N:List Str
 s₀:Shared
 H₀:Hp
 env:Env
 outer:List Env
 stack:List Env
 ex:List Addr
 fn:Str → Bool
 calm:Bool
 pn:List (Addr × Obj)
 xe:Value → Shared → Prop
def frs (l:List Env):List Addr:=l.filterMap (·.frame)
abbrev Cx.fs (X:Cx):List Addr:=frs X.outer
def Vis (sc:Scope) (x:Str):Prop:=sc.names.lookup x = some .local ∨ sc.names.lookup x = some .cell ∨ sc.names.lookup x = some .free
def Loc (sc:Scope) (x:Str):Prop:=sc.names.lookup x = some .local ∨ sc.names.lookup x = some .cell
def dZR (env:Env) (h:Heap) (m:Str → Option Value) (x:Str) (u:Value):Prop :=
 (env.kindOf x = some .local ∧ m x = some u) ∨ ((env.kindOf x = some .cell ∨ env.kindOf x = some .free) ∧ ∃ c,env.cells.lookup x = some c ∧ h.IsCell c (some u))
structure Cx.Ok (X:Cx):Prop where
 mod:Mod X.K X.mg X.base
 kind:X.env.scope.kind = .function
 glob:X.env.globals = mainGlobals
 blt:X.env.builtins = builtinsNs
 above:X.s₀.heap.objs.size ≤ X.env.locals
 inj:∀ x y c,X.env.cells.lookup x = some c → X.env.cells.lookup y = some c → x = y
 has:∀ x,(X.env.kindOf x = some .cell ∨ X.env.kindOf x = some .free) → ∃ c,X.env.cells.lookup x = some c
 cab:∀ x c,X.fn x = true → X.env.cells.lookup x = some c → X.s₀.heap.objs.size ≤ c
 hd:X.calm = true → X.A.handled = none
 frames:X.A.frames = some X.stack
 stk:X.stack = X.outer ∨ (X.stack = X.env :: X.outer ∧ X.env.frame = some X.env.locals)
 exf:∀ b ∈ X.ex,b ≠ X.env.locals ∧ ∀ x c,X.env.cells.lookup x = some c → c ≠ b
 bs:∀ b o,X.base.get? b = some o → X.s₀.heap.get? b = some o ∧ X.H₀ b = none
 bsz:X.base.objs.size ≤ X.s₀.heap.objs.size
 noex:∀ b o,X.base.get? b = some o → b ∉ X.ex
 exfs:∀ b ∈ X.ex,b ∉ X.fs
 funs:X.s₀.heap.FunFrames X.base X.outer
 frf:∀ b ∈ X.fs,X.H₀ b = none
structure Inv (X:Cx) (pins:List (Addr × Obj)) (σ:List (Option V)) (H:Hp) (s:Shared):Prop where
 ok:X.Ok
 os:s.os = X.s₀.os
 bare:AllBare s.gens
 base:Un X.fs X.ex X.H₀ H X.s₀.heap s.heap
 loc:∃ m,s.heap.Ns X.env.locals m ∧ ∀ (i:Nat) (x:Str) (v:V),X.N[i]? = some x → σ[i]? = some (some v) → Vis X.env.scope x → ∃ u,RelV v u ∧ dZR X.env s.heap m x u
 cell:∀ x c,X.env.cells.lookup x = some c → ∃ v,s.heap.IsCell c v
 free:H X.env.locals = none
 freeC:∀ x c,X.env.cells.lookup x = some c → H c = none
 pin:∀ p ∈ X.pn ++ pins,s.heap.get? p.1 = some p.2 ∧ H p.1 = none ∧ p.1 ≠ X.env.locals ∧ p.1 ∉ X.fs ∧ ∀ v,p.2.data ≠ .cell v
 hok:HOk X.prog X.w H s.heap
 len:σ.length = X.N.length
section
variable {X:Cx} {pins:List (Addr × Obj)} {σ:List (Option V)} {H H':Hp} {s:Shared} {h':Heap}
theorem Cx.Ok.nofr (ok:X.Ok) {b:Addr} {o:Obj} (e:X.base.get? b = some o):b ∉ X.fs:=fun hb => by
 have:=(ok.funs.mem hb).1
 rw [e] at this; cases this
theorem Inv.bs (I:Inv X pins σ H s):∀ b o,X.base.get? b = some o → s.heap.get? b = some o ∧ H b = none:=fun b o e =>
 ⟨I.base.keep b o (I.ok.bs b o e).1 (I.ok.bs b o e).2 (I.ok.nofr e) (I.ok.noex b o e),I.base.free b o (I.ok.bs b o e).1 (I.ok.bs b o e).2 (I.ok.noex b o e)⟩
theorem Inv.bk (I:Inv X pins σ H s):∀ b o,X.base.get? b = some o → s.heap.get? b = some o:=fun b o e => (I.bs b o e).1
theorem Inv.mod (I:Inv X pins σ H s):Mod X.K X.mg X.base:=I.ok.mod
theorem Inv.kIn (I:Inv X pins σ H s):X.K.In s.heap:=I.ok.mod.kin.keeps I.bk
theorem Inv.nolimit (I:Inv X pins σ H s):s.heap.NoLimit:=I.ok.mod.nolimit.keeps I.bk
theorem Inv.fr (I:Inv X pins σ H s):∃ m,Fr X.base X.env.locals s.heap m :=
 let ⟨m,hn,_⟩:=I.loc
 ⟨m,hn,I.bk,Bb I.ok.bsz I.ok.above⟩
theorem Inv.lt (I:Inv X pins σ H s):X.env.locals < s.heap.objs.size:=let ⟨_,hn,_⟩:=I.loc; hn.lt
theorem Inv.sz (I:Inv X pins σ H s):X.s₀.heap.objs.size ≤ s.heap.objs.size:=Bb I.ok.above (Nat.le_of_lt I.lt)
theorem Inv.nofs (I:Inv X pins σ H s) {a:Addr} (h:s.heap.objs.size ≤ a):a ∉ X.fs:=fun hb => by
 obtain ⟨_,o,ho,_⟩:=I.ok.funs.mem hb
 exact absurd (Bd (Aq ho) (Bb I.sz h)) (Dk _)
theorem Inv.cne (I:Inv X pins σ H s):∀ x c,X.env.cells.lookup x = some c → c ≠ X.env.locals:=fun x c e z => by
 obtain ⟨v,o,ho,hd⟩:=I.cell x c e
 obtain ⟨m,⟨o',es,ep,ho',hd',_⟩,_⟩:=I.loc
 rw [z,ho'] at ho; cases ho; rw [hd'] at hd; cases hd
theorem Inv.funs (I:Inv X pins σ H s):s.heap.FunFrames X.base X.outer:=by
 have all:∀ (l:List Env),(∀ b ∈ frs l,b ∈ X.fs) → X.s₀.heap.FunFrames X.base l → s.heap.FunFrames X.base l:=by
   intro l
   induction l with
   | nil => intro _ _; trivial
   | cons env r ih =>
     intro hs hl
     obtain ⟨hk,⟨L,o,hf,hn,ho,hd⟩,hr⟩:=hl
     have hL:L ∈ X.fs:=hs L (by unfold frs; rw [Dw,hf]; exact An)
     obtain ⟨sl,e⟩:=I.base.slot L o ho (I.ok.frf L hL) hL fun z => I.ok.exfs L z hL
     exact ⟨hk,⟨L,_,hf,hn,e,hd⟩,ih (fun b hb => hs b (by unfold frs; rw [Dw,hf]; exact Ao _ hb)) hr⟩
 exact all X.outer (fun _ hb => hb) I.ok.funs
theorem Inv.stack (I:Inv X pins σ H s):s.heap.FunFrames X.base X.stack:=by
 rcases I.ok.stk with e | ⟨e,hf⟩
 · rw [e]; exact I.funs
 · rw [e]
   obtain ⟨m,hn,_⟩:=I.loc
   refine .cons (by rw [I.ok.kind]; decide) hf hn ?_ I.funs
   exact Fi (Bb I.ok.bsz I.ok.above)
theorem Inv.stkSub (I:Inv X pins σ H s):∀ b ∈ frs X.stack,b ∈ X.env.locals :: X.fs:=fun b hb => by
 rcases I.ok.stk with e | ⟨e,hf⟩
 · rw [e] at hb; exact Ao _ hb
 · rw [e] at hb
   unfold frs at hb
   rw [Dw,hf] at hb
   exact hb
theorem Inv.stkFree (I:Inv X pins σ H s):∀ b ∈ frs X.stack,H b = none:=fun b hb => by
 rcases Ba.mp (I.stkSub b hb) with e | hb
 · rw [e]; exact I.free
 · obtain ⟨_,o,ho,_⟩:=I.ok.funs.mem hb
   exact I.base.free b o ho (I.ok.frf b hb) fun z => I.ok.exfs b z hb
theorem Inv.step {g':Array GenState} {t':Nat} {d':Drawn} {ch:List Addr} (I:Inv X pins σ H s)
   (hch:∀ b ∈ ch,(b ∈ X.ex ∨ X.s₀.heap.objs.size ≤ b) ∧ b ≠ X.env.locals ∧ (∀ x c,X.env.cells.lookup x = some c → c ≠ b) ∧ ∀ p ∈ X.pn ++ pins,p.1 ≠ b)
   (keep:∀ b o,b ≠ X.env.locals → b ∉ X.fs → b ∉ ch → s.heap.get? b = some o → H b = none → h'.get? b = some o)
   (slot:∀ b o,b ≠ X.env.locals → b ∈ X.fs → b ∉ ch → s.heap.get? b = some o → H b = none → ∃ sl,h'.get? b = some { o with slots:=sl }) (free:∀ b o,b ∉ ch → s.heap.get? b = some o → H b = none → H' b = none)
   (there:∀ b o,b ∉ ch → s.heap.get? b = some o → ∃ o',h'.get? b = some o')
   (tups:∀ b xs,H b = some (.tup xs) → H' b = some (.tup xs)) (frzs:∀ b o u,H b = some (.frz o u) → H' b = some (.frz o u)) (tbls:∀ b ps,H b = some (.tbl ps) → ∃ more,H' b = some (.tbl (ps ++ more)))
   (ns:∀ m,s.heap.Ns X.env.locals m → h'.Ns X.env.locals m) (hok:HOk X.prog X.w H' h') (hg:AllBare g') :
   Inv X pins σ H' { s with heap:=h',gens:=g',drawn:=d',toks:=t' }:=by
 have neL:∀ b o,X.s₀.heap.get? b = some o → b ≠ X.env.locals:=fun b o e => Bj (Bd (Aq e) I.ok.above)
 have neC:∀ b o,X.s₀.heap.get? b = some o → b ∉ X.ex → b ∉ ch:=fun b o e hx hb => by
   rcases (hch b hb).1 with z | z
   · exact hx z
   · exact absurd (Bd (Aq e) z) (Dk _)
 have cellK:∀ x c,X.env.cells.lookup x = some c → ∀ v,s.heap.IsCell c v → h'.IsCell c v:=fun x c e v ⟨o,ho,hd⟩ => by
   have nch:c ∉ ch:=fun z => (hch c z).2.2.1 x c e rfl
   by_cases hc:c ∈ X.fs
   · obtain ⟨sl,q⟩:=slot c o (I.cne x c e) hc nch ho (I.freeC x c e)
     exact ⟨_,q,hd⟩
   · exact ⟨o,keep c o (I.cne x c e) hc nch ho (I.freeC x c e),hd⟩
 refine ⟨I.ok,I.os,hg,⟨fun b o e n hb hx => ?_,fun b o e n hb hx => ?_,fun b o e n hx => ?_,fun b o e hx => ?_,fun b xs e => tups b xs (I.base.tups b xs e),fun b o xs e => frzs b o xs (I.base.frzs b o xs e),fun b ps e => ?_⟩,?_,fun x c e => ?_,?_,fun x c e => ?_,fun p hp => ?_,hok,I.len⟩
 · exact keep b o (neL b o e) hb (neC b o e hx) (I.base.keep b o e n hb hx) (I.base.free b o e n hx)
 · obtain ⟨sl,e1⟩:=I.base.slot b o e n hb hx
   obtain ⟨sl',e2⟩:=slot b _ (neL b o e) hb (neC b o e hx) e1 (I.base.free b o e n hx)
   exact ⟨sl',e2⟩
 · obtain ⟨o',e1⟩:=I.base.there b o e hx
   exact free b o' (neC b o e hx) e1 (I.base.free b o e n hx)
 · obtain ⟨o',e1⟩:=I.base.there b o e hx
   exact there b o' (neC b o e hx) e1
 · obtain ⟨m1,e1⟩:=I.base.tbls b ps e
   obtain ⟨m2,e2⟩:=tbls b _ e1
   exact ⟨m1 ++ m2,by rw [e2,Array.append_assoc]⟩
 · obtain ⟨m,hn,hl⟩:=I.loc
   refine ⟨m,ns m hn,fun i x v e1 e2 e3 => ?_⟩
   obtain ⟨u,r,l⟩:=hl i x v e1 e2 e3
   refine ⟨u,r,?_⟩
   rcases l with l | ⟨k,c,e,z⟩
   · exact .inl l
   · exact .inr ⟨k,c,e,cellK x c e _ z⟩
 · obtain ⟨v,z⟩:=I.cell x c e
   exact ⟨v,cellK x c e v z⟩
 · obtain ⟨m,⟨o,_,_,ho,_⟩,_⟩:=I.loc
   exact free _ o (fun z => (hch _ z).2.1 rfl) ho I.free
 · obtain ⟨v,o,ho,hd⟩:=I.cell x c e
   exact free c o (fun z => (hch c z).2.2.1 x c e rfl) ho (I.freeC x c e)
 · obtain ⟨e,n,ne,nf,d⟩:=I.pin p hp
   have nch:p.1 ∉ ch:=fun z => (hch p.1 z).2.2.2 p hp rfl
   exact ⟨keep p.1 p.2 ne nf nch e n,free p.1 p.2 nch e n,ne,nf,d⟩
theorem Inv.un {t':Nat} (I:Inv X pins σ H s) (u:Un X.fs [] H H' s.heap h') (hok:HOk X.prog X.w H' h'):Inv X pins σ H' { s with heap:=h',toks:=t' }:=by
 obtain ⟨m,⟨o,es,ep,ho,r⟩,_⟩:=id I.loc
 obtain ⟨sl,hL⟩:=u.any ho I.free (by simp)
 exact I.step (g':=s.gens) (d':=s.drawn) (ch:=[]) (fun _ z => nomatch z) (fun b o _ hb _ e n => u.keep b o e n hb (by simp)) (fun b o _ hb _ e n => u.slot b o e n hb (by simp)) (fun b o _ e n => u.free b o e n (by simp)) (fun b o _ e => u.there b o e (by simp)) u.tups u.frzs u.tbls (fun m' hm => by
   obtain ⟨o',es',ep',ho',r'⟩:=hm
   rw [ho] at ho'; cases ho'
   exact ⟨_,es',ep',hL,r'⟩) hok I.bare
theorem Inv.call {g':Array GenState} {t':Nat} {d':Drawn} {ch:List Addr} (I:Inv X pins σ H s) (u:Un (frs X.stack) ch H H' s.heap h') (hok:HOk X.prog X.w H' h') (hg:AllBare g')
   (hch:∀ b ∈ ch,(b ∈ X.ex ∨ X.s₀.heap.objs.size ≤ b) ∧ b ≠ X.env.locals ∧ (∀ x c,X.env.cells.lookup x = some c → c ≠ b) ∧ ∀ p ∈ X.pn ++ pins,p.1 ≠ b) :
   Inv X pins σ H' { s with heap:=h',gens:=g',drawn:=d',toks:=t' }:=by
 obtain ⟨m,⟨o,es,ep,ho,r⟩,_⟩:=id I.loc
 obtain ⟨sl,hL⟩:=u.any ho I.free fun z => (hch _ z).2.1 rfl
 exact I.step (ch:=ch) hch (fun b o hL hb hc e n => u.keep b o e n (fun z => (Ba.mp (I.stkSub b z)).elim hL hb) hc) (fun b o _ _ hc e n => u.any e n hc) (fun b o hc e n => u.free b o e n hc) (fun b o hc e => u.there b o e hc) u.tups u.frzs u.tbls (fun m' hm => by
   obtain ⟨o',es',ep',ho',r'⟩:=hm
   rw [ho] at ho'; cases ho'
   exact ⟨_,es',ep',hL,r'⟩) hok hg
theorem Inv.turned {t':Nat} {it:Addr} (I:Inv X pins σ H s) (k:∀ b o,b ≠ it → s.heap.get? b = some o → h'.get? b = some o) (hn:H it = none) (hL:it ≠ X.env.locals)
   (h1:it ∈ X.ex ∨ X.s₀.heap.objs.size ≤ it) (h2:∀ x c,X.env.cells.lookup x = some c → c ≠ it) (h3:∀ p ∈ X.pn ++ pins,p.1 ≠ it):Inv X pins σ H { s with heap:=h',toks:=t' }:=by
 have nit:∀ b u,H b = some u → b ≠ it:=fun b u e z => by rw [z,hn] at e; cases e
 refine I.step (g':=s.gens) (d':=s.drawn) (ch:=[it]) (fun b hb => ?_) (fun b o _ _ hc e _ => k b o (fun z => hc (by simp [z])) e) (fun b o _ _ hc e _ => ⟨o.slots,k b o (fun z => hc (by simp [z])) e⟩) (fun _ _ _ _ n => n)
   (fun b o hc e => ⟨o,k b o (fun z => hc (by simp [z])) e⟩) (fun _ _ e => e) (fun _ _ _ e => e) (fun b ps e => ⟨#[],by rw [e]; simp⟩) (fun m hm => ?_) (fun b u e => ?_) I.bare
 · have e:b = it:=by simpa using hb
   subst e
   exact ⟨h1,hL,h2,h3⟩
 · obtain ⟨o,es,ep,ho,r⟩:=hm
   exact ⟨o,es,ep,k _ o (Ne.symm hL) ho,r⟩
 · refine (I.hok b u e).stay (fun c v hc q => k c v ?_ q) (fun _ q => q) fun _ _ q => q
   rcases hc with z | z
   · rw [z]; exact nit b u e
   · exact nit c _ z
theorem Inv.tok (I:Inv X pins σ H s) (t:Nat):Inv X pins σ H { s with toks:=t }:=I.un (h':=s.heap) (t':=t) Un.refl I.hok
theorem Inv.kept {t':Nat} (I:Inv X pins σ H s) (k:∀ b u,s.heap.get? b = some u → h'.get? b = some u):Inv X pins σ H { s with heap:=h',toks:=t' }:=I.un (Un.kept k) (I.hok.kept k)
theorem Inv.laid {a:Addr} {o:HO} {t':Nat} (I:Inv X pins σ H s) (k:∀ b u,s.heap.get? b = some u → h'.get? b = some u) (hp:s.heap.objs.size ≤ a) (new:ObjOk X.prog X.w (upd H a o) h' a o) :
   Inv X pins σ (upd H a o) { s with heap:=h',toks:=t' }:=I.un (Un.laid k hp (I.hok.fresh hp)) (I.hok.laid k hp new)
theorem Inv.write {x e:Addr} {o:HO} {t':Nat} (I:Inv X pins σ H s) (mu:Mut (H x)) (he:e = x ∨ H e = some (.own x)) (k:∀ b u,b ≠ e → s.heap.get? b = some u → h'.get? b = some u) (heo:∃ u,h'.get? e = some u)
   (new:ObjOk X.prog X.w (upd H x o) h' x o):Inv X pins σ (upd H x o) { s with heap:=h',toks:=t' }:=I.un (Un.write mu he k heo) (I.hok.write mu he k heo new)
theorem Inv.weak {σ':List (Option V)} (I:Inv X pins σ H s) (hl:σ'.length = σ.length) (w:∀ (i:Nat) v,σ'[i]? = some (some v) → σ[i]? = some (some v)):Inv X pins σ' H s :=
 ⟨I.ok,I.os,I.bare,I.base,let ⟨m,hn,hl'⟩:=I.loc; ⟨m,hn,fun i x v e1 e2 e3 => hl' i x v e1 (w i v e2) e3⟩,I.cell,I.free,I.freeC,I.pin,I.hok,hl.trans I.len⟩
theorem Inv.pins_of {pins':List (Addr × Obj)} (I:Inv X pins σ H s) (h:∀ p ∈ pins',s.heap.get? p.1 = some p.2 ∧ H p.1 = none ∧ p.1 ≠ X.env.locals ∧ p.1 ∉ X.fs ∧ ∀ v,p.2.data ≠ .cell v):Inv X pins' σ H s :=
 ⟨I.ok,I.os,I.bare,I.base,I.loc,I.cell,I.free,I.freeC,fun p hp => (Bi.mp hp).elim (fun z => I.pin p (Bt _ z)) (h p),I.hok,I.len⟩
theorem oX {N:List Str} (hN:N.Nodup) {i j:Nat} {x:Str} (a:N[i]? = some x) (b:N[j]? = some x):i = j:=by
 obtain ⟨h1,e1⟩:=Ad.mp a
 obtain ⟨h2,e2⟩:=Ad.mp b
 exact (Fk hN).mp (e1.trans e2.symm)
theorem rT {M:Model} {A:Around} {E:Value → Shared → Prop} {i:Nat} {x:Str} {v:V} {u:Value} {Q:Unit → Shared → Prop} (I:Inv X pins σ H s) (hN:X.N.Nodup) (hi:X.N[i]? = some x) (hx:Loc X.env.scope x) (r:RelV v u)
   (h:∀ s',Inv X pins (σ.set i (some v)) H s' → (∃ a,Heap.SameBut a s.heap s'.heap ∧ (a = X.env.locals ∨ X.env.cells.lookup x = some a)) → Q () s') (hf:X.fn x = true ∨ X.env.scope.names.lookup x = some .local:=by first | exact .inl rfl | exact .inr rfl | assumption):wpAny M A (storeName X.env x u) Q E s:=by
 obtain ⟨m,hn,hl⟩:=id I.loc
 have hcls:(X.env.scope.kind == .class || (X.env.scope.kind == .module && X.env.locals != X.env.globals)) = false:=by rw [I.ok.kind]; rfl
 have hiσ:i < σ.length:=by rw [I.len]; exact (Ad.mp hi).1
 have cne:=I.cne
 have tracked:∀ {a:Addr} {h':Heap},(∃ o,s.heap.get? a = some o ∧ H a = none) → Heap.SameBut a s.heap h' → HOk X.prog X.w H h':=fun {a h'} ha hs b ob e => by
   obtain ⟨_,_,hfree⟩:=ha
   refine (I.hok b ob e).stay (fun c w' hc q => (hs.2 c ?_).trans q) (fun _ q => q) fun _ _ q => q
   rintro rfl
   rcases hc with rfl | hc
   · rw [hfree] at e; cases e
   · rw [hfree] at hc; cases hc
 rcases hx with hk | hk
 · refine wpAny_storeName_local hk hn (fun h' hn' hs => ?_) hcls
   obtain ⟨oL,_,_,hoL,_⟩:=id hn
   refine h _ ⟨I.ok,I.os,I.bare,⟨fun b o e n hb hx => ?_,fun b o e n hb hx => ?_,I.base.free,fun b o e hx => ?_,I.base.tups,I.base.frzs,I.base.tbls⟩,⟨_,hn',fun j y v' e1 e2 e3 => ?_⟩,fun y c e => ?_,I.free,I.freeC,fun p hp => ?_,tracked ⟨oL,hoL,I.free⟩ hs,by simpa using I.len⟩ ⟨_,hs,.inl rfl⟩
   · exact (hs.2 b (Bj (Bd (Aq e) I.ok.above))).trans (I.base.keep b o e n hb hx)
   · obtain ⟨sl,e1⟩:=I.base.slot b o e n hb hx
     exact ⟨sl,(hs.2 b (Bj (Bd (Aq e) I.ok.above))).trans e1⟩
   · obtain ⟨o',e1⟩:=I.base.there b o e hx
     exact ⟨o',(hs.2 b (Bj (Bd (Aq e) I.ok.above))).trans e1⟩
   · by_cases hj:j = i
     · subst hj
       rw [hi] at e1; cases e1
       rw [Cu hiσ] at e2
       cases e2
       exact ⟨u,r,.inl ⟨hk,by simp⟩⟩
     · rw [Cs (Ne.symm hj)] at e2
       obtain ⟨u',r',q⟩:=hl j y v' e1 e2 e3
       refine ⟨u',r',?_⟩
       rcases q with ⟨k,e⟩ | ⟨k,c,e,z⟩
       · refine .inl ⟨k,?_⟩
         have:y ≠ x:=fun e => hj (oX hN e1 (e ▸ hi))
         simp [this,e]
       · exact .inr ⟨k,c,e,z.sameBut hs (cne y c e)⟩
   · obtain ⟨w',z⟩:=I.cell y c e
     exact ⟨w',z.sameBut hs (cne y c e)⟩
   · obtain ⟨e,n,ne,nf,d⟩:=I.pin p hp
     exact ⟨(hs.2 p.1 ne).trans e,n,ne,nf,d⟩
 · have hfn:X.fn x = true:=by
     rcases hf with z | z
     · exact z
     · rw [z] at hk; cases hk
   obtain ⟨c,hc⟩:=I.ok.has x (.inl hk)
   obtain ⟨w',z⟩:=I.cell x c hc
   refine wpAny_storeName_cell I.ok.kind hk hc z (fun h' hc' hs => ?_)
   obtain ⟨oc,hoc,hocd⟩:=id z
   refine h { s with heap:=h' } ⟨I.ok,I.os,I.bare,⟨fun b o e n hb hx => ?_,fun b o e n hb hx => ?_,I.base.free,fun b o e hx => ?_,I.base.tups,I.base.frzs,I.base.tbls⟩,⟨m,hn.sameBut hs (Ne.symm (cne x c hc)),fun j y v' e1 e2 e3 => ?_⟩,fun y c' e => ?_,I.free,I.freeC,fun p hp => ?_,tracked ⟨oc,hoc,I.freeC x c hc⟩ hs,by simpa using I.len⟩ ⟨c,hs,.inr hc⟩
   · exact (hs.2 b (Bj (Bd (Aq e) (I.ok.cab x c hfn hc)))).trans (I.base.keep b o e n hb hx)
   · obtain ⟨sl,e1⟩:=I.base.slot b o e n hb hx
     exact ⟨sl,(hs.2 b (Bj (Bd (Aq e) (I.ok.cab x c hfn hc)))).trans e1⟩
   · obtain ⟨o',e1⟩:=I.base.there b o e hx
     exact ⟨o',(hs.2 b (Bj (Bd (Aq e) (I.ok.cab x c hfn hc)))).trans e1⟩
   · by_cases hj:j = i
     · subst hj
       rw [hi] at e1; cases e1
       rw [Cu hiσ] at e2
       cases e2
       exact ⟨u,r,.inr ⟨.inl hk,c,hc,hc'⟩⟩
     · rw [Cs (Ne.symm hj)] at e2
       obtain ⟨u',r',q⟩:=hl j y v' e1 e2 e3
       refine ⟨u',r',?_⟩
       rcases q with q | ⟨k,c',e,z'⟩
       · exact .inl q
       · refine .inr ⟨k,c',e,z'.sameBut hs ?_⟩
         rintro rfl
         exact hj (oX hN e1 (I.ok.inj _ _ _ e hc ▸ hi))
   · by_cases hcc:c' = c
     · subst hcc; exact ⟨_,hc'⟩
     · obtain ⟨w2,z2⟩:=I.cell y c' e
       exact ⟨w2,z2.sameBut hs hcc⟩
   · obtain ⟨e,n,ne,nf,d⟩:=I.pin p hp
     refine ⟨(hs.2 p.1 ?_).trans e,n,ne,nf,d⟩
     intro q
     rw [q,hoc] at e
     have q':oc = p.2:=Bs e
     exact d w' (by rw [← q']; exact hocd)
theorem oK {M:Model} {A:Around} {E:Value → Shared → Prop} {i:Nat} {x:Str} {v:V} {u:Value} {Q:Unit → Shared → Prop} (I:Inv X pins σ H s) (hN:X.N.Nodup) (hi:X.N[i]? = some x) (hx:Loc X.env.scope x) (r:RelV v u)
   (h:∀ s',Inv X pins (σ.set i (some v)) H s' → Q () s') (hf:X.fn x = true ∨ X.env.scope.names.lookup x = some .local:=by first | exact .inl rfl | exact .inr rfl | assumption):wpAny M A (storeName X.env x u) Q E s :=
 rT I hN hi hx r (fun s' I' _ => h s' I') hf
theorem Inv.call' {s':Shared} {ch:List Addr} (I:Inv X pins σ H s) (ho:s'.os = s.os) (u:Un (frs X.stack) ch H H' s.heap s'.heap) (hok:HOk X.prog X.w H' s'.heap) (hg:AllBare s'.gens)
   (hch:∀ b ∈ ch,(b ∈ X.ex ∨ X.s₀.heap.objs.size ≤ b) ∧ b ≠ X.env.locals ∧ (∀ x c,X.env.cells.lookup x = some c → c ≠ b) ∧ ∀ p ∈ X.pn ++ pins,p.1 ≠ b):Inv X pins σ H' s':=by
 obtain ⟨h',g',d',t',o'⟩:=s'
 have e:o' = s.os:=ho
 subst e
 exact I.call (g':=g') (t':=t') (d':=d') u hok hg hch
end
abbrev XK:=Value → Option Addr → Hp → Prop
abbrev St:=List (Option V)
abbrev VK:=V → Hp → Prop
abbrev TE:=St → Hp → VK → Prop
abbrev TT:=St → Hp → (Bool → Hp → Prop) → Prop
abbrev TA:=St → Hp → (List V → Hp → Prop) → Prop
structure Ends where
 nx:St → Hp → Prop
 rt:VK
 bk:St → Hp → Prop:=fun _ _ => False
 ct:St → Hp → Prop:=fun _ _ => False
abbrev TS:=Ends → St → Hp → Prop
def EP (X:Cx) (pins:List (Addr × Obj)) (σ:St) (Q:VK) (u:Value) (s':Shared):Prop:=∃ v H',Inv X pins σ H' s' ∧ RelV v u ∧ Q v H'
def TP (X:Cx) (pins:List (Addr × Obj)) (σ:St) (Q:Bool → Hp → Prop) (b:Bool) (s':Shared):Prop:=∃ H',Inv X pins σ H' s' ∧ Q b H'
def AP (X:Cx) (pins:List (Addr × Obj)) (σ:St) (Q:List V → Hp → Prop) (us:List Value) (s':Shared):Prop:=∃ vs H',Inv X pins σ H' s' ∧ Vals vs us ∧ Q vs H'
def SP (X:Cx) (pins:List (Addr × Obj)) (D:Ends) (f:Flow) (s':Shared):Prop :=
 match f with
 | .next => ∃ σ' H',Inv X pins σ' H' s' ∧ D.nx σ' H'
 | .brk => ∃ σ' H',Inv X pins σ' H' s' ∧ D.bk σ' H'
 | .cont => ∃ σ' H',Inv X pins σ' H' s' ∧ D.ct σ' H'
 | .ret u => ∃ v σ' H',Inv X pins σ' H' s' ∧ RelV v u ∧ D.rt v H'
def PE (X:Cx) (e:Expr) (t:TE):Prop :=
 ∀ (pins:List (Addr × Obj)) (s:Shared) (σ:St) (H:Hp) (Q:VK),Inv X pins σ H s → t σ H Q → wpAny (model X.prog X.w) X.A (eval e X.env) (EP X pins σ Q) X.xe s
def PT (X:Cx) (e:Expr) (t:TT):Prop :=
 ∀ (pins:List (Addr × Obj)) (s:Shared) (σ:St) (H:Hp) (Q:Bool → Hp → Prop),Inv X pins σ H s → t σ H Q → wpAny (model X.prog X.w) X.A (isTrue e X.env (eval e X.env)) (TP X pins σ Q) X.xe s
def PW (X:Cx) (e:Expr) (t:TT):Prop :=
 ∀ (whole:Sem Value) (pins:List (Addr × Obj)) (s:Shared) (σ:St) (H:Hp) (Q:Bool → Hp → Prop),Inv X pins σ H s → t σ H Q → wpAny (model X.prog X.w) X.A (isTrue e X.env whole) (TP X pins σ Q) X.xe s
theorem PW.pt {X:Cx} {e:Expr} {t:TT} (h:PW X e t):PT X e t:=h _
def PA (X:Cx) (es:List Expr) (t:TA):Prop :=
 ∀ (pos:Pos) (pins:List (Addr × Obj)) (s:Shared) (σ:St) (H:Hp) (Q:List V → Hp → Prop),Inv X pins σ H s → t σ H Q → wpAny (model X.prog X.w) X.A (spliced (backTo pos (starEach es X.env))) (AP X pins σ Q) X.xe s
def PS (X:Cx) (st:Stmt) (t:TS):Prop :=
 ∀ (pins:List (Addr × Obj)) (s:Shared) (σ:St) (H:Hp) (D:Ends),Inv X pins σ H s → t D σ H → wpAny (model X.prog X.w) X.A (exec st X.env) (SP X pins D) X.xe s
def PSs (X:Cx) (st:List Stmt) (t:TS):Prop :=
 ∀ (pins:List (Addr × Obj)) (s:Shared) (σ:St) (H:Hp) (D:Ends),Inv X pins σ H s → t D σ H → wpAny (model X.prog X.w) X.A (execs st X.env) (SP X pins D) X.xe s
theorem thn {α:Type} {t:Sem α} {Q Q':α → Shared → Prop} {M:Model} {A:Around} {E:Value → Shared → Prop} {s:Shared} (h:wpAny M A t Q E s) (hQ:∀ a s,Q a s → Q' a s):wpAny M A t Q' E s:=Cf h hQ fun _ _ x => x
end L2
namespace L2
open PySem PySem.Spec PyProof.Rows
section
variable {X:Cx}
theorem bin {a b:Expr} {ta tb:TE} (ha:PE X a ta) (hb:PE X b tb) {pins:List (Addr × Obj)} {s:Shared} {σ:St} {H:Hp} {R:V → V → Hp → Prop} (I:Inv X pins σ H s) (h:ta σ H fun x H1 => tb σ H1 fun y H2 => R x y H2)
   {α:Type} {Q:α → Shared → Prop} {f:Value → Value → Sem α}
   (hf:∀ v u s2 x y H2,Inv X pins σ H2 s2 → RelV x v → RelV y u → R x y H2 → wpAny (model X.prog X.w) X.A (f v u) Q X.xe s2) :
   wpAny (model X.prog X.w) X.A (eval a X.env) (fun v s₁ => wpAny (model X.prog X.w) X.A (eval b X.env) (fun u s₂ => wpAny (model X.prog X.w) X.A (f v u) Q X.xe s₂) X.xe s₁) X.xe s:=by
 refine thn (ha pins s σ H _ I h) fun v s1 ⟨x,H1,I1,r1,q1⟩ => ?_
 refine thn (hb pins s1 σ H1 _ I1 q1) fun u s2 ⟨y,H2,I2,r2,q2⟩ => ?_
 exact hf v u s2 x y H2 I2 r1 r2 q2
def dXA (i:Nat):TE:=fun σ H Q => ∃ v,σ[i]? = some (some v) ∧ Q v H
def tC (v:V):TE:=fun _ H Q => Q v H
theorem cZ1 {i:Nat} {x:Str} {pos:Pos} (hN:X.N[i]? = some x) (hv:Vis X.env.scope x) (hd:(x == ("__debug__" : Str)) = false:=by decide) (hcd:(x == ("__classdict__" : Str)) = false:=by decide):PE X (.Name x pos) (dXA i):=by
 intro pins s σ H Q I h
 obtain ⟨v,e,h⟩:=h
 obtain ⟨m,hn,hl⟩:=I.loc
 obtain ⟨u,r,l⟩:=hl i x v hN e hv
 have fin:EP X pins σ Q u s:=⟨v,H,I,r,h⟩
 rcases l with ⟨hk,hm⟩ | ⟨hk,c,hc,hcell⟩
 · exact wpAny_Name (wpAny_loadName_local I.ok.kind hk hn hm fin) hd
 · rcases hk with hk | hk
   · exact wpAny_Name (wpAny_loadName_cell I.ok.kind hk hc hcell fin) hd
   · exact wpAny_Name (wpAny_loadName_free I.ok.kind hk hc hcell fin hcd) hd
theorem aL {i j pos}:PE X (.Constant (.int i) j pos) (tC (.int i)):=fun _ _ _ H _ I h => wpAny_Constant_int ⟨.int i,H,I.tok _,⟨_,rfl⟩,h⟩
theorem gS {b j pos}:PE X (.Constant (.bool b) j pos) (tC (.bl b)):=fun _ _ _ H _ I h => Constant_bool ⟨.bl b,H,I,rfl,h⟩
theorem dA {j pos}:PE X (.Constant .none j pos) (tC .non):=fun _ _ _ H _ I h => Constant_none ⟨.non,H,I,rfl,h⟩
theorem bM {x j pos}:PE X (.Constant (.str x) j pos) (tC (.str x)):=fun _ _ _ H _ I h => Calls.Constant_str ⟨.str x,H,I.tok _,⟨_,rfl⟩,h⟩
def Gl (X:Cx) (x:Str):Prop:=X.env.kindOf x = some .globalImplicit
theorem iA {E:Value → Shared → Prop} {pins:List (Addr × Obj)} {s:Shared} {σ:St} {H:Hp} {x:Str} {u:Value} {pos:Pos} {Q:Value → Shared → Prop} (I:Inv X pins σ H s) (hg:Gl X x) (hm:X.mg x = some u) (h:Q u s)
   (hd:(x == ("__debug__" : Str)) = false:=by decide):wpAny (model X.prog X.w) X.A (eval (.Name x pos) X.env) Q E s :=
 Calls.Name_function_global I.ok.kind hg (Calls.loadGlobal_global (by rw [I.ok.glob]; exact I.mod.glob.keeps I.bk) hm h) hd
theorem lC {E:Value → Shared → Prop} {pins:List (Addr × Obj)} {s:Shared} {σ:St} {H:Hp} {x:Str} {u:Value} {pos:Pos} {Q:Value → Shared → Prop} (I:Inv X pins σ H s) (hg:Gl X x) (hm:X.mg x = none) (hv:bootBuiltins x = some u) (h:Q u s)
   (hn:x ≠ "__name__" := by decide) (hd:(x == ("__debug__" : Str)) = false:=by decide):wpAny (model X.prog X.w) X.A (eval (.Name x pos) X.env) Q E s:=by
 obtain ⟨mb,h1,h2⟩:=I.mod.blt
 exact Calls.Name_function_global I.ok.kind hg (Calls.loadGlobal_builtin (by rw [I.ok.glob]; exact I.mod.glob.keeps I.bk) hm (by rw [I.ok.blt]; exact h1.keeps I.bk) ((h2 x hn).trans hv) h) hd
theorem aQK {x:Str} {v:V} {u:Value} {pos:Pos} (hg:Gl X x) (hm:X.mg x = some u) (r:RelV v u) (hd:(x == ("__debug__" : Str)) = false:=by decide):PE X (.Name x pos) (tC v) :=
 fun _ _ _ H _ I h => iA I hg hm ⟨v,H,I,r,h⟩ hd
variable {a b:Expr} {ta tb:TE} {pos:Pos}
variable {tA tB':TT} {rest:List Expr}
def dX2 (t u:TT):TT:=fun σ H Q => t σ H fun c H1 => if c = true then u σ H1 Q else Q false H1
def tOr (t u:TT):TT:=fun σ H Q => t σ H fun c H1 => if c = true then Q true H1 else u σ H1 Q
def dQ7 (t:TT):TT:=fun σ H Q => t σ H fun c H1 => Q (!c) H1
theorem tR (ha:PT X a tA):PW X (.BoolOp .And [a] pos) tA:=by
 intro wh pins s σ H Q I h
 refine isTrue_and (thn (ha pins s σ H Q I h) fun c s1 e => ?_)
 cases c with
 | true => exact isTrue_and_nil e
 | false => exact e
theorem pI (ha:PT X a tA):PW X (.BoolOp .Or [a] pos) tA:=by
 intro wh pins s σ H Q I h
 refine isTrue_or (thn (ha pins s σ H Q I h) fun c s1 e => ?_)
 cases c with
 | false => exact isTrue_or_nil e
 | true => exact e
theorem yZ (ha:PT X a tA) (hb:PW X (.BoolOp .And (b :: rest) pos) tB'):PW X (.BoolOp .And (a :: b :: rest) pos) (dX2 tA tB'):=by
 intro wh pins s σ H Q I h
 refine isTrue_and (thn (ha pins s σ H _ I h) fun c s1 ⟨H1,I1,q1⟩ => ?_)
 cases c with
 | true => exact hb wh pins s1 σ H1 Q I1 q1
 | false => exact ⟨H1,I1,q1⟩
theorem qQ (ha:PT X a tA) (hb:PW X (.BoolOp .Or (b :: rest) pos) tB'):PW X (.BoolOp .Or (a :: b :: rest) pos) (tOr tA tB'):=by
 intro wh pins s σ H Q I h
 refine isTrue_or (thn (ha pins s σ H _ I h) fun c s1 ⟨H1,I1,q1⟩ => ?_)
 cases c with
 | true => exact ⟨H1,I1,q1⟩
 | false => exact hb wh pins s1 σ H1 Q I1 q1
theorem uC (ha:PT X a tA):PT X (.UnaryOp .Not a pos) (dQ7 tA):=by
 intro pins s σ H Q I h
 exact isTrue_not (ha pins s σ H (fun c H1 => Q (!c) H1) I h)
theorem aJ8 {op} {t:TE} (h:PE X a t):PE X (.BoolOp op [a] pos) t:=fun pins s σ H Q I hw => BoolOp_one (h pins s σ H Q I hw)
def tIf (t:TT) (ta tb:TE):TE:=fun σ H Q => t σ H fun c H1 => if c = true then ta σ H1 Q else tb σ H1 Q
theorem bXX {c:Expr} (hc:PT X c tA) (ha:PE X a ta) (hb:PE X b tb):PE X (.IfExp c a b pos) (tIf tA ta tb):=by
 intro pins s σ H Q I h
 refine wpAny_IfExp (thn (hc pins s σ H _ I h) fun d s1 ⟨H1,I1,q1⟩ => ?_)
 cases d with
 | true => exact ha pins s1 σ H1 Q I1 q1
 | false => exact hb pins s1 σ H1 Q I1 q1
end
end L2
namespace L2
open PySem PySem.Spec PyProof.Rows
def SqL (K:PySem.W.Frag) (H:Hp) (a:Addr) (xs:List V):Prop :=
 Rd H a (.lst xs) ∨
   ∃ (o:Obj) (its:Array Value) (n:Nat),K.lookup a = some o ∧ o.cls = .type "list" ∧ o.dict = none ∧ o.data = .seq its n ∧ its.size ≤ sizeLine ∧ Vals xs its.toList
def SqT (K:PySem.W.Frag) (H:Hp) (a:Addr) (xs:List V):Prop :=
 Rd H a (.tup xs) ∨
   ∃ (o:Obj) (its:Array Value) (n:Nat),K.lookup a = some o ∧ o.cls = .type "tuple" ∧ o.data = .seq its n ∧ its.size ≤ sizeLine ∧ Vals xs its.toList
def dZS:Value → Option V
 | .none => some .non
 | .bool b => some (.bl b)
 | .int i _ => some (.int i)
 | .str x _ => some (.str x)
 | .bytes b _ => some (.byt b)
 | .float b _ => some (.flt b)
 | .ref a => some (.ref a)
 | .type n => some (.ty n)
 | _ => none
theorem RelV.abs {x:V} {u:Value} (r:RelV x u):dZS u = some x:=by
 cases x with
 | non => cases r; rfl
 | bl _ => cases r; rfl
 | int _ => obtain ⟨t,rfl⟩:=r; rfl
 | str _ => obtain ⟨t,rfl⟩:=r; rfl
 | byt _ => obtain ⟨t,rfl⟩:=r; rfl
 | flt _ => obtain ⟨t,rfl⟩:=r; rfl
 | ref _ => cases r; rfl
 | ty _ => cases r; rfl
theorem RelV.inj {x y:V} {u:Value} (r:RelV x u) (q:RelV y u):x = y:=Bs (r.abs.symm.trans q.abs)
theorem Vals.inj:∀ {xs ys:List V} {us:List Value},Vals xs us → Vals ys us → xs = ys
 | _,_,_,.nil,.nil => rfl
 | _,_,_,.cons r t,.cons r' t' => by rw [r.inj r',Vals.inj t t']
section
variable {X:Cx} {pins:List (Addr × Obj)} {σ:St} {H:Hp} {s:Shared} {a:Addr} {xs ys:List V}
theorem SqL.of {K:PySem.W.Frag} (h:H a = some (.lst xs)):SqL K H a xs:=.inl (.inl h)
theorem SqT.of {K:PySem.W.Frag} (h:H a = some (.tup xs)):SqT K H a xs:=.inl (.inl h)
theorem Inv.list (I:Inv X pins σ H s) (h:SqL X.K H a xs):∃ its:List Value,Vals xs its ∧ PlainL s.heap a its.toArray ∧ xs.length ≤ sizeLine:=by
 rcases h with h | ⟨o,its,n,hk,hc,hd,hs,hz,r⟩
 · obtain ⟨z,its,n,r,e⟩:=h.ok I.hok
   exact ⟨its,r,⟨_,n,e,rfl,rfl,rfl⟩,z⟩
 · refine ⟨its.toList,r,⟨o,n,I.kIn a o hk,hc,hd,by simpa using hs⟩,?_⟩
   have e:=r.length
   simp only [Array.length_toList] at e
   omega
theorem Inv.tuple (I:Inv X pins σ H s) (h:SqT X.K H a xs):∃ its:List Value,Vals xs its ∧ IsTup s.heap a its.toArray ∧ xs.length ≤ sizeLine:=by
 rcases h with h | ⟨o,its,n,hk,hc,hs,hz,r⟩
 · obtain ⟨z,its,r,p⟩:=h.ok I.hok
   exact ⟨its,r,p,z⟩
 · refine ⟨its.toList,r,⟨o,I.kIn a o hk,hc,n,by simpa using hs⟩,?_⟩
   have e:=r.length
   simp only [Array.length_toList] at e
   omega
theorem Inv.list_inj (I:Inv X pins σ H s) (h:SqL X.K H a xs) (h':SqL X.K H a ys):xs = ys:=by
 obtain ⟨its,r,⟨o,n,e,_,_,d⟩,_⟩:=I.list h
 obtain ⟨its',r',⟨o',n',e',_,_,d'⟩,_⟩:=I.list h'
 rw [e] at e'; cases e'
 rw [d] at d'
 injection d' with d1 _
 have:its = its':=by simpa using congrArg Array.toList d1
 subst this
 exact r.inj r'
end
abbrev Cx.wish (X:Cx) (E:Value → Shared → Prop):Cx:={ X with xe:=E }
abbrev Cx.nox (X:Cx):Cx:=X.wish fun _ _ => False
theorem Cx.Ok.wish {X:Cx} (ok:X.Ok) (E:Value → Shared → Prop):(X.wish E).Ok :=
 ⟨ok.mod,ok.kind,ok.glob,ok.blt,ok.above,ok.inj,ok.has,ok.cab,ok.hd,ok.frames,ok.stk,ok.exf,ok.bs,ok.bsz,ok.noex,ok.exfs,ok.funs,ok.frf⟩
theorem Cx.Ok.unwish {X:Cx} {E:Value → Shared → Prop} (ok:(X.wish E).Ok):X.Ok :=
 ⟨ok.mod,ok.kind,ok.glob,ok.blt,ok.above,ok.inj,ok.has,ok.cab,ok.hd,ok.frames,ok.stk,ok.exf,ok.bs,ok.bsz,ok.noex,ok.exfs,ok.funs,ok.frf⟩
section
variable {X:Cx} {pins:List (Addr × Obj)} {σ:St} {H:Hp} {s:Shared} {E:Value → Shared → Prop}
theorem Inv.wish (I:Inv X pins σ H s) (E:Value → Shared → Prop):Inv (X.wish E) pins σ H s:=⟨I.ok.wish E,I.os,I.bare,I.base,I.loc,I.cell,I.free,I.freeC,I.pin,I.hok,I.len⟩
theorem Inv.unwish (I:Inv (X.wish E) pins σ H s):Inv X pins σ H s:=⟨I.ok.unwish,I.os,I.bare,I.base,I.loc,I.cell,I.free,I.freeC,I.pin,I.hok,I.len⟩
theorem SP.unwish {D:Ends} {f:Flow} {s':Shared} (h:SP (X.wish E) pins D f s'):SP X pins D f s':=by
 cases f with
 | next => obtain ⟨σ',H',I,q⟩:=h; exact ⟨σ',H',I.unwish,q⟩
 | brk => obtain ⟨σ',H',I,q⟩:=h; exact ⟨σ',H',I.unwish,q⟩
 | cont => obtain ⟨σ',H',I,q⟩:=h; exact ⟨σ',H',I.unwish,q⟩
 | ret u => obtain ⟨v,σ',H',I,r,q⟩:=h; exact ⟨v,σ',H',I.unwish,r,q⟩
theorem PE.nox {e:Expr} {t:TE} (h:PE X.nox e t):PE X e t:=fun pins s σ H Q I hw =>
 Cf (h pins s σ H Q (I.wish _) hw) (fun _ _ ⟨v,H',I',r,q⟩ => ⟨v,H',I'.unwish,r,q⟩) fun _ _ z => False.elim z
theorem PT.nox {e:Expr} {t:TT} (h:PT X.nox e t):PT X e t:=fun pins s σ H Q I hw =>
 Cf (h pins s σ H Q (I.wish _) hw) (fun _ _ ⟨H',I',q⟩ => ⟨H',I'.unwish,q⟩) fun _ _ z => False.elim z
theorem PSs.nox {st:List Stmt} {t:TS} (h:PSs X.nox st t):PSs X st t:=fun pins s σ H D I hw =>
 Cf (h pins s σ H D (I.wish _) hw) (fun _ _ q => q.unwish) fun _ _ z => False.elim z
end
section
variable {X:Cx} {st:Stmt} {rest:List Stmt} {t u:TS} {e:Expr} {te:TE} {pos:Pos}
def cQW:TS:=fun D σ H => D.nx σ H
def cJQ (t u:TS):TS:=fun D σ H => t { D with nx:=u D } σ H
theorem bO:PSs X [] cQW:=fun _ _ σ H _ I h => wpAny_execs_nil ⟨σ,H,I,h⟩
theorem aD (h1:PS X st t) (h2:PSs X rest u):PSs X (st :: rest) (cJQ t u):=by
 intro pins s σ H D I h
 refine wpAny_execs_cons (thn (h1 pins s σ H { D with nx:=u D } I h) fun f s1 q => ?_)
 cases f with
 | next =>
   obtain ⟨σ',H',I',q⟩:=q
   exact h2 pins s1 σ' H' D I' q
 | ret v => exact q
 | brk => exact q
 | cont => exact q
theorem aH (h1:PS X st t):PSs X [st] t:=by
 intro pins s σ H D I h
 refine wpAny_execs_cons (thn (h1 pins s σ H D I h) fun f s1 q => ?_)
 cases f with
 | next => exact wpAny_execs_nil q
 | ret v => exact q
 | brk => exact q
 | cont => exact q
theorem Inv.quiet {pins:List (Addr × Obj)} {σ:St} {H:Hp} {s:Shared} (I:Inv X pins σ H s):interactive X.env = false:=by simp [interactive,I.ok.kind]
def cQT (te:TE):TS:=fun D σ H => te σ H fun _ H1 => D.nx σ H1
theorem dD (he:PE X e te) (hs:swapsWith e none pos.line X.env = pure false:=by rfl):PS X (.Expr e pos) (cQT te):=by
 intro pins s σ H D I h
 exact wpAny_Expr_any (thn (he pins s σ H _ I h) fun v s1 ⟨x,H1,I1,r1,q1⟩ => ⟨σ,H1,I1,q1⟩) I.quiet hs
def dZJ (te:TE):TS:=fun D σ H => te σ H D.rt
theorem aT (he:PE X e te):PS X (.Return (some e) pos) (dZJ te):=by
 intro pins s σ H D I h
 exact wpAny_Return_some (thn (he pins s σ H _ I h) fun v s1 ⟨x,H1,I1,r1,q1⟩ => ⟨x,σ,H1,I1,r1,q1⟩)
def dXE (c:TT) (t u:TS):TS:=fun D σ H => c σ H fun b H1 => if b = true then t D σ H1 else u D σ H1
theorem cS {c:Expr} {a b:List Stmt} {tc:TT} (hc:PT X c tc) (ha:PSs X a t) (hb:PSs X b u):PS X (.If c a b pos) (dXE tc t u):=by
 intro pins s σ H D I h
 refine wpAny_If (thn (hc pins s σ H _ I h) fun d s1 ⟨H1,I1,q1⟩ => ?_)
 cases d with
 | true => exact ha pins s1 σ H1 D I1 q1
 | false => exact hb pins s1 σ H1 D I1 q1
end
abbrev TG:=V → St → Hp → (St → Hp → Prop) → Prop
abbrev TGs:=List V → St → Hp → (St → Hp → Prop) → Prop
def PG (X:Cx) (target:Expr) (t:TG):Prop :=
 ∀ (pins:List (Addr × Obj)) (s:Shared) (σ:St) (H:Hp) (v:V) (u:Value) (Q:St → Hp → Prop),Inv X pins σ H s → RelV v u → t v σ H Q →
   wpAny (model X.prog X.w) X.A (assign target X.env u) (fun _ s' => ∃ σ' H',Inv X pins σ' H' s' ∧ Q σ' H') X.xe s
def PGs (X:Cx) (ts:List Expr) (t:TGs):Prop :=
 ∀ (pins:List (Addr × Obj)) (s:Shared) (σ:St) (H:Hp) (vs:List V) (us:List Value) (Q:St → Hp → Prop),Inv X pins σ H s → Vals vs us → t vs σ H Q →
   wpAny (model X.prog X.w) X.A (assignInOrder ((assignEach ts X.env).map (·.2)) us) (fun _ s' => ∃ σ' H',Inv X pins σ' H' s' ∧ Q σ' H') X.xe s
abbrev bZY:=V → V → V → Hp → (Hp → Prop) → Prop
def dQQ (X:Cx) (t:bZY):Prop :=
 ∀ (pins:List (Addr × Obj)) (s:Shared) (σ:St) (H:Hp) (o i v:V) (ov iv u:Value) (Q:Hp → Prop),Inv X pins σ H s → RelV o ov → RelV i iv → RelV v u → t o i v H Q →
   wpAny (model X.prog X.w) X.A (setItem ov iv u) (fun _ s' => ∃ H',Inv X pins σ H' s' ∧ Q H') X.xe s
section
variable {X:Cx} {pos:Pos}
def pS (i:Nat):TG:=fun v σ H Q => Q (σ.set i (some v)) H
theorem aV {i:Nat} {x:Str} (hN:X.N.Nodup) (hi:X.N[i]? = some x) (hx:Loc X.env.scope x) (hf:X.fn x = true ∨ X.env.scope.names.lookup x = some .local:=by first | exact .inl rfl | exact .inr rfl | assumption):PG X (.Name x pos) (pS i):=by
 intro pins s σ H v u Q I r h
 exact wpAny_assign_Name (oK I hN hi hx r (fun s' I' => ⟨_,H,I',h⟩) hf)
def cJB:TGs:=fun vs σ H Q => vs = [] ∧ Q σ H
def aQ3 (t:TG) (u:TGs):TGs:=fun vs σ H Q => ∃ v r,vs = v :: r ∧ t v σ H fun σ' H' => u r σ' H' Q
theorem bJ8:PGs X [] cJB:=by
 intro pins s σ H vs us Q I r h
 obtain ⟨e,h⟩:=h
 subst e
 cases r
 exact assignInOrder_nil ⟨σ,H,I,h⟩
theorem vF {e:Expr} {es:List Expr} {t:TG} {u:TGs} (h1:PG X e t) (h2:PGs X es u)
   (hs:(assignEach (e :: es) X.env).map (·.2) = assign e X.env :: (assignEach es X.env).map (·.2):=by rfl):PGs X (e :: es) (aQ3 t u):=by
 intro pins s σ H vs us Q I r h
 obtain ⟨v,vr,e1,h⟩:=h
 subst e1
 cases r with
 | cons r rr =>
   rw [hs]
   refine assignInOrder_cons (thn (h1 pins s σ H _ _ _ I r h) fun _ s1 ⟨σ1,H1,I1,q1⟩ => ?_)
   exact h2 pins s1 σ1 H1 _ _ Q I1 rr q1
def cXR (K:PySem.W.Frag) (n:Nat) (t:TGs):TG:=fun v σ H Q => ∃ a xs,v = .ref a ∧ SqT K H a xs ∧ xs.length = n ∧ t xs σ H Q
theorem cZU {es:List Expr} {k:Nat} {t:TGs} {n:Nat} (hc:X.calm = true) (h:PGs X es t)
   (hn:(assignEach es X.env).length = n:=by rfl) (hst:(assignEach es X.env).findIdx? (·.1) = none:=by rfl):PG X (.Tuple es k pos) (cXR X.K n t):=by
 intro pins s σ H v u Q I r hw
 obtain ⟨a,xs,e1,hq,hl,hw⟩:=hw
 subst e1
 cases r
 obtain ⟨its,rv,ht,hz⟩:=I.tuple hq
 refine assign_Tuple_tuple (I.ok.hd hc) ht (by simp [hn,← hl,rv.length]) hst fun h' hx => ?_
 have I1:Inv X pins σ H { s with heap:=h' }:=I.kept (t':=s.toks) fun b o e => hx b o (Bj (Aq e)) e
 exact h pins _ σ H xs _ Q I1 (by simpa using rv) hw
def dX4 (to ti:TE) (t:bZY):TG:=fun v σ H Q => to σ H fun o H1 => ti σ H1 fun i H2 => t o i v H2 fun H3 => Q σ H3
theorem tH {o i:Expr} {to ti:TE} {t:bZY} (ho:PE X o to) (hi:PE X i ti) (hs:dQQ X t)
   (ha:∀ v,assign (.Subscript o i pos) X.env v = (do
     let ov ← holding [v] (eval o X.env)
     let iv ← holding [v,ov] (eval i X.env)
     standAt pos
     holding [v,ov,iv] (setItem ov iv v)
     release [v,ov,iv] []):=by intro _; rfl):PG X (.Subscript o i pos) (dX4 to ti t):=by
 intro pins s σ H v u Q I r h
 rw [ha]
 refine Ae (Cy (thn (ho pins s σ H _ I h) fun ov s1 ⟨x,H1,I1,r1,q1⟩ => ?_))
 refine Ae (Cy (thn (hi pins s1 σ H1 _ I1 q1) fun iv s2 ⟨y,H2,I2,r2,q2⟩ => ?_))
 refine Ae (Fb (Ae (Cy (thn (hs pins s2 σ H2 x y v ov iv u _ I2 r1 r2 r q2) fun _ s3 ⟨H3,I3,q3⟩ => ?_))))
 exact wpAny_release ⟨σ,H3,I3,q3⟩
def bZW (te:TE) (g:TG):TS:=fun D σ H => te σ H fun x H1 => g x σ H1 D.nx
theorem sU {tg e:Expr} {te:TE} {g:TG} (he:PE X e te) (hg:PG X tg g) (hs:swapsWithSole [tg] e pos.line X.env = pure false:=by rfl) (hw:swappedStores [tg] e X.env = pure none:=by rfl)
   (h1:(assignEach [tg] X.env).map (·.2) = [assign tg X.env]:=by rfl):PS X (.Assign [tg] e pos) (bZW te g):=by
 intro pins s σ H D I h
 refine wpAny_Assign_stores (thn (he pins s σ H _ I h) fun v s1 ⟨x,H1,I1,r1,q1⟩ => ?_) hs hw
 rw [h1]
 exact thn (hg pins s1 σ H1 x v _ I1 r1 q1) fun _ s2 q => q
theorem aP {i:Nat} {x:Str} {e:Expr} {te:TE} {pos':Pos} (hN:X.N.Nodup) (hi:X.N[i]? = some x) (hx:Loc X.env.scope x) (he:PE X e te) (hs:swapsWith e (some (.Name x pos')) pos.line X.env = pure false:=by rfl) (hf:X.fn x = true ∨ X.env.scope.names.lookup x = some .local:=by first | exact .inl rfl | exact .inr rfl | assumption) :
   PS X (.Assign [.Name x pos'] e pos) (bZW te (pS i)):=by
 intro pins s σ H D I h
 refine wpAny_Assign_Name (thn (he pins s σ H _ I h) fun v s1 ⟨y,H1,I1,r1,q1⟩ => ?_) hs
 exact oK I1 hN hi hx r1 (fun s2 I2 => ⟨_,H1,I2,q1⟩) hf
end
section
variable {X:Cx} {pos:Pos}
def cXS (c:TT) (tb:TS):TS:=fun D σ H => ∃ W:Nat → St → Hp → Prop,(∃ m,W m σ H) ∧ ∀ m σ H,W m σ H →
 c σ H fun b H1 => if b = true then ∃ N:St → Hp → Prop,(∀ σ' H',N σ' H' → ∃ m',m' < m ∧ W m' σ' H') ∧ tb { D with nx:=N,ct:=N,bk:=D.nx } σ H1 else D.nx σ H1
theorem wM {c:Expr} {body:List Stmt} {tc:TT} {tb:TS} (hp:PassesOwn (model X.prog X.w) X.A X.env X.xe) (hc:PT X c tc) (hb:PSs X body tb):PS X (.While c body [] pos) (cXS tc tb):=by
 intro pins s σ H D I h
 obtain ⟨W,⟨m0,w0⟩,turn⟩:=h
 refine wpAny_While (codeAny_whileLoop (fun n s' => ∃ σ' H',Inv X pins σ' H' s' ∧ W n σ' H') ?_ m0 ⟨σ,H,I,w0⟩)
 rintro n s1 ⟨σ1,H1,I1,w1⟩
 refine Ee hp (thn (hc pins s1 σ1 H1 _ I1 (turn n σ1 H1 w1)) fun b s2 ⟨H2,I2,q2⟩ => ?_)
 cases b with
 | true =>
   obtain ⟨N,hN,q2⟩:=q2
   rw [if_pos rfl]
   refine Ee hp (thn (hb pins s2 σ1 H2 _ I2 q2) fun f s3 q3 => ?_)
   cases f with
   | next =>
     obtain ⟨σ3,H3,I3,n3⟩:=q3
     obtain ⟨m',hm,w3⟩:=hN σ3 H3 n3
     exact ⟨m',hm,σ3,H3,I3,w3⟩
   | cont =>
     obtain ⟨σ3,H3,I3,n3⟩:=q3
     obtain ⟨m',hm,w3⟩:=hN σ3 H3 n3
     exact ⟨m',hm,σ3,H3,I3,w3⟩
   | brk => exact q3
   | ret v => exact q3
 | false =>
   rw [if_neg Al]
   exact wpAny_execs_nil ⟨σ1,H2,I2,q2⟩
end
structure It where
 go:Nat → Hp → Prop
 yld:Nat → Hp → V → Hp → Prop
 stop:Nat → Hp → Prop
def kD (X:Cx) (pins:List (Addr × Obj)) (H:Hp) (b:Addr):Prop :=
 H b = none ∧ b ≠ X.env.locals ∧ b ∉ X.fs ∧ (b ∈ X.ex ∨ X.s₀.heap.objs.size ≤ b) ∧ (∀ x c,X.env.cells.lookup x = some c → c ≠ b) ∧ ∀ p ∈ X.pn ++ pins,p.1 ≠ b
theorem Inv.fpOk {X:Cx} {pins:List (Addr × Obj)} {σ:St} {H H':Hp} {s:Shared} {b:Addr} (I:Inv X pins σ H s) (hb:s.heap.objs.size ≤ b) (hn:H' b = none):kD X pins H' b:=by
 refine ⟨hn,Fz (Bd I.lt hb),I.nofs hb,.inr (Bb I.sz hb),fun x c e z => ?_,fun p hp z => ?_⟩
 · obtain ⟨v,q⟩:=I.cell x c e
   exact absurd (Bd q.lt (by rw [z]; exact hb)) (Dk _)
 · exact absurd (Bd (Aq (I.pin p hp).1) (by rw [z]; exact hb)) (Dk _)
structure Turn (P:Program) (w:World) (K:PySem.W.Frag) (tg:Expr) (J:It) (fp:List Addr) (it:Addr) (tn:Nat → Heap → Prop):Prop where
 mem:it ∈ fp
 obj:∀ i h,tn i h → ∀ b ∈ fp,∃ o,h.get? b = some o ∧ ∀ v,o.data ≠ .cell v
 keep:∀ i h h',tn i h → (∀ b ∈ fp,∀ o,h.get? b = some o → h'.get? b = some o) → tn i h'
 item:∀ (X:Cx),X.prog = P → X.w = w → X.K = K → X.calm = true → ∀ (i:Nat) (pins:List (Addr × Obj)) (s:Shared) (σ:St) (H:Hp) (E:Value → Shared → Prop),Inv X pins σ H s → (∀ b ∈ fp,kD X pins H b) → tn i s.heap → J.go i H →
   wpAny (model P w) X.A (pyNext (.ref it)) (fun r s1 => ∃ u,r = some u ∧
     wpAny (model P w) X.A (letOwnedTupleGo tg (.ref it) u) (fun _ s2 => ∃ x H',Inv X pins σ H' s2 ∧ RelV x u ∧ J.yld i H x H' ∧ tn (i + 1) s2.heap ∧ ∀ b ∈ fp,H' b = none) E s1) E s
 done:∀ (X:Cx),X.prog = P → X.w = w → X.K = K → X.calm = true → ∀ (i:Nat) (pins:List (Addr × Obj)) (s:Shared) (σ:St) (H:Hp) (E:Value → Shared → Prop),Inv X pins σ H s → (∀ b ∈ fp,kD X pins H b) → tn i s.heap → J.stop i H →
   wpAny (model P w) X.A (pyNext (.ref it)) (fun r s1 => r = none ∧ Inv X pins σ H s1) E s
 self:∀ (A:Around) (i:Nat) (s:Shared) (Q:Value → Shared → Prop) (E:Value → Shared → Prop),tn i s.heap → Q (.ref it) s → wpAny (model P w) A (pyIter (.ref it)) Q E s
abbrev TI:=St → Hp → (It → Hp → Prop) → Prop
def PIE (X:Cx) (pins:List (Addr × Obj)) (σ:St) (tg:Expr) (R:It → Hp → Prop) (itv:Value) (s2:Shared):Prop :=
 ∃ (it:Addr) (fp:List Addr) (tn:Nat → Heap → Prop) (J:It) (H':Hp),itv = .ref it ∧ Inv X pins σ H' s2 ∧ Turn X.prog X.w X.K tg J fp it tn ∧ tn 0 s2.heap ∧ (∀ b ∈ fp,kD X pins H' b) ∧ R J H'
def PI (X:Cx) (tg iter:Expr) (wi:TI):Prop :=
 ∀ (pins:List (Addr × Obj)) (s:Shared) (σ:St) (H:Hp) (R:It → Hp → Prop),Inv X pins σ H s → wi σ H R →
   wpAny (model X.prog X.w) X.A (eval iter X.env) (fun v s1 => wpAny (model X.prog X.w) X.A (pyIter v) (PIE X pins σ tg R) X.xe s1) X.xe s
theorem rQ {M:Model} {A:Around} {E:Value → Shared → Prop} {s:Shared} {tg:Expr} {it:Addr} {u:Value} {o:Obj} {n:String} {vs:Array Value} {Q:Unit → Shared → Prop} (ho:s.heap.get? it = some o) (hc:o.cls = .type n) (hd:o.data = .fields vs)
   (hn:["enumerate", "zip", "dict_itemiterator", "dict_reverseitemiterator", "odict_iterator", "itertools.zip_longest", "itertools.pairwise"].contains n = false) (hQ:Q () s):wpAny M A (letOwnedTupleGo tg (.ref it) u) Q E s:=by
 unfold letOwnedTupleGo
 cases tg <;> first
   | exact Am hQ
   | (cases u <;> first
       | exact Am hQ
       | (refine Ae (wpAny_load ho ?_)
          rw [hc,hd]
          show wpAny M A (if (["enumerate", "zip", "dict_itemiterator", "dict_reverseitemiterator", "odict_iterator", "itertools.zip_longest", "itertools.pairwise"].contains n && vs[0]? == some (rawInt _)) = true then _ else _) Q E s
          rw [if_neg (by intro h; rw [hn,Bool.false_and] at h; cases h)]
          exact Am hQ))
def Itl (K:PySem.W.Frag) (a:Addr):It :=
 ⟨fun i H => ∃ xs x,SqL K H a xs ∧ xs[i]? = some x,fun i H x H' => H' = H ∧ ∀ xs,SqL K H a xs → xs[i]? = some x,fun i H => ∃ xs,SqL K H a xs ∧ xs.length ≤ i⟩
def Itr (lo:Int) (n:Nat):It:=⟨fun i _ => i < n,fun i H x H' => H' = H ∧ x = .int (lo + i),fun i _ => n ≤ i⟩
theorem aZJ {P:Program} {w:World} {K:PySem.W.Frag} {tg:Expr} (a it:Addr):Turn P w K tg (Itl K a) [it] it (fun i h => h.IsListIter it a i) where
 mem:=by simp
 obj:=fun i h st b hb => by
   have e:b = it:=by simpa using hb
   subst e
   obtain ⟨o,e,c,d⟩:=st
   exact ⟨o,e,fun v z => by rw [d] at z; cases z⟩
 keep:=fun i h h' st k => st.at fun o e => k it (by simp) o e
 item:=by
   intro X hP hw hK hc i pins s σ H E I hf st hg
   subst hP hw hK
   obtain ⟨xs,x,hq,hx⟩:=hg
   obtain ⟨its,rv,p,hz⟩:=I.list hq
   obtain ⟨u,hu,ru⟩:=rv.get hx
   obtain ⟨f0,f1,f2,f3,f4,f5⟩:=hf it (by simp)
   refine wpAny_pyNext_list_item st p.isList (x:=u) (by simpa using hu) fun h' st' sb => ?_
   have I1:Inv X pins σ H { s with heap:=h' }:=I.turned (t':=s.toks) (fun b o hb e => (sb.2 b hb).trans e) f0 f1 f3 f4 f5
   obtain ⟨o,e,c,d⟩:=id st'
   exact ⟨u,rfl,rQ (s:={ s with heap:=h' }) e c d (by decide) ⟨x,H,I1,ru,⟨rfl,fun ys hy => by rw [I.list_inj hy hq]; exact hx⟩,st',fun b hb => (hf b hb).1⟩⟩
 done:=by
   intro X hP hw hK hc i pins s σ H E I hf st hg
   subst hP hw hK
   obtain ⟨xs,hq,hx⟩:=hg
   obtain ⟨its,rv,p,hz⟩:=I.list hq
   obtain ⟨f0,f1,f2,f3,f4,f5⟩:=hf it (by simp)
   have hl:=rv.length
   exact wpAny_pyNext_list_end (I.ok.hd hc) st p.isList (by simp; omega) fun h' eb => ⟨rfl,I.turned (t':=s.toks) (fun b o hb e => eb b o hb e) f0 f1 f3 f4 f5⟩
 self:=fun _ _ _ _ _ st h => wpAny_pyIter_listiter st h
theorem xK {P:Program} {w:World} {K:PySem.W.Frag} {tg:Expr} (it:Addr) (lo:Int) (n:Nat):Turn P w K tg (Itr lo n) [it] it (fun i h => IsRangeIter h it (lo + (i:Nat) * 1) ((n:Int) - (i:Nat)) 1) where
 mem:=by simp
 obj:=fun i h st b hb => by
   have e:b = it:=by simpa using hb
   subst e
   exact ⟨_,st,fun v z => by
     have z':Data.fields _ = Data.cell v:=z
     cases z'⟩
 keep:=fun i h h' st k => k it (by simp) _ st
 item:=by
   intro X hP hw hK hc i pins s σ H E I hf st hg
   subst hP hw hK
   obtain ⟨f0,f1,f2,f3,f4,f5⟩:=hf it (by simp)
   have W:=Walks.range (prog:=X.prog) (w:=X.w) (I.ok.hd hc) it lo 1 n
   refine W.item i s _ _ hg st fun v h' tk hv st' kk => ?_
   obtain ⟨t,rfl⟩:=hv
   have I1:Inv X pins σ H { s with heap:=h',toks:=tk }:=I.turned (fun b o hb e => kk b o (by simpa using hb) e) f0 f1 f3 f4 f5
   refine ⟨_,rfl,rQ (s:={ s with heap:=h',toks:=tk }) (n := "range_iterator") st' rfl rfl (by decide) ⟨.int (lo + i),H,I1,⟨t,?_⟩,⟨rfl,rfl⟩,st',fun b hb => (hf b hb).1⟩⟩
   rw [Int.mul_one]
 done:=by
   intro X hP hw hK hc i pins s σ H E I hf st hg
   subst hP hw hK
   obtain ⟨f0,f1,f2,f3,f4,f5⟩:=hf it (by simp)
   exact wpAny_pyNext_range_end (I.ok.hd hc) st (by have:n ≤ i:=hg; omega) fun h' eb => ⟨rfl,I.turned (t':=s.toks) (fun b o hb e => eb b o hb e) f0 f1 f3 f4 f5⟩
 self:=fun _ _ _ _ _ st h => wpAny_pyIter_rangeiter st h
end L2
namespace L2
open PySem PySem.Spec PyProof.Rows
section
variable {X:Cx} {tg:Expr}
theorem vB {pins:List (Addr × Obj)} {σ:St} {H:Hp} {s:Shared} {R:It → Hp → Prop} {E:Value → Shared → Prop} {lo hi:Int} {t u v:Tok} {tk:Nat} (I:Inv X pins σ H s) (h1:-(2 ^ 62) ≤ lo) (h2:lo < 2 ^ 62) (h3:-(2 ^ 62) ≤ hi) (h4:hi < 2 ^ 62)
   (q:R (Itr lo (hi - lo).toNat) H):wpAny (model X.prog X.w) X.A (pyIter (.ref s.heap.objs.size)) (PIE X pins σ tg R) E { s with heap:=s.heap.push { cls:=.type "range",data:=.fields #[.int lo t,.int hi u,.int 1 v] },toks:=tk }:=by
 refine wpAny_pyIter_range (IsRange.new ..) (small_one h1 h2 h3 h4) ?_
 have I1:Inv X pins σ H { s with heap:=s.heap.push { cls:=.type "range",data:=.fields #[.int lo t,.int hi u,.int 1 v] },toks:=tk }:=I.kept fun b o e => Af _ e
 refine ⟨(s.heap.push { cls:=.type "range",data:=.fields #[.int lo t,.int hi u,.int 1 v] }).objs.size,[(s.heap.push { cls:=.type "range",data:=.fields #[.int lo t,.int hi u,.int 1 v] }).objs.size],_,_,H,rfl,
   I1.kept (t':=tk) fun b o e => Af _ e,xK _ lo (hi - lo).toNat,?_,fun b hb => ?_,q⟩
 · have e1:lo + ((0:Nat):Int) * 1 = lo:=by simp
   have e2:(((hi - lo).toNat:Nat):Int) - ((0:Nat):Int) = Builtin.Range.rangeSize lo hi 1:=by rw [rangeSize_one]; split <;> omega
   show IsRangeIter _ _ (lo + ((0:Nat):Int) * 1) ((((hi - lo).toNat:Nat):Int) - ((0:Nat):Int)) 1
   rw [e1,e2]
   exact Ax _ rfl
 · have e:b = (s.heap.push { cls:=.type "range",data:=.fields #[.int lo t,.int hi u,.int 1 v] }).objs.size:=by simpa using hb
   subst e
   exact I1.fpOk (Ah _) (I1.hok.fresh (Ah _))
def dZY (wi:TI) (g:TG) (tb:TS):TS:=fun D σ H => wi σ H fun J H1 => ∃ W:Nat → Nat → St → Hp → Prop,(∃ m,W 0 m σ H1) ∧ ∀ i m σ H,W i m σ H →
 (J.stop i H ∧ D.nx σ H) ∨ (J.go i H ∧ ∃ N:St → Hp → Prop,(∀ σ' H',N σ' H' → ∃ m',m' < m ∧ W (i + 1) m' σ' H') ∧ ∀ x H',J.yld i H x H' → g x σ H' fun σ2 H2 => tb { D with nx:=N,ct:=N,bk:=D.nx } σ2 H2)
def mK (fp:List Addr) (h:Heap):List (Addr × Obj):=fp.filterMap fun b => (h.get? b).map fun o => (b,o)
theorem iE {fp:List Addr} {h:Heap} {b:Addr} {o:Obj} (hb:b ∈ fp) (e:h.get? b = some o):(b,o) ∈ mK fp h:=De.mpr ⟨b,hb,by rw [e]; rfl⟩
theorem aZS {fp:List Addr} {h:Heap} {p:Addr × Obj} (hp:p ∈ mK fp h):p.1 ∈ fp ∧ h.get? p.1 = some p.2:=by
 obtain ⟨b,hb,e⟩:=De.mp hp
 cases q:h.get? b with
 | none => rw [q] at e; cases e
 | some o =>
   rw [q] at e
   have e':(b,o) = p:=Bs e
   subst e'
   exact ⟨hb,q⟩
theorem Inv.pinned {pins:List (Addr × Obj)} {σ:St} {H:Hp} {s:Shared} {fp:List Addr} (I:Inv X pins σ H s) (hf:∀ b ∈ fp,kD X pins H b) (ho:∀ b ∈ fp,∃ o,s.heap.get? b = some o ∧ ∀ v,o.data ≠ .cell v):Inv X (pins ++ mK fp s.heap) σ H s :=
 I.pins_of fun p hp => (Bi.mp hp).elim (fun z => I.pin p (Bg _ z)) fun z => by
   obtain ⟨hb,e⟩:=aZS z
   obtain ⟨f0,f1,f2,_⟩:=hf p.1 hb
   obtain ⟨o,e',d⟩:=ho p.1 hb
   rw [e] at e'; cases e'
   exact ⟨e,f0,f1,f2,d⟩
theorem Inv.unpinned {pins pl:List (Addr × Obj)} {σ:St} {H:Hp} {s:Shared} (I:Inv X (pins ++ pl) σ H s):Inv X pins σ H s:=I.pins_of fun p hp => I.pin p (Bg _ (Bt _ hp))
theorem cJI {iter:Expr} {body:List Stmt} {wi:TI} {g:TG} {tb:TS} {pos:Pos} (hp:PassesOwn (model X.prog X.w) X.A X.env X.xe) (hc:X.calm = true) (hi:PI X tg iter wi) (hg:PG X tg g) (hb:PSs X body tb)
   (hs:∀ x,foldedSetIterable iter X.env x = pure x:=by intro _; rfl):PS X (.For tg iter body [] pos) (dZY wi g tb):=by
 intro pins s σ H D I h
 refine wpAny_For (thn (hi pins s σ H _ I h) fun v s1 h1 => thn h1 fun itv s2 h2 => ?_) hs
 obtain ⟨it,fp,tn,J,H2,e,I2,T,st2,f2,W,⟨m0,w0⟩,turn⟩:=h2
 subst e
 -- what stays true of the iterator's objects through the loop
 have stat:∀ {H':Hp},(∀ b ∈ fp,H' b = none) → ∀ b ∈ fp,kD X pins H' b:=fun hn b hb => ⟨hn b hb,(f2 b hb).2⟩
 refine codeAny_forLoop_any (fun n s' => ∃ i σ' H',Inv X pins σ' H' s' ∧ tn i s'.heap ∧ (∀ b ∈ fp,H' b = none) ∧ W i n σ' H') ?_ m0 ⟨0,σ,H2,I2,st2,fun b hb => (f2 b hb).1,w0⟩
 rintro n s3 ⟨i,σ3,H3,I3,st3,fr3,w3⟩
 rcases turn i n σ3 H3 w3 with ⟨stop,qn⟩ | ⟨go,N,hN,step⟩
 · refine Ee hp (thn (T.done X rfl rfl rfl hc i pins s3 σ3 H3 X.xe I3 (stat fr3) st3 stop) fun r s4 ⟨hr,I4⟩ => ?_)
   subst hr
   exact wpAny_execs_nil ⟨σ3,H3,I4,qn⟩
 · refine Ee hp (thn (T.item X rfl rfl rfl hc i pins s3 σ3 H3 X.xe I3 (stat fr3) st3 go) fun r s4 ⟨u,hr,h4⟩ => ?_)
   subst hr
   refine Ee hp (thn h4 fun _ s5 ⟨x,H5,I5,r5,y5,st5,fr5⟩ => ?_)
   have I5':=I5.pinned (stat fr5) (T.obj _ _ st5)
   refine Ee hp (thn (hg _ s5 σ3 H5 x u _ I5' r5 (step x H5 y5)) fun _ s6 ⟨σ6,H6,I6,q6⟩ => ?_)
   refine Ee hp (thn (hb _ s6 σ6 H6 _ I6 q6) fun f s7 q7 => ?_)
   have again:∀ {σ7:St} {H7:Hp},Inv X (pins ++ mK fp s5.heap) σ7 H7 s7 → N σ7 H7 → ∃ m,m < n ∧ ∃ i σ' H',Inv X pins σ' H' s7 ∧ tn i s7.heap ∧ (∀ b ∈ fp,H' b = none) ∧ W i m σ' H':=fun {σ7 H7} I7 n7 => by
     obtain ⟨m',hm,w7⟩:=hN σ7 H7 n7
     refine ⟨m',hm,i + 1,σ7,H7,I7.unpinned,T.keep _ _ _ st5 fun b hb o e => (I7.pin (b,o) (Bg _ (Bg _ (iE hb e)))).1,fun b hb => ?_,w7⟩
     obtain ⟨o,e,d⟩:=T.obj _ _ st5 b hb
     exact (I7.pin (b,o) (Bg _ (Bg _ (iE hb e)))).2.1
   cases f with
   | next => obtain ⟨σ7,H7,I7,n7⟩:=q7; exact again I7 n7
   | cont => obtain ⟨σ7,H7,I7,n7⟩:=q7; exact again I7 n7
   | brk => obtain ⟨σ7,H7,I7,q7⟩:=q7; exact ⟨σ7,H7,I7.unpinned,q7⟩
   | ret v => obtain ⟨x7,σ7,H7,I7,r7,q7⟩:=q7; exact ⟨x7,σ7,H7,I7.unpinned,r7,q7⟩
end
theorem aJD {K:PySem.W.Frag} {a:Addr} {xs:List V} {g:TG} {tb:TS} {D:Ends} {σ:St} {H:Hp} (Pv:Nat → St → Hp → Prop) (h0:Pv 0 σ H) (hl:∀ i σ H,i ≤ xs.length → Pv i σ H → SqL K H a xs)
   (hs:∀ i x σ H,xs[i]? = some x → Pv i σ H → g x σ H fun σ2 H2 => tb { D with nx:=Pv (i + 1),ct:=Pv (i + 1),bk:=D.nx } σ2 H2) (hd:∀ σ H,Pv xs.length σ H → D.nx σ H) :
   ∃ W:Nat → Nat → St → Hp → Prop,(∃ m,W 0 m σ H) ∧ ∀ i m σ H,W i m σ H →
     ((Itl K a).stop i H ∧ D.nx σ H) ∨ ((Itl K a).go i H ∧ ∃ N:St → Hp → Prop,(∀ σ' H',N σ' H' → ∃ m',m' < m ∧ W (i + 1) m' σ' H') ∧ ∀ x H',(Itl K a).yld i H x H' → g x σ H' fun σ2 H2 => tb { D with nx:=N,ct:=N,bk:=D.nx } σ2 H2):=by
 refine ⟨fun i m σ H => m = xs.length - i ∧ i ≤ xs.length ∧ Pv i σ H,⟨xs.length,by simp,Nat.zero_le _,h0⟩,?_⟩
 rintro i m σ H ⟨rfl,hi,p⟩
 have q:=hl i σ H hi p
 by_cases hlt:i < xs.length
 · refine .inr ⟨⟨xs,xs[i],q,by simp [hlt]⟩,Pv (i + 1),fun σ' H' p' => ⟨xs.length - (i + 1),by omega,rfl,hlt,p'⟩,fun x H' y => ?_⟩
   obtain ⟨e,y⟩:=y
   subst e
   exact hs i x σ _ (y xs q) p
 · have e:i = xs.length:=by omega
   subst e
   exact .inl ⟨⟨xs,q,Ah _⟩,hd σ H p⟩
theorem aXS {lo:Int} {n:Nat} {g:TG} {tb:TS} {D:Ends} {σ:St} {H:Hp} (Pv:Nat → St → Hp → Prop) (h0:Pv 0 σ H)
   (hs:∀ i σ H,i < n → Pv i σ H → g (.int (lo + i)) σ H fun σ2 H2 => tb { D with nx:=Pv (i + 1),ct:=Pv (i + 1),bk:=D.nx } σ2 H2) (hd:∀ σ H,Pv n σ H → D.nx σ H) :
   ∃ W:Nat → Nat → St → Hp → Prop,(∃ m,W 0 m σ H) ∧ ∀ i m σ H,W i m σ H →
     ((Itr lo n).stop i H ∧ D.nx σ H) ∨ ((Itr lo n).go i H ∧ ∃ N:St → Hp → Prop,(∀ σ' H',N σ' H' → ∃ m',m' < m ∧ W (i + 1) m' σ' H') ∧ ∀ x H',(Itr lo n).yld i H x H' → g x σ H' fun σ2 H2 => tb { D with nx:=N,ct:=N,bk:=D.nx } σ2 H2):=by
 refine ⟨fun i m σ H => m = n - i ∧ i ≤ n ∧ Pv i σ H,⟨n,by simp,Nat.zero_le _,h0⟩,?_⟩
 rintro i m σ H ⟨rfl,hi,p⟩
 by_cases hlt:i < n
 · refine .inr ⟨hlt,Pv (i + 1),fun σ' H' p' => ⟨n - (i + 1),by omega,rfl,hlt,p'⟩,fun x H' y => ?_⟩
   obtain ⟨e,y⟩:=y
   subst e y
   exact hs i σ _ hlt p
 · have e:i = n:=by omega
   subst e
   exact .inl ⟨Ah _,hd σ H p⟩
end L2
namespace L2
open PySem PySem.Spec PyProof.Rows
abbrev R2:=V → V → Hp → VK → Prop
def OpR (X:Cx) (f:Value → Value → Sem Value) (r:R2):Prop :=
 ∀ (pins:List (Addr × Obj)) (s:Shared) (σ:St) (H:Hp) (x y:V) (v u:Value) (Q:VK),Inv X pins σ H s → RelV x v → RelV y u → r x y H Q →
   wpAny (model X.prog X.w) X.A (f v u) (EP X pins σ Q) X.xe s
def UnR (X:Cx) (f:Value → Sem Value) (r:V → Hp → VK → Prop):Prop :=
 ∀ (pins:List (Addr × Obj)) (s:Shared) (σ:St) (H:Hp) (x:V) (v:Value) (Q:VK),Inv X pins σ H s → RelV x v → r x H Q →
   wpAny (model X.prog X.w) X.A (f v) (EP X pins σ Q) X.xe s
def CallR (X:Cx) (f:Value) (r:List V → Hp → VK → Prop):Prop :=
 ∀ (pins:List (Addr × Obj)) (s:Shared) (σ:St) (H:Hp) (xs:List V) (us:List Value) (Q:VK),Inv X pins σ H s → Vals xs us → r xs H Q →
   wpAny (model X.prog X.w) X.A (call f us) (EP X pins σ Q) X.xe s
def dZ9 (X:Cx) (r:V → Hp → (Bool → Hp → Prop) → Prop):Prop :=
 ∀ (pins:List (Addr × Obj)) (s:Shared) (σ:St) (H:Hp) (x:V) (v:Value) (Q:Bool → Hp → Prop),Inv X pins σ H s → RelV x v → r x H Q →
   wpAny (model X.prog X.w) X.A (truthy v) (TP X pins σ Q) X.xe s
def tOp (r:R2) (ta tb:TE):TE:=fun σ H Q => ta σ H fun x H1 => tb σ H1 fun y H2 => r x y H2 Q
def tUn (r:V → Hp → VK → Prop) (ta:TE):TE:=fun σ H Q => ta σ H fun x H1 => r x H1 Q
def rI (C:Int → Int → Prop) (g:Int → Int → V):R2:=fun x y H Q => ∃ i j,x = .int i ∧ y = .int j ∧ C i j ∧ Q (g i j) H
def rI0 (g:Int → Int → V):R2:=fun x y H Q => ∃ i j,x = .int i ∧ y = .int j ∧ Q (g i j) H
def rU (g:Int → V):V → Hp → VK → Prop:=fun x H Q => ∃ i,x = .int i ∧ Q (g i) H
section
variable {X:Cx} {a b c:Expr} {ta tb tc:TE} {pos:Pos}
theorem cZI (ha:PE X a ta) (hb:PE X b tb) {pins:List (Addr × Obj)} {s:Shared} {σ:St} {H:Hp} {R:V → V → Hp → Prop} (I:Inv X pins σ H s)
   (h:ta σ H fun x H1 => tb σ H1 fun y H2 => R x y H2) {Q:Value → Shared → Prop} {f:Value → Value → Sem Value}
   (hf:∀ v u s2 x y H2,Inv X pins σ H2 s2 → RelV x v → RelV y u → R x y H2 → wpAny (model X.prog X.w) X.A (f v u) Q X.xe s2) :
   wpAny (model X.prog X.w) X.A (eval a X.env) (fun v s₁ => wpAny (model X.prog X.w) X.A (eval b X.env) (fun u s₂ => wpAny (model X.prog X.w) X.A (f v u) Q X.xe s₂) X.xe s₁) X.xe s:=by
 refine thn (ha pins s σ H _ I h) fun v s1 ⟨x,H1,I1,r1,q1⟩ => ?_
 refine thn (hb pins s1 σ H1 _ I1 q1) fun u s2 ⟨y,H2,I2,r2,q2⟩ => ?_
 exact hf v u s2 x y H2 I2 r1 r2 q2
theorem aX {op:Operator} {r:R2} (ho:OpR X (binaryOp op) r) (ha:PE X a ta) (hb:PE X b tb):PE X (.BinOp a op b pos) (tOp r ta tb):=by
 intro pins s σ H Q I h
 exact wpAny_BinOp (cZI ha hb I h fun v u s2 x y H2 I2 rx ry q => ho pins s2 σ H2 x y v u Q I2 rx ry q)
theorem cXD {op:UnaryOp} {r:V → Hp → VK → Prop} (ho:UnR X (unaryOp op) r) (ha:PE X a ta):PE X (.UnaryOp op a pos) (tUn r ta):=by
 intro pins s σ H Q I h
 exact UnaryOp_ (thn (ha pins s σ H _ I h) fun v s1 ⟨x,H1,I1,r1,q1⟩ => ho pins s1 σ H1 x v Q I1 r1 q1)
theorem opI {f:Value → Value → Sem Value} {C:Int → Int → Prop} {g:Int → Int → Int}
   (rule:∀ (i j:Int) (t u:Tok) (s:Shared) (Q:Value → Shared → Prop) (E:Value → Shared → Prop),C i j → Q (.int (g i j) s.toks) { s with toks:=s.toks + 1 } → wpAny (model X.prog X.w) X.A (f (.int i t) (.int j u)) Q E s) :
   OpR X f (rI C fun i j => .int (g i j)):=by
 intro pins s σ H x y v u Q I rx ry h
 obtain ⟨i,j,rfl,rfl,hc,q⟩:=h
 obtain ⟨t,rfl⟩:=rx
 obtain ⟨t',rfl⟩:=ry
 exact rule i j t t' s _ _ hc ⟨.int (g i j),H,I.tok _,⟨_,rfl⟩,q⟩
theorem dXD {f:Value → Value → Sem Value} {g:Int → Int → Int}
   (rule:∀ (i j:Int) (t u:Tok) (s:Shared) (Q:Value → Shared → Prop) (E:Value → Shared → Prop),Q (.int (g i j) s.toks) { s with toks:=s.toks + 1 } → wpAny (model X.prog X.w) X.A (f (.int i t) (.int j u)) Q E s) :
   OpR X f (rI0 fun i j => .int (g i j)):=by
 intro pins s σ H x y v u Q I rx ry h
 obtain ⟨i,j,rfl,rfl,q⟩:=h
 obtain ⟨t,rfl⟩:=rx
 obtain ⟨t',rfl⟩:=ry
 exact rule i j t t' s _ _ ⟨.int (g i j),H,I.tok _,⟨_,rfl⟩,q⟩
theorem dZC {f:Value → Value → Sem Value} {g:Int → Int → Bool}
   (rule:∀ (i j:Int) (t u:Tok) (s:Shared) (Q:Value → Shared → Prop) (E:Value → Shared → Prop),Q (.bool (g i j)) s → wpAny (model X.prog X.w) X.A (f (.int i t) (.int j u)) Q E s) :
   OpR X f (rI0 fun i j => .bl (g i j)):=by
 intro pins s σ H x y v u Q I rx ry h
 obtain ⟨i,j,rfl,rfl,q⟩:=h
 obtain ⟨t,rfl⟩:=rx
 obtain ⟨t',rfl⟩:=ry
 exact rule i j t t' s _ _ ⟨.bl (g i j),H,I,rfl,q⟩
def dXY (i j:Int):Prop:=0 < j ∧ j < 1073741824
def CMul (i j:Int):Prop:=(-(2 ^ 64) < i ∧ i < 2 ^ 64) ∨ (-(2 ^ 64) < j ∧ j < 2 ^ 64)
theorem CMul.ok {i j:Int} (h:CMul i j):IntMulOk i j:=by
 rcases h with ⟨h1,h2⟩ | ⟨h1,h2⟩
 · exact .of_left (intBits_le_64 h1 h2)
 · exact .of_right (intBits_le_64 h1 h2)
theorem cJR:OpR X (binaryOp .Add) (rI0 fun i j => .int (i + j)):=dXD fun _ _ _ _ _ _ _ q => add_int q
theorem op_sub:OpR X (binaryOp .Sub) (rI0 fun i j => .int (i - j)):=dXD fun _ _ _ _ _ _ _ q => sub_int q
theorem op_mul:OpR X (binaryOp .Mult) (rI CMul fun i j => .int (i * j)):=opI fun _ _ _ _ _ _ _ hc q => mul_int q hc.ok
theorem op_fdiv:OpR X (binaryOp .FloorDiv) (rI dXY fun i j => .int (i / j)):=opI fun i j _ _ _ _ _ hc q => by
 have h1:(0:Int) < j:=hc.1
 have h2:j < 1073741824:=hc.2
 exact floordiv_int (by omega) (by rw [Int.fdiv_eq_ediv_of_nonneg i (by omega)]; exact q) (.inl (PyProof.noPylong_small (by omega)))
theorem op_mod:OpR X (binaryOp .Mod) (rI (fun _ j => 0 < j) fun i j => .int (i % j)):=opI fun i j _ _ _ _ _ hc q => by
 have h1:(0:Int) < j:=hc
 exact mod_int' (by omega) (by rw [Int.fmod_eq_emod_of_nonneg i (by omega)]; exact q)
theorem unI {f:Value → Sem Value} {g:Int → Int}
   (rule:∀ (i:Int) (t:Tok) (s:Shared) (Q:Value → Shared → Prop) (E:Value → Shared → Prop),Q (.int (g i) s.toks) { s with toks:=s.toks + 1 } → wpAny (model X.prog X.w) X.A (f (.int i t)) Q E s) :
   UnR X f (rU fun i => .int (g i)):=by
 intro pins s σ H x v Q I rx h
 obtain ⟨i,rfl,q⟩:=h
 obtain ⟨t,rfl⟩:=rx
 exact rule i t s _ _ ⟨.int (g i),H,I.tok _,⟨_,rfl⟩,q⟩
theorem cJN:UnR X (unaryOp .USub) (rU fun i => .int (-i)):=unI fun _ _ _ _ _ q => neg_int q
end
def bJN:V → V → Bool
 | .non,.non => true | .non,.int _ => true | .int _,.non => true | .non,.bl _ => true | .bl _,.non => true | .non,.str _ => true | .str _,.non => true
 | .int _,.int _ => true | .bl _,.bl _ => true | .str _,.str _ => true | .byt _,.byt _ => true
 | .int _,.str _ => true | .str _,.int _ => true | .bl _,.str _ => true | .str _,.bl _ => true
 | _,_ => false
def rEq:R2:=fun x y H Q => bJN x y = true ∧ Q (.bl (decide (x = y))) H
def rNe:R2:=fun x y H Q => bJN x y = true ∧ Q (.bl (!decide (x = y))) H
theorem aQC {i j:Int}:decide (V.int i = V.int j) = (i == j):=by
 rw [Bool.eq_iff_iff]
 simp
theorem bX6 {i j:Bool}:decide (V.bl i = V.bl j) = (i == j):=by
 rw [Bool.eq_iff_iff]
 simp
theorem tK {i j:Str}:decide (V.str i = V.str j) = (i == j):=by
 rw [Bool.eq_iff_iff]
 simp
theorem aQX {i j:Array UInt8}:decide (V.byt i = V.byt j) = (i.toList == j.toList):=by
 rw [Bool.eq_iff_iff]
 cases i
 cases j
 simp
section
variable {X:Cx} {a b c:Expr} {ta tb tc:TE} {pos:Pos}
theorem bK {pins:List (Addr × Obj)} {σ:St} {H:Hp} {s:Shared} {Q:VK} {k k':Bool} (I:Inv X pins σ H s) (q:Q (.bl k) H) (e:k = k'):EP X pins σ Q (.bool k') s:=by
 subst e
 exact ⟨.bl k,H,I,rfl,q⟩
theorem dQE:OpR X (compareOp .Eq) rEq:=by
 intro pins s σ H x y v u Q I rx ry h
 obtain ⟨hs,q⟩:=h
 cases x with
 | non =>
   cases rx
   cases y with
   | non => cases ry; exact PySem.EqNone.eq_none_none (bK I q (by simp))
   | bl j => cases ry; exact PySem.EqNone.eq_none_bool (bK I q (by simp))
   | int j => obtain ⟨t',rfl⟩:=ry; exact PySem.EqNone.eq_none_int (bK I q (by simp))
   | str j => obtain ⟨t',rfl⟩:=ry; exact PySem.EqNone.eq_none_str (bK I q (by simp))
   | _ => exact absurd (show false = true from hs) Al
 | bl i =>
   cases rx
   cases y with
   | non => cases ry; exact PySem.EqNone.eq_bool_none (bK I q (by simp))
   | bl j => cases ry; exact eq_bool (bK I q bX6)
   | str j => obtain ⟨t',rfl⟩:=ry; exact PySem.EqMixed.eq_bool_str (bK I q (by simp))
   | _ => exact absurd (show false = true from hs) Al
 | int i =>
   obtain ⟨t,rfl⟩:=rx
   cases y with
   | non => cases ry; exact PySem.EqNone.eq_int_none (bK I q (by simp))
   | int j => obtain ⟨t',rfl⟩:=ry; exact eq_int (bK I q aQC)
   | str j => obtain ⟨t',rfl⟩:=ry; exact PySem.EqMixed.eq_int_str (bK I q (by simp))
   | _ => exact absurd (show false = true from hs) Al
 | str i =>
   obtain ⟨t,rfl⟩:=rx
   cases y with
   | non => cases ry; exact PySem.EqNone.eq_str_none (bK I q (by simp))
   | bl j => cases ry; exact PySem.EqMixed.eq_str_bool (bK I q (by simp))
   | int j => obtain ⟨t',rfl⟩:=ry; exact PySem.EqMixed.eq_str_int (bK I q (by simp))
   | str j => obtain ⟨t',rfl⟩:=ry; exact eq_str (bK I q tK)
   | _ => exact absurd (show false = true from hs) Al
 | byt i =>
   obtain ⟨t,rfl⟩:=rx
   cases y with
   | byt j => obtain ⟨t',rfl⟩:=ry; exact PySem.W.eq_bytes (bK I q aQX)
   | _ => exact absurd (show false = true from hs) Al
 | _ => cases y <;> exact absurd (show false = true from hs) Al
theorem dX1:OpR X (compareOp .NotEq) rNe:=by
 intro pins s σ H x y v u Q I rx ry h
 obtain ⟨hs,q⟩:=h
 cases x with
 | non =>
   cases rx
   cases y with
   | non => cases ry; exact PySem.EqNone.ne_none_none (bK I q (by simp))
   | bl j => cases ry; exact PySem.EqNone.ne_none_bool (bK I q (by simp))
   | int j => obtain ⟨t',rfl⟩:=ry; exact PySem.EqNone.ne_none_int (bK I q (by simp))
   | str j => obtain ⟨t',rfl⟩:=ry; exact PySem.EqNone.ne_none_str (bK I q (by simp))
   | _ => exact absurd (show false = true from hs) Al
 | bl i =>
   cases rx
   cases y with
   | non => cases ry; exact PySem.EqNone.ne_bool_none (bK I q (by simp))
   | bl j => cases ry; exact ne_bool (bK I q (Dq not bX6))
   | str j => obtain ⟨t',rfl⟩:=ry; exact PySem.EqMixed.ne_bool_str (bK I q (by simp))
   | _ => exact absurd (show false = true from hs) Al
 | int i =>
   obtain ⟨t,rfl⟩:=rx
   cases y with
   | non => cases ry; exact PySem.EqNone.ne_int_none (bK I q (by simp))
   | int j => obtain ⟨t',rfl⟩:=ry; exact ne_int (bK I q (Dq not aQC))
   | str j => obtain ⟨t',rfl⟩:=ry; exact PySem.EqMixed.ne_int_str (bK I q (by simp))
   | _ => exact absurd (show false = true from hs) Al
 | str i =>
   obtain ⟨t,rfl⟩:=rx
   cases y with
   | non => cases ry; exact PySem.EqNone.ne_str_none (bK I q (by simp))
   | bl j => cases ry; exact PySem.EqMixed.ne_str_bool (bK I q (by simp))
   | int j => obtain ⟨t',rfl⟩:=ry; exact PySem.EqMixed.ne_str_int (bK I q (by simp))
   | str j => obtain ⟨t',rfl⟩:=ry; exact ne_str (bK I q (Dq not tK))
   | _ => exact absurd (show false = true from hs) Al
 | byt i =>
   obtain ⟨t,rfl⟩:=rx
   cases y with
   | byt j => obtain ⟨t',rfl⟩:=ry; exact PySem.W.ne_bytes (bK I q (Dq not aQX))
   | _ => exact absurd (show false = true from hs) Al
 | _ => cases y <;> exact absurd (show false = true from hs) Al
theorem op_lt:OpR X (compareOp .Lt) (rI0 fun i j => .bl (decide (i < j))):=dZC fun _ _ _ _ _ _ _ q => lt_int q
theorem op_gt:OpR X (compareOp .Gt) (rI0 fun i j => .bl (decide (j < i))):=dZC fun _ _ _ _ _ _ _ q => gt_int q
theorem op_in_str:OpR X (compareOp .In) (fun x y H Q => ∃ i j,x = .str i ∧ y = .str j ∧ Q (.bl (!(Builtin.Str.occurrences j i 0 j.length 1).isEmpty)) H):=by
 intro pins s σ H x y v u Q I rx ry h
 obtain ⟨i,j,rfl,rfl,q⟩:=h
 obtain ⟨t,rfl⟩:=rx
 obtain ⟨t',rfl⟩:=ry
 exact in_str (bK I q rfl)
theorem op_isN:OpR X (compareOp .Is) (fun x y H Q => y = .non ∧ Q (.bl (decide (x = .non))) H):=by
 intro pins s σ H x y v u Q I rx ry h
 obtain ⟨rfl,q⟩:=h
 cases ry
 refine is_none_gen (bK I q ?_)
 cases x <;> first
   | (cases rx; rfl)
   | (obtain ⟨t,rfl⟩:=rx; rfl)
theorem op_notN:OpR X (compareOp .IsNot) (fun x y H Q => y = .non ∧ Q (.bl (!decide (x = .non))) H):=by
 intro pins s σ H x y v u Q I rx ry h
 obtain ⟨rfl,q⟩:=h
 cases ry
 refine isnot_none_gen (bK I q ?_)
 cases x <;> first
   | (cases rx; rfl)
   | (obtain ⟨t,rfl⟩:=rx; rfl)
theorem OpR.or {f:Value → Value → Sem Value} {r r':R2} (h:OpR X f r) (h':OpR X f r'):OpR X f (fun x y H Q => r x y H Q ∨ r' x y H Q):=by
 intro pins s σ H x y v u Q I rx ry q
 rcases q with q | q
 · exact h pins s σ H x y v u Q I rx ry q
 · exact h' pins s σ H x y v u Q I rx ry q
theorem bF (b:Expr) {op:CmpOp} (h:op ≠ .In:=by decide) (h2:op ≠ .NotIn:=by decide):behindInMarks op b = false:=by
 have e1:(op == CmpOp.In) = false:=by cases op <;> first | rfl | exact absurd rfl h
 have e2:(op == CmpOp.NotIn) = false:=by cases op <;> first | rfl | exact absurd rfl h2
 cases b <;> simp [behindInMarks,e1,e2]
theorem iJ {op:CmpOp} {r:R2} (ho:OpR X (compareOp op) r) (ha:PE X a ta) (hb:PE X b tb) (hm:behindInMarks op b = false):PE X (.Compare a [op] [b] pos) (tOp r ta tb):=by
 intro pins s σ H Q I h
 exact wpAny_Compare1 (cZI ha hb I h fun v u s2 x y H2 I2 rx ry q => ho pins s2 σ H2 x y v u Q I2 rx ry q) hm
def dX0 (K:PySem.W.Frag) (x:V) (H:Hp) (k:Bool):Prop :=
 match x with
 | .non => k = false
 | .bl b => k = b
 | .int i => k = (i != 0)
 | .str y => y.length ≤ sizeLine ∧ k = ((y.length:Int) != 0)
 | .byt y => y.size ≤ sizeLine ∧ k = ((y.size:Int) != 0)
 | .ref p => (∃ xs,SqL K H p xs ∧ k = !xs.isEmpty) ∨ (∃ xs,SqT K H p xs ∧ k = !xs.isEmpty) ∨ ∃ kvs,H p = some (.dK kvs) ∧ k = !kvs.isEmpty
 | _ => False
theorem xF {κ:Type} {kvs:List (κ × V)} {vs:List (κ × Value)} (r:KV kvs vs):(!vs.isEmpty) = !kvs.isEmpty:=by
 cases r <;> rfl
theorem oW {xs:List V} {its:List Value} (r:Vals xs its):(!its.toArray.isEmpty) = !xs.isEmpty:=by
 cases r <;> simp
theorem lA:(sizeLine:Nat) < 2 ^ 63:=by rw [Gp]; decide
theorem uK:dZ9 X (fun x H Q => ∃ k,dX0 X.K x H k ∧ Q k H):=by
 intro pins s σ H x v Q I rx h
 obtain ⟨k,e,q⟩:=h
 have hl:=lA
 have hs:sizeLine = 16777216:=Gp
 cases x with
 | non =>
   cases rx
   have e':k = false:=e
   subst e'
   exact truthy_none ⟨H,I,q⟩
 | bl b =>
   cases rx
   have e':k = b:=e
   subst e'
   exact Eg ⟨H,I,q⟩
 | int i =>
   obtain ⟨t,rfl⟩:=rx
   have e':k = (i != 0):=e
   subst e'
   exact PySem.P.truthy_int ⟨H,I,q⟩
 | str y =>
   obtain ⟨t,rfl⟩:=rx
   obtain ⟨hy,e'⟩:y.length ≤ sizeLine ∧ k = ((y.length:Int) != 0):=e
   subst e'
   exact PySem.P.truthy_str (by omega) ⟨H,I.tok _,q⟩
 | byt y =>
   obtain ⟨t,rfl⟩:=rx
   obtain ⟨hy,e'⟩:y.size ≤ sizeLine ∧ k = ((y.size:Int) != 0):=e
   subst e'
   exact PySem.W.truthy_bytes (by omega) ⟨H,I.tok _,q⟩
 | ref p =>
   cases rx
   have e':(∃ xs,SqL X.K H p xs ∧ k = !xs.isEmpty) ∨ (∃ xs,SqT X.K H p xs ∧ k = !xs.isEmpty) ∨ ∃ kvs,H p = some (.dK kvs) ∧ k = !kvs.isEmpty:=e
   rcases e' with ⟨xs,hx,e'⟩ | ⟨xs,hx,e'⟩ | ⟨kvs,hx,e'⟩
   · subst e'
     obtain ⟨its,r,pl,hz⟩:=I.list hx
     have hlen:=r.length
     exact wpAny_truthy_list pl.isList (by simp only [List.size_toArray]; omega) ⟨H,I.tok _,by rw [oW r]; exact q⟩
   · subst e'
     obtain ⟨its,r,pl,hz⟩:=I.tuple hx
     have hlen:=r.length
     exact truthy_tuple pl (by simp only [List.size_toArray]; omega) ⟨H,I.tok _,by rw [oW r]; exact q⟩
   · subst e'
     obtain ⟨hz,hS,vs,r,m⟩:kvs.length ≤ sizeLine ∧ (p == sysModules) = false ∧ ∃ vs,KV kvs vs ∧ s.heap.DictOf (aZ X.prog X.w) p vs:=I.hok p _ hx
     have hlen:kvs.length = vs.length:=Paired.length r
     exact wpAny_truthy_dict hS m (by omega) ⟨H,I.tok _,by rw [xF r]; exact q⟩
 | _ => exact (show False from e).elim
theorem yS:OpR X (binaryOp .Add) (fun x y H Q => ∃ i j,x = .str i ∧ y = .str j ∧ i.length + j.length ≤ sizeLine ∧ Q (.str (i ++ j)) H):=by
 intro pins s σ H x y v u Q I rx ry h
 obtain ⟨i,j,rfl,rfl,hz,q⟩:=h
 obtain ⟨t,rfl⟩:=rx
 obtain ⟨t',rfl⟩:=ry
 exact add_str (fun t' tk => ⟨.str (i ++ j),H,I.tok _,⟨_,rfl⟩,q⟩) hz
theorem fI {x:V} {us:List Value} (r:Vals [x] us):∃ u,us = [u] ∧ RelV x u:=by
 cases r with
 | cons r1 r2 => cases r2; exact ⟨_,rfl,r1⟩
theorem aQ5 {x y:V} {us:List Value} (r:Vals [x,y] us):∃ u w',us = [u,w'] ∧ RelV x u ∧ RelV y w':=by
 cases r with
 | cons r1 r2 =>
   cases r2 with
   | cons r3 r4 => cases r4; exact ⟨_,_,rfl,r1,r3⟩
theorem aXQ (hc:X.calm = true):CallR X (.builtin "min") (fun xs H Q => ∃ i j,xs = [.int i,.int j] ∧ Q (.int (if j < i then j else i)) H):=by
 intro pins s σ H xs us Q I r h
 obtain ⟨i,j,rfl,q⟩:=h
 obtain ⟨u,w',rfl,⟨t,rfl⟩,⟨t',rfl⟩⟩:=aQ5 r
 refine min_two_ints (I.ok.hd hc) fun h' tk k => ⟨_,H,I.kept k,?_,q⟩
 by_cases hj:j < i
 · rw [if_pos hj,if_pos hj]; exact ⟨_,rfl⟩
 · rw [if_neg hj,if_neg hj]; exact ⟨_,rfl⟩
theorem call_int1:CallR X (.type "int") (fun xs H Q => (∃ i,xs = [.int i] ∧ Q (.int i) H) ∨ ∃ k,xs = [.bl k] ∧ Q (.int (if k then 1 else 0)) H):=by
 intro pins s σ H xs us Q I r h
 rcases h with ⟨i,rfl,q⟩ | ⟨k,rfl,q⟩
 · obtain ⟨u,rfl,t,rfl⟩:=fI r
   exact call_int_int ⟨.int i,H,I,⟨_,rfl⟩,q⟩
 · obtain ⟨u,rfl,r1⟩:=fI r
   cases r1
   exact call_int_bool ⟨.int (if k then 1 else 0),H,I.tok _,⟨_,rfl⟩,q⟩
def dZ4 (K:PySem.W.Frag) (x:V) (H:Hp) (n:Nat):Prop :=
 match x with
 | .str y => y.length ≤ sizeLine ∧ n = y.length
 | .byt y => y.size ≤ sizeLine ∧ n = y.size
 | .ref p => (∃ xs,SqL K H p xs ∧ n = xs.length) ∨ ∃ xs,SqT K H p xs ∧ n = xs.length
 | _ => False
theorem call_len:CallR X (.builtin "len") (fun xs H Q => ∃ x n,xs = [x] ∧ dZ4 X.K x H n ∧ Q (.int n) H):=by
 intro pins s σ H xs us Q I r h
 obtain ⟨x,n,rfl,e,q⟩:=h
 obtain ⟨u,rfl,rx⟩:=fI r
 have hl:=lA
 have hs:sizeLine = 16777216:=Gp
 cases x with
 | str y =>
   obtain ⟨t,rfl⟩:=rx
   obtain ⟨hy,e'⟩:y.length ≤ sizeLine ∧ n = y.length:=e
   subst e'
   exact len_str (by omega) ⟨.int _,H,I.tok _,⟨_,rfl⟩,q⟩
 | byt y =>
   obtain ⟨t,rfl⟩:=rx
   obtain ⟨hy,e'⟩:y.size ≤ sizeLine ∧ n = y.size:=e
   subst e'
   exact PySem.W.len_bytes (by omega) ⟨.int _,H,I.tok _,⟨_,rfl⟩,q⟩
 | ref p =>
   cases rx
   have e':(∃ xs,SqL X.K H p xs ∧ n = xs.length) ∨ ∃ xs,SqT X.K H p xs ∧ n = xs.length:=e
   rcases e' with ⟨xs,hx,e'⟩ | ⟨xs,hx,e'⟩
   · subst e'
     obtain ⟨its,r',pl,hz⟩:=I.list hx
     have hlen:=r'.length
     exact Calls.call_len_list pl.isList (by simp only [List.size_toArray]; omega) ⟨.int xs.length,H,I.tok _,⟨_,by simp only [List.size_toArray]; rw [hlen]⟩,q⟩
   · subst e'
     obtain ⟨its,r',pl,hz⟩:=I.tuple hx
     have hlen:=r'.length
     exact len_tuple pl (by simp only [List.size_toArray]; omega) ⟨.int xs.length,H,I.tok _,⟨_,by simp only [List.size_toArray]; rw [hlen]⟩,q⟩
 | _ => exact (show False from e).elim
end
end L2
namespace L2
open PySem PySem.Spec PyProof.Rows
structure ObjM (h:Heap) (x dx C:Addr) (mA:Str → Option Value):Prop where
 obj:h.get? x = some (PySem.W.instObj C dx)
 ns:h.Ns1 dx mA
 ne:dx ≠ x
theorem qZ {h:Heap} {dx:Addr} {mA:Str → Option Value} (n:h.Ns1 dx mA):∃ od,h.get? dx = some od ∧ ∀ name,PySem.W.lookIn name od = some (mA name):=by
 obtain ⟨o,es,ep,ho,hd,hk,_,hm⟩:=n
 refine ⟨o,ho,fun name => ?_⟩
 have e:=hm name
 unfold nsFind findBy at e
 rw [← Array.find?_toList] at e
 unfold PySem.W.lookIn
 rw [hd]
 dsimp only
 split
 · rename_i y q
   rw [q] at e
   exact Dq some e
 · rename_i q
   rw [q] at e
   have a:es.toList.any (·.refKey) = false:=by
     rw [List.any_eq_false]
     intro y hy
     obtain ⟨z,t,hkey⟩:=hk y (Array.mem_toList_iff.mp hy)
     simp [DictEntry.refKey,hkey]
   have a':¬ es.toList.any (·.refKey) = true:=by rw [a]; exact Al
   rw [if_neg a']
   exact Dq some e
theorem ObjM.look {h:Heap} {x dx C:Addr} {mA:Str → Option Value} (I:ObjM h x dx C mA):∃ od,PySem.W.InstAt h x (PySem.W.instObj C dx) C (some od) ∧ ∀ name,PySem.W.lookIn name od = some (mA name) :=
 let ⟨od,ho,hl⟩:=qZ I.ns
 ⟨od,⟨I.obj,rfl,rfl,ho⟩,hl⟩
section
variable {prog:Program} {w:World} {A:Around} {E:Value → Shared → Prop} {s:Shared} {K:PySem.W.Frag} {x dx C f:Addr} {mA:Str → Option Value} {name:Str} {v:Value}
end
theorem RelO.some_of {v:V} {o:Option Value} (r:RelO (some v) o):∃ u,o = some u ∧ RelV v u:=by
 cases o with
 | none => exact (show False from r).elim
 | some u => exact ⟨u,rfl,r⟩
theorem RelO.none_of {o:Option Value} (r:RelO none o):o = none:=by
 cases o with
 | none => rfl
 | some u => exact (show False from r).elim
section
variable {P:Program} {w:World} {H H':Hp} {h h':Heap} {a C dx:Addr} {fs fs':List (Str × V)}
end
structure Cls (K:PySem.W.Frag) (C:Addr):Prop where
 pg:PySem.W.plainGet K C Str.empty = true
 hd:PySem.W.hasDictIn K C = true
 po:PySem.W.plainOver K C = true
 sa:PySem.W.findIn K (.ref C) "__setattr__" = some (some (.builtin "object.__setattr__"))
theorem Cls.get {K:PySem.W.Frag} {C:Addr} (c:Cls K C) (f:Str):PySem.W.plainGet K C f = true:=c.pg
section
variable {X:Cx} {pins:List (Addr × Obj)} {σ:St} {H:Hp} {s:Shared} {a C dx:Addr} {fs:List (Str × V)} {f:Str} {v:V} {A:Around} {E:Value → Shared → Prop}
theorem Inv.made (I:Inv X pins σ H s):Inv X pins σ (upd (upd H s.heap.objs.size (.own (s.heap.objs.size + 1))) (s.heap.objs.size + 1) (.ins C s.heap.objs.size []))
   { s with heap:=(s.heap.push PySem.W.emptyDict).push (PySem.W.instObj C s.heap.objs.size) }:=by
 have e1:(s.heap.push PySem.W.emptyDict).get? s.heap.objs.size = some PySem.W.emptyDict:=Ax s.heap rfl
 have e2:((s.heap.push PySem.W.emptyDict).push (PySem.W.instObj C s.heap.objs.size)).get? (s.heap.objs.size + 1) = some (PySem.W.instObj C s.heap.objs.size):=by
   have:=Ax (s.heap.push PySem.W.emptyDict) (o:=PySem.W.instObj C s.heap.objs.size) rfl
   rwa [Er] at this
 have e3:(s.heap.push PySem.W.emptyDict).Ns s.heap.objs.size (fun _ => none):=⟨PySem.W.emptyDict,#[],_,e1,rfl,(fun e he => absurd he (by simp)),fun _ => rfl⟩
 have I1:=I.laid (a:=s.heap.objs.size) (o:=.own (s.heap.objs.size + 1)) (h':=s.heap.push PySem.W.emptyDict) (t':=s.toks) (fun b u q => Af _ q) (Ah _) ⟨_,e1⟩
 refine I1.laid (a:=s.heap.objs.size + 1) (o:=.ins C s.heap.objs.size []) (t':=s.toks) (fun b u q => Af _ q) (Nat.le_of_eq (Er _ _)) ?_
 have ne:s.heap.objs.size ≠ s.heap.objs.size + 1:=Bj (Nat.lt_succ_self _)
 refine ⟨by rw [aI ne,aB],Ct _,ne,e2,fun _ => none,(Heap.Ns1.of_empty e3).at fun o q => Af _ q,fun _ => True.intro,fun y hy => absurd rfl hy⟩
theorem bJG {prog:Program} {w:World} {env:Env} {e:Expr} {f:Str} {pos:Pos} {s:Shared} {Q:Value → Shared → Prop} (hb:attributeBase e f env (eval e env) = eval e env)
   (h:wpAny (model prog w) A (eval e env) (fun o s₁ => wpAny (model prog w) A (getAttr o f true) Q E s₁) E s):wpAny (model prog w) A (eval (.Attribute e f pos) env) Q E s :=
 Attribute_any_ h (by rw [arm_eval_Attribute,hb])
end
section
variable {X:Cx} {o e value:Expr} {f:Str} {pos pos' tpos:Pos} {ta tv:TE}
end
section
variable {X:Cx} {pins:List (Addr × Obj)} {σ:St} {H:Hp} {s:Shared} {A:Around} {E:Value → Shared → Prop} {Q:Value → Shared → Prop} {c:Value} {b:Bool}
end
end L2
namespace L2
open PySem PySem.Spec PyProof.Rows
structure Room (k:Nat) (A:Around):Prop where
 hd:A.handled = none
 dp:A.depth + 3 * k + 5 < recursionLimit
 un:A.units + 16 * k + 200 < cLine
theorem Room.mono {j k:Nat} {A:Around} (r:Room k A) (h:j ≤ k):Room j A:=⟨r.hd,by have:=r.dp; omega,by have:=r.un; omega⟩
theorem Room.deeper {k:Nat} {A:Around} (r:Room (k + 1) A) (env:Env):Room k (A.deeper env) :=
 ⟨r.hd,by have:=r.dp; show A.depth + 1 + 3 * k + 5 < _; omega,by have:=r.un; show A.units + 3 + 16 * k + 200 < _; omega⟩
theorem Room.in1 {k:Nat} {A:Around} (r:Room (k + 1) A):Room k A.in1 :=
 ⟨r.hd,by have:=r.dp; show A.depth + 3 * k + 5 < _; omega,by have:=r.un; show A.units + 1 + 16 * k + 200 < _; omega⟩
theorem xP {A:Around} {C:Addr} {us:List Value} {kw:List (Str × Value)}:(A.under (.builtin "type.__call__" ⟨.ref C :: us,kw⟩)).depth = A.depth + 1:=by
 first | rfl | simp [Around.under,Code.weight,Code.isCreation,Code.isGuard,Code.isCaller,Code.frames,Code.isFrame,guardIds]
theorem zH {A:Around} {C:Addr} {us:List Value} {kw:List (Str × Value)}:(A.under (.builtin "type.__call__" ⟨.ref C :: us,kw⟩)).units = A.units + 1:=by
 first | rfl | simp [Around.under,Code.cUnits,Code.frames,Code.isFrame]
theorem Room.make {k:Nat} {A:Around} (r:Room (k + 1) A) (C:Addr) (us:List Value) (kw:List (Str × Value)):Room k (A.under (.builtin "type.__call__" ⟨.ref C :: us,kw⟩)) :=
 ⟨r.hd,by have:=r.dp; rw [xP]; omega,by have:=r.un; rw [zH]; omega⟩
theorem Room.depth {k:Nat} {A:Around} (r:Room k A):A.depth < recursionLimit:=by have:=r.dp; omega
theorem Room.units {k:Nat} {A:Around} (r:Room k A):A.units + 64 < cLine:=by have:=r.un; omega
theorem Room.units0 {k:Nat} {A:Around} (r:Room k A):A.units < cLine:=by have:=r.un; omega
def vC:TA:=fun _ H Q => Q [] H
def zJ (ta:TE) (tr:TA):TA:=fun σ H Q => ta σ H fun x H1 => tr σ H1 fun xs H2 => Q (x :: xs) H2
section
variable {X:Cx} {e:Expr} {es:List Expr} {te:TE} {t:TA} {pos:Pos}
theorem aF:PA X [] vC:=fun _ _ _ _ H Q I h => Calls.spliced_nil ⟨[],H,I,.nil,h⟩
theorem aA (ha:PE X e te) (hr:PA X es t) (hs:starEach (e :: es) X.env = (false,eval e X.env) :: starEach es X.env:=by rfl):PA X (e :: es) (zJ te t):=by
 intro pos pins s σ H Q I h
 rw [hs]
 show wpAny _ _ (spliced ((false,eval e X.env) :: backTo pos (starEach es X.env))) _ _ s
 refine Calls.spliced_cons (thn (ha pins s σ H _ I h) fun u s1 ⟨x,H1,I1,r1,q1⟩ => ?_)
 exact thn (hr pos pins s1 σ H1 _ I1 q1) fun us s2 ⟨xs,H2,I2,r2,q2⟩ => ⟨x :: xs,H2,I2,.cons r1 r2,q2⟩
def dQY (t:TA):TE:=fun σ H Q => t σ H fun xs H1 => xs.length ≤ sizeLine ∧ ∀ p,H1 p = none → Q (.ref p) (upd H1 p (.tup xs))
def aJY (t:TA):TE:=fun σ H Q => t σ H fun xs H1 => xs.length ≤ sizeLine ∧ ∀ p,H1 p = none → Q (.ref p) (upd H1 p (.lst xs))
theorem iT {x1} (h:PA X es t):PE X (.Tuple es x1 pos) (dQY t):=by
 intro pins s σ H Q I hq
 refine wpAny_Tuple_spliced (thn (h pos pins s σ H _ I hq) fun us s1 ⟨xs,H1,I1,r,z,q⟩ => ⟨by rw [← r.length]; exact z,?_⟩)
 have hf:H1 s1.heap.objs.size = none:=I1.hok.fresh (Ah _)
 refine ⟨.ref s1.heap.objs.size,upd H1 s1.heap.objs.size (.tup xs),I1.laid (t':=s1.toks) (fun b u e => Af _ e) (Ah _) ?_,rfl,q _ hf⟩
 exact ⟨z,us,r,⟨_,Ax _ rfl,rfl,_,rfl⟩⟩
theorem cD (h:PA X es t):PE X (.List es pos) (aJY t):=by
 intro pins s σ H Q I hq
 refine wpAny_List_spliced (thn (h pos pins s σ H _ I hq) fun us s1 ⟨xs,H1,I1,r,z,q⟩ => ⟨by rw [← r.length]; exact z,?_⟩)
 have hf:H1 s1.heap.objs.size = none:=I1.hok.fresh (Ah _)
 refine ⟨.ref s1.heap.objs.size,upd H1 s1.heap.objs.size (.lst xs),I1.laid (t':=s1.toks) (fun b u e => Af _ e) (Ah _) ?_,rfl,q _ hf⟩
 exact ⟨z,us,0,r,Ax _ rfl⟩
end
abbrev Sp:=List V → Hp → VK → XK → Prop
abbrev CXT:=List Env → Hp → Shared → XK → Value → Shared → Prop
structure Env0 (P:Program) (w:World) (K:PySem.W.Frag) (mg:Str → Option Value) (base:Heap) (A:Around) (outer:List Env) (s:Shared) (H:Hp):Prop where
 frames:A.frames = some outer
 mod:Mod K mg base
 bs:∀ b o,base.get? b = some o → s.heap.get? b = some o ∧ H b = none
 bsz:base.objs.size ≤ s.heap.objs.size
 funs:s.heap.FunFrames base outer
 frf:∀ b ∈ frs outer,H b = none
 hok:HOk P w H s.heap
 bare:AllBare s.gens
def CE (outer:List Env) (P:Program) (w:World) (H:Hp) (s:Shared) (Q:VK) (u:Value) (s':Shared):Prop :=
 ∃ v H',s'.os = s.os ∧ AllBare s'.gens ∧ Un (frs outer) [] H H' s.heap s'.heap ∧ HOk P w H' s'.heap ∧ RelV v u ∧ Q v H'
def CR (CX:CXT) (outer:List Env) (P:Program) (w:World) (H:Hp) (s:Shared) (Q:VK) (E:XK) (r:Result) (s':Shared):Prop :=
 match r with
 | .ok (.ret u) => CE outer P w H s Q u s'
 | .ok _ => False
 | .error e => CX outer H s E e s'
structure FnOk (P:Program) (w:World) (K:PySem.W.Frag) (mg:Str → Option Value) (base:Heap) (CX:CXT) (k:Nat) (f:Addr) (fd:FuncData) (ps:List Str) (sp:Sp):Prop where
 len:∀ vs H Q E,sp vs H Q E → vs.length = ps.length
 run:∀ (A:Around) (outer:List Env) (s:Shared) (H:Hp) (args:Args) (us:List Value) (vs:List V) (Q:VK) (E:XK),Room k A → Env0 P w K mg base A outer s H → BindsTo s fd args (ps.zip us) → Vals vs us → sp vs H Q E →
   codeAny (model P w) A (.call (.ref f) args) (CR CX outer P w H s Q E) s
theorem FnOk.mono {P:Program} {w:World} {K:PySem.W.Frag} {mg:Str → Option Value} {base:Heap} {CX:CXT} {j k:Nat} {f:Addr} {fd:FuncData} {ps:List Str} {sp:Sp} (F:FnOk P w K mg base CX j f fd ps sp) (h:j ≤ k) :
   FnOk P w K mg base CX k f fd ps sp:=⟨F.len,fun A outer s H args us vs Q E hr => F.run A outer s H args us vs Q E (hr.mono h)⟩
theorem FnOk.imp {P:Program} {w:World} {K:PySem.W.Frag} {mg:Str → Option Value} {base:Heap} {CX:CXT} {k:Nat} {f:Addr} {fd:FuncData} {ps:List Str} {sp sp':Sp} (F:FnOk P w K mg base CX k f fd ps sp)
   (h:∀ vs H Q E,sp' vs H Q E → sp vs H Q E):FnOk P w K mg base CX k f fd ps sp' :=
 ⟨fun vs H Q E q => F.len vs H Q E (h _ _ _ _ q),fun A outer s H args us vs Q E hr he hb hv hs => F.run A outer s H args us vs Q E hr he hb hv (h _ _ _ _ hs)⟩
theorem Env0.make {P:Program} {w:World} {K:PySem.W.Frag} {mg:Str → Option Value} {base:Heap} {A:Around} {outer:List Env} {s:Shared} {H:Hp} (e:Env0 P w K mg base A outer s H) (C:Addr) (us:List Value) (kw:List (Str × Value)) :
   Env0 P w K mg base (A.under (.builtin "type.__call__" ⟨.ref C :: us,kw⟩)) outer s H:=⟨by first | exact e.frames | (simpa [Around.under,Code.envs,Code.isFrame,pushEnvs] using e.frames),e.mod,e.bs,e.bsz,e.funs,e.frf,e.hok,e.bare⟩
theorem Env0.in1 {P:Program} {w:World} {K:PySem.W.Frag} {mg:Str → Option Value} {base:Heap} {A:Around} {outer:List Env} {s:Shared} {H:Hp} (e:Env0 P w K mg base A outer s H) :
   Env0 P w K mg base A.in1 outer s H:=⟨e.frames,e.mod,e.bs,e.bsz,e.funs,e.frf,e.hok,e.bare⟩
section
variable {X:Cx} {pins:List (Addr × Obj)} {σ:St} {H:Hp} {s s':Shared}
theorem Inv.env0 (I:Inv X pins σ H s):Env0 X.prog X.w X.K X.mg X.base X.A X.stack s H :=
 ⟨I.ok.frames,I.ok.mod,I.bs,Bb I.ok.bsz I.sz,I.stack,I.stkFree,I.hok,I.bare⟩
theorem Inv.after {Q:VK} {u:Value} (I:Inv X pins σ H s) (h:CE X.stack X.prog X.w H s Q u s'):EP X pins σ Q u s':=by
 obtain ⟨v,H',os,bare,un,hok,r,q⟩:=h
 obtain ⟨hh,g,d,t,os'⟩:=s'
 obtain rfl:os' = s.os:=os
 exact ⟨v,H',I.call (h':=hh) (g':=g) (d':=d) (t':=t) (ch:=[]) un hok bare (fun b z => absurd z (by simp)),r,q⟩
end
def aQN (sp:Sp) (dvs:List V) (E:XK) (t:TA):TE:=fun σ H Q => t σ H fun vs H1 => sp (vs ++ dvs) H1 Q E
def Binds (K:PySem.W.Frag) (fd:FuncData) (ps:List Str) (ds:List Value):Prop :=
 ∀ (s:Shared) (us:List Value),K.In s.heap → (us ++ ds).length = ps.length → BindsTo s fd ⟨us,[]⟩ (ps.zip (us ++ ds))
theorem Binds.all {K:PySem.W.Frag} {fd:FuncData} {ps:List Str} (h:∀ us:List Value,us.length = ps.length → bindArgs fd ⟨us,[]⟩ = pure (ps.zip us)):Binds K fd ps []:=fun s us _ hl => by
 rw [Bk] at hl ⊢
 exact .of_eq (h us hl)
def mJ (CX:CXT) (X:Cx) (E:XK):Prop:=∀ (pins:List (Addr × Obj)) (σ:St) (H:Hp) (s:Shared) (e:Value) (s':Shared),Inv X pins σ H s → CX X.stack H s E e s' → X.xe e s'
section
variable {X:Cx} {CX:CXT} {k:Nat} {f C:Addr} {fd:FuncData} {ps:List Str} {sp:Sp} {dvs:List V} {ds:List Value} {E:XK} {x m:Str} {p pos apos:Pos} {e o:Expr} {es:List Expr} {ta:TE} {t:TA}
theorem cX8 {pins:List (Addr × Obj)} {σ:St} {H:Hp} {s:Shared} {Q:VK} {us:List Value} {vs:List V} (F:FnOk X.prog X.w X.K X.mg X.base CX k f fd ps sp) (hr:Room k X.A) (hb:Binds X.K fd ps ds) (hd:Vals dvs ds) (hx:mJ CX X E)
   (I:Inv X pins σ H s) (r:Vals vs us) (h:sp (vs ++ dvs) H Q E):wpAny (model X.prog X.w) X.A (call (.ref f) us) (EP X pins σ Q) X.xe s:=by
 have r2:Vals (vs ++ dvs) (us ++ ds):=r.append hd
 have hl:(us ++ ds).length = ps.length:=by rw [← r2.length]; exact F.len _ _ _ _ h
 refine Fu (Eh (F.run X.A X.stack s H ⟨us,[]⟩ (us ++ ds) (vs ++ dvs) Q E hr I.env0 (hb s us I.kIn hl) r2 h) fun r s' hq => ?_)
 cases r with
 | error e => exact hx pins σ H s e s' I hq
 | ok fl =>
   cases fl with
   | ret u => exact I.after hq
   | next => exact False.elim hq
   | brk => exact False.elim hq
   | cont => exact False.elim hq
theorem aQM (F:FnOk X.prog X.w X.K X.mg X.base CX k f fd ps sp) (hr:Room k X.A) (hg:Gl X x) (hm:X.mg x = some (.ref f)) (hk:PySem.W.keepIn X.K (.ref f) = true) (hb:Binds X.K fd ps ds) (hd:Vals dvs ds) (hx:mJ CX X E)
   (ha:PA X (e :: es) t) (hdb:(x == ("__debug__" : Str)) = false:=by decide) (he:starEach (e :: es) X.env = (false,eval e X.env) :: starEach es X.env:=by rfl) (hpl:(backTo pos (starEach es X.env)).any (·.1) = false:=by rfl) :
   PE X (.Call (.Name x p) (e :: es) [] pos) (aQN sp dvs E t):=by
 intro pins s σ H Q I h
 refine Dz (iA I hg hm ?_ hdb)
 refine PySem.W.callWith_K (h₀:=X.base) I.ok.mod.kin hk (thn (ha pos pins s σ H _ I h) fun us s1 ⟨vs,H1,I1,r,q⟩ => ⟨I1.kIn,?_⟩) he hpl
 exact cX8 F hr hb hd hx I1 r q
end
def PK (X:Cx) (kws:List Keyword) (t:TA):Prop :=
 ∀ (pos:Pos) (pins:List (Addr × Obj)) (s:Shared) (σ:St) (H:Hp) (Q:List V → Hp → Prop),Inv X pins σ H s → t σ H Q → wpAny (model X.prog X.w) X.A (evalAll ((backToKw pos (keywordEach kws X.env)).map (·.2))) (AP X pins σ Q) X.xe s
section
variable {X:Cx} {CX:CXT} {k:Nat} {f C:Addr} {fd:FuncData} {ps ks:List Str} {sp:Sp} {E:XK} {x m:Str} {p pos apos kpos:Pos} {e o:Expr} {es:List Expr} {kws:List Keyword} {te ta:TE} {t tk:TA} {nm:Option Str}
theorem cZ2:PK X [] vC:=fun _ _ _ _ H Q I h => wpAny_evalAll_nil ⟨[],H,I,.nil,h⟩
theorem cQM (ha:PE X e te) (hr:PK X kws t):PK X (⟨nm,e,kpos⟩ :: kws) (zJ te t):=by
 intro pos pins s σ H Q I h
 show wpAny _ _ (evalAll ((do let v ← eval e X.env; standAt pos; pure v) :: (backToKw pos (keywordEach kws X.env)).map (·.2))) _ _ s
 refine wpAny_evalAll_cons (Ae (thn (ha pins s σ H _ I h) fun u s1 ⟨x,H1,I1,r1,q1⟩ => Ae (Fb (Am ?_))))
 exact thn (hr pos pins s1 σ H1 _ I1 q1) fun us s2 ⟨xs,H2,I2,r2,q2⟩ => ⟨x :: xs,H2,I2,.cons r1 r2,q2⟩
variable {g:List Value → List Value → List Value} {gV:List V → List V → List V}
end
structure FnScope (N P:List Str) (sc:Scope):Prop where
 kind:sc.kind = .function
 co:sc.isCoroutine = false
 gen:sc.isGenerator = false
 nd:N.Nodup
 pre:N.take P.length = P
 par:∀ x ∈ P,sc.names.lookup x = some .local ∨ sc.names.lookup x = some .cell
 nofree:∀ y ∈ sc.names,y.2 ≠ .free
theorem rX {kindOf:Str → Option NameKind} {x:Str}:∀ {binds:List (Str × Value)} {m:Str → Option Value},(∀ v,(x,v) ∉ binds) → bindL kindOf binds m x = m x
 | [],_,_ => rfl
 | (n,v) :: r,m,h => by
   unfold bindL
   rw [rX fun w hw => h w (Ao _ hw)]
   split
   · have:x ≠ n:=by rintro rfl; exact h v An
     simp [this]
   · rfl
theorem sE {kindOf:Str → Option NameKind} {x:Str}:∀ {binds:List (Str × Value)} {m:Str → Option Value},(∀ v,(x,v) ∉ binds) → bindC kindOf binds m x = m x
 | [],_,_ => rfl
 | (n,v) :: r,m,h => by
   unfold bindC
   rw [sE fun w hw => h w (Ao _ hw)]
   split
   · rfl
   · have:x ≠ n:=by rintro rfl; exact h v An
     simp [this]
theorem rW {kindOf:Str → Option NameKind} {x:Str} {v:Value}:∀ {P:List Str} {vs:List Value} {i:Nat} {m:Str → Option Value},P.Nodup → P[i]? = some x → vs[i]? = some v → kindOf x = some .local →
   bindL kindOf (P.zip vs) m x = some v
 | [],_,_,_,_,h,_,_ => by simp at h
 | _ :: _,[],_,_,_,_,h,_ => by simp at h
 | p :: P,w :: vs,0,m,nd,h1,h2,hk => by
   simp at h1 h2; subst h1; subst h2
   show bindL kindOf ((p,w) :: P.zip vs) m p = _
   unfold bindL
   rw [rX fun v hv => (Bx.mp nd).1 (Dt hv).1,if_pos hk]
   simp
 | p :: P,w :: vs,i + 1,m,nd,h1,h2,hk => by
   show bindL kindOf ((p,w) :: P.zip vs) m x = _
   unfold bindL
   exact rW (i:=i) (List.nodup_cons.mp nd).2 (by simpa using h1) (by simpa using h2) hk
theorem qS {kindOf:Str → Option NameKind} {x:Str} {v:Value}:∀ {P:List Str} {vs:List Value} {i:Nat} {m:Str → Option Value},P.Nodup → P[i]? = some x → vs[i]? = some v → kindOf x ≠ some .local →
   bindC kindOf (P.zip vs) m x = some v
 | [],_,_,_,_,h,_,_ => by simp at h
 | _ :: _,[],_,_,_,_,h,_ => by simp at h
 | p :: P,w :: vs,0,m,nd,h1,h2,hk => by
   simp at h1 h2; subst h1; subst h2
   show bindC kindOf ((p,w) :: P.zip vs) m p = _
   unfold bindC
   rw [sE fun v hv => (Bx.mp nd).1 (Dt hv).1,if_neg hk]
   simp
 | p :: P,w :: vs,i + 1,m,nd,h1,h2,hk => by
   show bindC kindOf ((p,w) :: P.zip vs) m x = _
   unfold bindC
   exact qS (i:=i) (List.nodup_cons.mp nd).2 (by simpa using h1) (by simpa using h2) hk
def lS (N:List Str) (vs:List V):St:=vs.map some ++ List.replicate (N.length - vs.length) none
def fY (CX:CXT) (P:Program) (w:World) (K:PySem.W.Frag) (mg:Str → Option Value) (base:Heap) (N:List Str) (qual:Str) (scope:Scope) (f:Addr) (cd:Value) (A:Around) (outer:List Env) (s:Shared) (H:Hp) (E:XK):Cx where
 prog:=P
 w:=w
 K:=K
 mg:=mg
 base:=base
 A:=A.deeper (envOfC qual scope s.heap.objs.size f cd)
 N:=N
 s₀:=s
 H₀:=H
 env:=envOfC qual scope s.heap.objs.size f cd
 outer:=outer
 stack:=envOfC qual scope s.heap.objs.size f cd :: outer
 ex:=[]
 calm:=true
 fn:=fun _ => true
 pn:=[]
 xe:=fun e s' => wpAny (model P w) (A.deeper (envOfC qual scope s.heap.objs.size f cd)) (leaving (envOfC qual scope s.heap.objs.size f cd) e) (fun _ s'' => CX outer H s E e s'') (fun e' s'' => CX outer H s E e' s'') s'
theorem cG {sc:Scope} {n:Nat} {x:Str} (h:sc.names.lookup x = some .cell):∃ c,(cellsFrom n sc.names []).lookup x = some c:=by
 have q:=PySem.W.cellsFrom_some sc.names n [] (.inl h)
 exact Ek.mp q
theorem aX3 {CX:CXT} {P:Program} {w:World} {K:PySem.W.Frag} {mg:Str → Option Value} {base:Heap} {N ps:List Str} {qual:Str} {scope:Scope} {f:Addr} {cd:Value} {A:Around} {outer:List Env} {s s1:Shared} {H:Hp} {E:XK} {us:List Value} {vs:List V}
   (S:FnScope N ps scope) (hd:A.handled = none) (e0:Env0 P w K mg base A outer s H) (hl:vs.length = ps.length) (r:Vals vs us)
   (x:InCallC s s.heap.objs.size (bindL (envOfC qual scope s.heap.objs.size f cd).kindOf (ps.zip us) fun _ => none) (cellsFrom (s.heap.objs.size + 1) scope.names []) (bindC (envOfC qual scope s.heap.objs.size f cd).kindOf (ps.zip us) fun _ => none) s1) :
   Inv (fY CX P w K mg base N qual scope f cd A outer s H E) [] (lS N vs) H s1:=by
 have hpl:ps.length ≤ N.length:=by have:=Dq List.length S.pre; rw [Bl] at this; omega
 obtain ⟨h1,tk,rfl,hk⟩:=x.done
 have noA:∀ b:Addr,b ∉ (fY CX P w K mg base N qual scope f cd A outer s H E).ex:=fun b z => absurd (show b ∈ ([]:List Addr) from z) (by simp)
 refine ⟨⟨e0.mod,S.kind,rfl,rfl,Ah _,fun y z c h1 h2 => ?_,fun y hy => ?_,fun y c _ h => ?_,fun _ => hd,Around.frames_deeper e0.frames,.inr ⟨rfl,rfl⟩,fun b z => absurd z (noA b),e0.bs,e0.bsz,fun b _ _ => noA b,fun b z => absurd z (noA b),e0.funs,e0.frf⟩,
   rfl,e0.bare,Un.kept hk,⟨_,x.toInCall.ns,fun i y v h1 h2 h3 => ?_⟩,fun y c h => ⟨_,x.cell y c h⟩,e0.hok.fresh (Nat.le_refl _),fun y c h => ?_,fun p hp => absurd (show p ∈ ([]:List (Addr × Obj)) from hp) (by simp),e0.hok.kept hk,?_⟩
 · exact name_of_addr x.apart (Cv h1) (Cv h2)
 · have hy:scope.names.lookup y = some .cell ∨ scope.names.lookup y = some .free:=hy
   rcases hy with hy | hy
   · exact cG hy
   · exact absurd rfl (S.nofree _ (Cv hy))
 · exact Nat.le_of_lt (x.above y c (Cv h))
 · have hi:i < vs.length:=by
     unfold lS at h2
     by_cases hi:i < vs.length
     · exact hi
     · rw [List.getElem?_append_right (by simpa using hi)] at h2
       rw [List.getElem?_replicate] at h2
       split at h2 <;> cases h2
   have ha:vs[i]? = some v:=by
     unfold lS at h2
     rw [List.getElem?_append_left (by simpa using hi),List.getElem?_map] at h2
     cases e:vs[i]? with
     | none => rw [e] at h2; cases h2
     | some a => rw [e] at h2; cases h2; rfl
   obtain ⟨u,hu,rv⟩:=r.get ha
   have hp:ps[i]? = some y:=by
     rw [← S.pre,List.getElem?_take_of_lt (by omega)]; exact h1
   have ndP:ps.Nodup:=by rw [← S.pre]; exact S.nd.sublist (Ga _ _)
   refine ⟨u,rv,?_⟩
   rcases S.par y (Ai hp) with k | k
   · exact .inl ⟨k,rW ndP hp hu k⟩
   · obtain ⟨c,e⟩:=cG (n:=s.heap.objs.size + 1) k
     refine .inr ⟨.inl k,c,e,?_⟩
     have q:=x.cell y c e
     rw [qS ndP hp hu (by show scope.names.lookup y ≠ _; rw [k]; decide)] at q
     exact q
 · exact e0.hok.fresh (Nat.le_of_lt (x.above y c (Cv h)))
 · unfold lS
   show _ = N.length
   rw [Aj,Ab,List.length_replicate]
   omega
theorem cQ3 {CX:CXT} {P:Program} {w:World} {K:PySem.W.Frag} {mg:Str → Option Value} {base:Heap} {k:Nat} {f:Addr} {name qual:Str} {params:Arguments} {body:List Stmt} {scope:Scope} {dV kV doc pm cdv ct oc:Value} {an od:Option Addr}
   {osl:Array (Option Value)} {N ps:List Str} {sp:Sp} (lk:K.lookup f = some ⟨oc,od,.func (PySem.W.fnOf name qual params body scope dV kV doc pm an cdv ct),osl⟩) (hcd:PySem.W.codeIn K cdv qual = true) (S:FnScope N ps scope)
   (len:∀ vs H Q E,sp vs H Q E → vs.length = ps.length)
   (hbody:∀ (A:Around) (outer:List Env) (s:Shared) (H:Hp) (vs:List V) (Q:VK) (E:XK),Room k (A.deeper (envOfC qual scope s.heap.objs.size f cdv)) → sp vs H Q E →
     ∃ t,PSs (fY CX P w K mg base N qual scope f cdv A outer s H E) body t ∧ t { nx:=fun _ H' => Q .non H',rt:=Q } (lS N vs) H) :
   FnOk P w K mg base CX (k + 1) f (PySem.W.fnOf name qual params body scope dV kV doc pm an cdv ct) ps sp:=by
 refine ⟨len,fun A outer s H args us vs Q E hr e0 hb r hsp => ?_⟩
 have hl:=len _ _ _ _ hsp
 have KX:K.In s.heap:=e0.mod.kin.keeps fun b o e => (e0.bs b o e).1
 have lim:s.heap.NoLimit:=e0.mod.nolimit.keeps fun b o e => (e0.bs b o e).1
 have hkind:∀ y ∈ ps.zip us,scope.names.lookup y.1 = some .local ∨ (scope.names.lookup y.1 = some .cell ∧ ((cellsFrom (s.heap.objs.size + 1) scope.names []).lookup y.1).isSome = true):=fun ⟨n,v⟩ hy => by
   rcases S.par n (Dt hy).1 with q | q
   · exact .inl q
   · exact .inr ⟨q,PySem.W.cellsFrom_some _ _ _ (.inl q)⟩
 refine codeAny_call_function hr.depth (KX _ _ lk) rfl S.co S.gen rfl (PySem.W.codeRec_of KX hcd) (hb _ _ _ _ ?_)
 refine wpAny_newFunctionEnv_cells S.kind hkind fun env he s1 x => ?_
 subst he
 refine ⟨lim.keeps x.toInCall.keep,codeAny_func ?_⟩
 obtain ⟨t,ht,hq⟩:=hbody A outer s H vs Q E (hr.deeper _) hsp
 have I:Inv (fY CX P w K mg base N qual scope f cdv A outer s H E) [] (lS N vs) H s1:=aX3 S hr.hd e0 hl r x
 refine Cf (ht [] s1 (lS N vs) H _ I hq) (fun fl s' hs => ?_) fun e s' hs => hs
 have fin:∀ {σ':St} {H':Hp} {v:V} {u:Value},Inv (fY CX P w K mg base N qual scope f cdv A outer s H E) [] σ' H' s' → RelV v u → Q v H' → CE outer P w H s Q u s' :=
   fun {σ' H' v u} J rv q => ⟨v,H',J.os,J.bare,J.base,J.hok,rv,q⟩
 cases fl with
 | ret u =>
   obtain ⟨v,σ',H',J,rv,q⟩:=hs
   exact fin J rv q
 | next =>
   obtain ⟨σ',H',J,q⟩:=hs
   exact fin (v:=V.non) (u:=Value.none) J rfl q
 | brk =>
   obtain ⟨_,_,_,q⟩:=hs
   exact False.elim q
 | cont =>
   obtain ⟨_,_,_,q⟩:=hs
   exact False.elim q
end L2
namespace L2
open PySem PySem.Spec PyProof.Rows
section
variable {X:Cx} {x:Str} {p pos:Pos} {e:Expr} {es:List Expr} {t:TA} {id T:String} {r:List V → Hp → VK → Prop}
def tCB (r:List V → Hp → VK → Prop) (t:TA):TE:=fun σ H Q => t σ H fun vs H1 => r vs H1 Q
theorem bJ (hc:CallR X (.builtin id) r) (hg:Gl X x) (hm:X.mg x = none) (hv:bootBuiltins x = some (.builtin id)) (ha:PA X (e :: es) t) (hn:x ≠ "__name__" := by decide) (hdb:(x == ("__debug__" : Str)) = false:=by decide)
   (he:starEach (e :: es) X.env = (false,eval e X.env) :: starEach es X.env:=by rfl) (hpl:(backTo pos (starEach es X.env)).any (·.1) = false:=by rfl):PE X (.Call (.Name x p) (e :: es) [] pos) (tCB r t):=by
 intro pins s σ H Q I h
 refine Dz (lC I hg hm hv ?_ hn hdb)
 exact PyProof.Rows.callWith_builtin1 (thn (ha pos pins s σ H _ I h) fun us s1 ⟨vs,H1,I1,r1,q1⟩ => hc pins s1 σ H1 vs us Q I1 r1 q1) he hpl
theorem bT (hc:CallR X (.type T) r) (hg:Gl X x) (hm:X.mg x = none) (hv:bootBuiltins x = some (.type T)) (ha:PA X (e :: es) t) (hn:x ≠ "__name__" := by decide) (hdb:(x == ("__debug__" : Str)) = false:=by decide)
   (he:starEach (e :: es) X.env = (false,eval e X.env) :: starEach es X.env:=by rfl) (hpl:(backTo pos (starEach es X.env)).any (·.1) = false:=by rfl):PE X (.Call (.Name x p) (e :: es) [] pos) (tCB r t):=by
 intro pins s σ H Q I h
 refine Dz (lC I hg hm hv ?_ hn hdb)
 exact Dj (thn (ha pos pins s σ H _ I h) fun us s1 ⟨vs,H1,I1,r1,q1⟩ => hc pins s1 σ H1 vs us Q I1 r1 q1) he hpl
end
end L2
namespace HT
open PySem PyProof.Rows
section
open PySem.SeqAt
open PySem.AutoSeq1 (wpAny_loadPart')
open PySem.MeetsSeq PySem.MeetsSeq2 PySem.MeetsSeq3
end
section
variable {prog:Program} {w:World} {A:Around} {E:Value → Shared → Prop} {s:Shared}
def sIx (n d:Nat):Option Int → Nat
 | none => d
 | some v => if v < 0 then (v + (n:Int)).toNat else min v.toNat n
end
end HT
namespace L2
open PySem PySem.Spec PyProof.Rows
abbrev TO:=St → Hp → (Option Int → Hp → Prop) → Prop
def PO (X:Cx) (e:Option Expr) (t:TO):Prop :=
 ∀ (pins:List (Addr × Obj)) (s:Shared) (σ:St) (H:Hp) (Q:Option Int → Hp → Prop),Inv X pins σ H s → t σ H Q →
   wpAny (model X.prog X.w) X.A (evalPart e X.env) (fun u s' => ∃ o H',Inv X pins σ H' s' ∧ IsPart u o ∧ Q o H') X.xe s
def aQP:TO:=fun _ H Q => Q none H
section
variable {X:Cx} {e:Expr} {te:TE} {lo hi:Option Expr} {tl th:TO} {pos p2:Pos}
theorem bJW:PO X none aQP:=by
 intro pins s σ H Q I h
 rw [evalPart_none]
 exact Am ⟨none,H,I,.none,h⟩
def SlR (X:Cx) (r:V → Option Int → Option Int → Hp → VK → Prop):Prop :=
 ∀ (pins:List (Addr × Obj)) (s:Shared) (σ:St) (H:Hp) (x:V) (v vl vu:Value) (lo hi:Option Int) (sl:Addr) (Q:VK),Inv X pins σ H s → RelV x v → s.heap.IsSliceOf sl vl vu .none → IsPart vl lo → IsPart vu hi → r x lo hi H Q →
   ∃ T id,typeLookup (.type T) "__getitem__" = pure (some (.builtin id)) ∧ s.TypeIs v T ∧ wpAny (model X.prog X.w) X.A (getItem v (.ref sl)) (EP X pins σ Q) X.xe s
theorem SlR.or {r r':V → Option Int → Option Int → Hp → VK → Prop} (h:SlR X r) (h':SlR X r'):SlR X (fun x lo hi H Q => r x lo hi H Q ∨ r' x lo hi H Q):=by
 intro pins s σ H x v vl vu lo hi sl Q I rx hs pl pu q
 rcases q with q | q
 · exact h pins s σ H x v vl vu lo hi sl Q I rx hs pl pu q
 · exact h' pins s σ H x v vl vu lo hi sl Q I rx hs pl pu q
def tSl (r:V → Option Int → Option Int → Hp → VK → Prop) (te:TE) (tl th:TO):TE:=fun σ H Q => te σ H fun x H1 => tl σ H1 fun l H2 => th σ H2 fun u H3 => r x l u H3 Q
theorem pT {r:V → Option Int → Option Int → Hp → VK → Prop} (hr:SlR X r) (he:PE X e te) (hl:PO X lo tl) (hu:PO X hi th):PE X (.Subscript e (.Slice lo hi none p2) pos) (tSl r te tl th):=by
 intro pins s σ H Q I h
 refine Subscript_ (thn (he pins s σ H _ I h) fun v s1 ⟨x,H1,I1,r1,q1⟩ => ?_)
 refine wpAny_Slice (thn (hl pins s1 σ H1 _ I1 q1) fun vl s2 ⟨l,H2,I2,pl,q2⟩ => thn (hu pins s2 σ H2 _ I2 q2) fun vu s3 ⟨u,H3,I3,pu,q3⟩ => ?_)
 rw [evalPart_none]
 refine Am ?_
 have I4:Inv X pins σ H3 { s3 with heap:=s3.heap.push { cls:=.type "slice",data:=.fields #[vl,vu,.none] } }:=I3.kept (t':=s3.toks) fun b ob q => Af _ q
 obtain ⟨T,id,hT,ht,hg⟩:=hr pins { s3 with heap:=s3.heap.push { cls:=.type "slice",data:=.fields #[vl,vu,.none] } } σ H3 x v vl vu l u s3.heap.objs.size Q I4 r1 (Heap.IsSliceOf.new ..) pl pu q3
 show wpAny (model X.prog X.w) X.A (subscriptTail e (.Slice lo hi none p2) v (.ref s3.heap.objs.size)) (EP X pins σ Q) X.xe { s3 with heap:=s3.heap.push { cls:=.type "slice",data:=.fields #[vl,vu,.none] } }
 exact tail_any (ops:=[.ref s3.heap.objs.size,v]) ht hT hg (by with_unfolding_all rfl)
def mR (xs:List V) (lo hi:Option Int):List V:=(xs.drop (HT.sIx xs.length 0 lo)).take (HT.sIx xs.length xs.length hi - HT.sIx xs.length 0 lo)
theorem uW (xs:List V) (lo hi:Option Int):(mR xs lo hi).length ≤ xs.length:=by
 unfold mR
 rw [Bl,Ck]
 omega
end
end L2
namespace L2
open PySem PySem.Spec PyProof.Rows
def ixN (n:Nat) (i:Int):Option Nat:=if 0 ≤ i then (if i < n then some i.toNat else none) else if -(n:Int) ≤ i then some (i + n).toNat else none
def atI {α:Type} (xs:List α) (i:Int):Option α:=(ixN xs.length i).bind fun j => xs[j]?
theorem aQO {n:Nat} {i:Int} {j:Nat} (h:ixN n i = some j):seqIndex? i n = some j ∧ j < n ∧ -(n:Int) ≤ i ∧ i < n:=by
 unfold ixN at h
 by_cases h0:0 ≤ i
 · rw [if_pos h0] at h
   by_cases h1:i < n
   · rw [if_pos h1] at h
     have e:i.toNat = j:=Bs h
     exact ⟨by rw [seqIndex_of h0 h1,e],by omega,by omega,h1⟩
   · rw [if_neg h1] at h; cases h
 · rw [if_neg h0] at h
   by_cases h1:-(n:Int) ≤ i
   · rw [if_pos h1] at h
     have e:(i + n).toNat = j:=Bs h
     exact ⟨by rw [seqIndex_neg (by omega) h1,e],by omega,h1,by omega⟩
   · rw [if_neg h1] at h; cases h
theorem sJ {α:Type} {xs:List α} {i:Int} {v:α} (h:atI xs i = some v):∃ j,seqIndex? i xs.length = some j ∧ xs[j]? = some v ∧ j < xs.length ∧ -(xs.length:Int) ≤ i ∧ i < xs.length:=by
 unfold atI at h
 cases e:ixN xs.length i with
 | none => rw [e] at h; cases h
 | some j =>
   rw [e] at h
   obtain ⟨h1,h2,h3,h4⟩:=aQO e
   exact ⟨j,h1,h,h2,h3,h4⟩
theorem eK {α:Type} {xs:List α} {j:Nat} {v:α} (h:xs[j]? = some v):atI xs (j:Int) = some v:=by
 have hj:j < xs.length:=(Ad.mp h).1
 have e:ixN xs.length (j:Int) = some j:=by
   unfold ixN
   rw [if_pos (by omega),if_pos (by omega)]; simp
 unfold atI; rw [e]; exact h
theorem wL {α:Type} (xs:List α) (v:α):atI (xs ++ [v]) (-1) = some v:=by
 have hl:(xs ++ [v]).length = xs.length + 1:=by simp
 have e:ixN (xs ++ [v]).length (-1) = some xs.length:=by
   unfold ixN
   rw [hl,if_neg (by decide),if_pos (by omega)]
   congr 1
   omega
 unfold atI
 rw [e]
 show (xs ++ [v])[xs.length]? = some v
 simp
def bJI (b:Expr):Prop:=∀ o i,subscripted b false o i = operate [o,i] (getItem o i)
def IxR (X:Cx) (r:R2):Prop :=
 ∀ (value slice:Expr) (pins:List (Addr × Obj)) (s:Shared) (σ:St) (H:Hp) (x y:V) (v u:Value) (Q:VK),Inv X pins σ H s → RelV x v → RelV y u → r x y H Q →
   subscripted slice false v u = operate [v,u] (getItem v u) → wpAny (model X.prog X.w) X.A (subscriptTail value slice v u) (EP X pins σ Q) X.xe s
def MtR (X:Cx) (id:String) (r:V → List V → Hp → VK → Prop):Prop :=
 ∀ (pins:List (Addr × Obj)) (s:Shared) (σ:St) (H:Hp) (x:V) (xs:List V) (v:Value) (us:List Value) (Q:VK),Inv X pins σ H s → RelV x v → Vals xs us → r x xs H Q →
   wpAny (model X.prog X.w) X.A (call (.builtin id) (v :: us)) (EP X pins σ Q) X.xe s
section
variable {X:Cx} {a b:Expr} {ta tb:TE} {pos:Pos}
theorem IxR.or {r r':R2} (h:IxR X r) (h':IxR X r'):IxR X (fun x y H Q => r x y H Q ∨ r' x y H Q):=by
 intro value slice pins s σ H x y v u Q I rx ry q hs
 rcases q with q | q
 · exact h value slice pins s σ H x y v u Q I rx ry q hs
 · exact h' value slice pins s σ H x y v u Q I rx ry q hs
theorem MtR.or {id:String} {r r':V → List V → Hp → VK → Prop} (h:MtR X id r) (h':MtR X id r'):MtR X id (fun x xs H Q => r x xs H Q ∨ r' x xs H Q):=by
 intro pins s σ H x xs v us Q I rx rs q
 rcases q with q | q
 · exact h pins s σ H x xs v us Q I rx rs q
 · exact h' pins s σ H x xs v us Q I rx rs q
theorem bL {r:R2} (hr:IxR X r) (ha:PE X a ta) (hb:PE X b tb) (hs:bJI b):PE X (.Subscript a b pos) (tOp r ta tb):=by
 intro pins s σ H Q I h
 exact Subscript_ (cZI ha hb I h fun v u s2 x y H2 I2 rx ry q => hr a b pins s2 σ H2 x y v u Q I2 rx ry q (hs _ _))
def cJX (K:PySem.W.Frag):R2:=fun x y H Q => ∃ p xs i v,x = .ref p ∧ y = .int i ∧ SqL K H p xs ∧ atI xs i = some v ∧ Q v H
def dXS (K:PySem.W.Frag):R2:=fun x y H Q => ∃ p xs i v,x = .ref p ∧ y = .int i ∧ SqT K H p xs ∧ atI xs i = some v ∧ Q v H
def dQM:R2:=fun x y H Q => ∃ z i c,x = .str z ∧ y = .int i ∧ z.length ≤ sizeLine ∧ atI z.cps.toList i = some c ∧ Q (.str ⟨#[c]⟩) H
theorem ix_list:IxR X (cJX X.K):=by
 intro value slice pins s σ H x y v u Q I rx ry h hs
 obtain ⟨p,xs,i,z,rfl,rfl,hq,he,q⟩:=h
 cases rx
 obtain ⟨t,rfl⟩:=ry
 obtain ⟨its,r,pl,hz⟩:=I.list hq
 obtain ⟨j,h1,h2,h3,h4,h5⟩:=sJ he
 obtain ⟨w,ew,rw'⟩:=r.get h2
 have hl:=r.length
 have hn:=lA
 have fin:EP X pins σ Q w s:=⟨z,H,I,rw',q⟩
 by_cases h0:0 ≤ i
 · have hj:i.toNat = j:=by
     rw [seqIndex_of h0 h5] at h1
     exact Bs h1
   exact item_listR pl.isList h0 (by omega) (by rw [hj]; simpa using ew) fin hs
 · have hj:(i + (its.toArray.size:Int)).toNat = j:=by
     rw [seqIndex_neg (by omega) h4] at h1
     rw [Bo,← hl]
     exact Bs h1
   exact subscriptTail_builtinR (x:=w) pl.isList.typeIs slot_list_getitem.lookup
     (wpAny_getItem_list_neg (Q:=fun r s' => r = w ∧ EP X pins σ Q r s') pl.isList (by omega) (by rw [List.size_toArray] <;> omega) (by omega) (by rw [hj]; simpa using ew) ⟨rfl,fin⟩) hs
theorem ix_tup:IxR X (dXS X.K):=by
 intro value slice pins s σ H x y v u Q I rx ry h hs
 obtain ⟨p,xs,i,z,rfl,rfl,hq,he,q⟩:=h
 cases rx
 obtain ⟨t,rfl⟩:=ry
 obtain ⟨its,r,pl,hz⟩:=I.tuple hq
 obtain ⟨j,h1,h2,h3,h4,h5⟩:=sJ he
 obtain ⟨w,ew,rw'⟩:=r.get h2
 have hl:=r.length
 have hn:=lA
 have fin:EP X pins σ Q w s:=⟨z,H,I,rw',q⟩
 exact subscriptTail_builtinR (x:=w) pl.typeIs slot_tuple_getitem.lookup
   (getItem_tuple (j:=j) (Q:=fun r s' => r = w ∧ EP X pins σ Q r s') pl (by omega) (by omega) (by rw [List.size_toArray,← hl]; exact h1) (by simpa using ew) ⟨rfl,fin⟩) hs
theorem cZ9:IxR X dQM:=by
 intro value slice pins s σ H x y v u Q I rx ry h hs
 obtain ⟨z,i,c,rfl,rfl,hz,he,q⟩:=h
 obtain ⟨t,rfl⟩:=rx
 obtain ⟨t',rfl⟩:=ry
 obtain ⟨j,h1,h2,h3,h4,h5⟩:=sJ he
 have hl:z.cps.toList.length = z.length:=by simp [Str.length]
 rw [hl] at h1 h4 h5
 have hn:=lA
 exact tail_any (typeIs_str s z t) slot_str_getitem.lookup (getItem_str (c:=c) (by
   have e1:decide (i < -(2 ^ 63:Int)) = false:=Av (by omega)
   have e2:decide (i ≥ 2 ^ 63) = false:=Av (by omega)
   rw [e1,e2,Bool.or_false]) (by rw [h1]; simpa using h2) ⟨.str ⟨#[c]⟩,H,I.tok _,⟨_,rfl⟩,q⟩) hs
def rIx (K:PySem.W.Frag):R2:=fun x y H Q => cJX K x y H Q ∨ dXS K x y H Q ∨ dQM x y H Q
theorem ix_seq:IxR X (rIx X.K):=ix_list.or (ix_tup.or cZ9)
theorem xS (its:List Value) (n j:Nat) (u:Value):Obj.mapSeq (·.setIfInBounds j u) { cls:=.type "list",data:=.seq its.toArray n } = { cls:=.type "list",data:=.seq (its.set j u).toArray n }:=by
 simp [Obj.mapSeq]
theorem Inv.lst {pins:List (Addr × Obj)} {σ:St} {H:Hp} {s:Shared} {p:Addr} {xs:List V} (I:Inv X pins σ H s) (h:H p = some (.lst xs)) :
   ∃ (its:List Value) (n:Nat),Vals xs its ∧ s.heap.get? p = some { cls:=.type "list",data:=.seq its.toArray n } ∧ xs.length ≤ sizeLine:=by
 obtain ⟨z,its,n,r,e⟩:=I.hok p _ h
 exact ⟨its,n,r,e,z⟩
theorem Inv.lstUpd {pins:List (Addr × Obj)} {σ:St} {H:Hp} {s:Shared} {p:Addr} {xs ys:List V} {its its':List Value} {n n':Nat} {f:Obj → Obj} (I:Inv X pins σ H s) (h:H p = some (.lst xs))
   (ho:s.heap.get? p = some { cls:=.type "list",data:=.seq its.toArray n }) (hf:f { cls:=.type "list",data:=.seq its.toArray n } = { cls:=.type "list",data:=.seq its'.toArray n' }) (r:Vals ys its') (hz:ys.length ≤ sizeLine) (t:Nat) :
   Inv X pins σ (upd H p (.lst ys)) { s with heap:=s.heap.update p f,toks:=t }:=by
 have e:(s.heap.update p f).get? p = some { cls:=.type "list",data:=.seq its'.toArray n' }:=by
   rw [Heap.get?_update_self f ho (by rw [hf] <;> rfl),hf]
 refine I.write (x:=p) (e:=p) (by rw [h]; trivial) (.inl rfl) (fun b u hb q => (By _ _ (Ne.symm hb)).trans q) ⟨_,e⟩ ?_
 exact ⟨hz,its',n',r,e⟩
def cXE:V → V → V → Hp → (Hp → Prop) → Prop:=fun o i v H Q => ∃ p xs k j,o = .ref p ∧ i = .int k ∧ H p = some (.lst xs) ∧ ixN xs.length k = some j ∧ Q (upd H p (.lst (xs.set j v)))
theorem lI:dQQ X cXE:=by
 intro pins s σ H o i v ov iv u Q I ro ri rv h
 obtain ⟨p,xs,k,j,rfl,rfl,hp,hj,q⟩:=h
 cases ro
 obtain ⟨t,rfl⟩:=ri
 obtain ⟨its,n,r,ho,hz⟩:=I.lst hp
 obtain ⟨h1,h2,h3,h4⟩:=aQO hj
 have hl:=r.length
 have hn:=lA
 have I':Inv X pins σ (upd H p (.lst (xs.set j v))) { s with heap:=s.heap.update p (Obj.mapSeq (·.setIfInBounds j u)) } :=
   I.lstUpd hp ho (xS its n j u) (r.set rv j) (by rw [Cg]; exact hz) s.toks
 by_cases h0:0 ≤ k
 · have hk:k.toNat = j:=by
     rw [seqIndex_of h0 h4] at h1
     exact Bs h1
   exact PySem.W.ki_setAt ho h0 (by omega) (by rw [Bo,← hl]; exact h4) (by rw [hk]; exact ⟨_,I',q⟩)
 · have hk:(k + (its.toArray.size:Int)).toNat = j:=by
     rw [seqIndex_neg (by omega) h3] at h1
     rw [Bo,← hl]
     exact Bs h1
   exact PySem.W.ki_setBack ho (by omega) (by rw [Bo,← hl]; exact h3) (by omega) (by rw [hk]; exact ⟨_,I',q⟩)
theorem uB (lo hi:Option Int) (n:Nat):(sliceBounds lo hi none n).1 = ((HT.sIx n 0 lo:Nat):Int) ∧ (sliceBounds lo hi none n).2.1 = ((HT.sIx n n hi:Nat):Int) ∧ (sliceBounds lo hi none n).2.2 = 1:=by
 refine ⟨?_,?_,rfl⟩
 · cases lo with
   | none => simp [sliceBounds,HT.sIx]
   | some i =>
     simp only [sliceBounds,HT.sIx,Option.getD_none,show (1:Int) > 0 by decide,if_true]
     by_cases h:i < 0
     · simp only [h,if_true] <;> omega
     · simp only [h,if_false] <;> omega
 · cases hi with
   | none => simp [sliceBounds,HT.sIx]
   | some i =>
     simp only [sliceBounds,HT.sIx,Option.getD_none,show (1:Int) > 0 by decide,if_true]
     by_cases h:i < 0
     · simp only [h,if_true] <;> omega
     · simp only [h,if_false] <;> omega
theorem qI (its:List Value) (lo hi:Option Int):slicePick its.toArray lo hi none = ((its.drop (HT.sIx its.length 0 lo)).take (HT.sIx its.length its.length hi - HT.sIx its.length 0 lo)).toArray:=by
 obtain ⟨h1,h2,h3⟩:=uB lo hi its.toArray.size
 unfold slicePick
 rw [h1,h2,h3]
 simp only [sliceRange_one,pick_run,List.size_toArray] <;> rfl
def dXI (K:PySem.W.Frag):V → Option Int → Option Int → Hp → VK → Prop:=fun x lo hi H Q => ∃ a xs,x = .ref a ∧ SqL K H a xs ∧ ∀ p,H p = none → Q (.ref p) (upd H p (.lst (mR xs lo hi)))
theorem sl_list:SlR X (dXI X.K):=by
 intro pins s σ H x v vl vu lo hi sl Q I rx hs pl pu h
 obtain ⟨a,xs,rfl,hx,q⟩:=h
 cases rx
 obtain ⟨its,r,ht,hz⟩:=I.list hx
 have hlen:=r.length
 refine ⟨"list",_,slot_list_getitem.lookup,ht.isList.typeIs,?_⟩
 refine wpAny_getItem_list_slice ht.isList hs pl pu .none (by simp) ?_ (by rw [List.size_toArray] <;> omega)
 rw [qI,← hlen]
 refine ⟨.ref s.heap.objs.size,_,I.laid (t':=s.toks) (o:=.lst (mR xs lo hi)) (fun b ob q => Af _ q) (Ah _) ?_,rfl,q _ (I.hok.fresh (Ah _))⟩
 exact ⟨Bb (uW xs lo hi) hz,_,0,(r.drop (HT.sIx xs.length 0 lo)).take (HT.sIx xs.length xs.length hi - HT.sIx xs.length 0 lo),Ax _ rfl⟩
def bW:V → Bool
 | .non => true
 | .bl _ => true
 | .int _ => true
 | .str _ => true
 | _ => false
def eqV:V → V → Bool
 | .non,.non => true
 | .bl a,.bl b => a == b
 | .bl a,.int b => (if a then 1 else 0) == b
 | .int a,.bl b => a == (if b then 1 else 0)
 | .int a,.int b => a == b
 | .str a,.str b => a == b
 | _,_ => false
theorem pV {A:Around} {s:Shared} {y x:V} {u v:Value} (ry:RelV y u) (rx:RelV x v) (fy:bW y = true) (fx:bW x = true):SeqAt.EqAt A s u v (eqV y x):=by
 cases y with
 | non =>
   cases ry
   cases x with
   | non => cases rx; exact SeqAt.EqAt.same _
   | bl b => cases rx; exact SeqAt.EqAt.none_bool b
   | int b => obtain ⟨t,rfl⟩:=rx; exact SeqAt.EqAt.none_int b t
   | str b => obtain ⟨t,rfl⟩:=rx; exact SeqAt.EqAt.none_str b t
   | _ => exact absurd (show false = true from fx) Al
 | bl a =>
   cases ry
   cases x with
   | non => cases rx; exact SeqAt.EqAt.bool_none a
   | bl b => cases rx; exact SeqAt.EqAt.bool_bool a b
   | int b => obtain ⟨t,rfl⟩:=rx; exact SeqAt.EqAt.bool_int a b t
   | str b => obtain ⟨t,rfl⟩:=rx; exact SeqAt.EqAt.bool_str a b t
   | _ => exact absurd (show false = true from fx) Al
 | int a =>
   obtain ⟨t',rfl⟩:=ry
   cases x with
   | non => cases rx; exact SeqAt.EqAt.int_none a t'
   | bl b => cases rx; exact SeqAt.EqAt.int_bool a t' b
   | int b => obtain ⟨t,rfl⟩:=rx; exact SeqAt.EqAt.int_int a t' b t
   | str b => obtain ⟨t,rfl⟩:=rx; exact SeqAt.EqAt.int_str a t' b t
   | _ => exact absurd (show false = true from fx) Al
 | str a =>
   obtain ⟨t',rfl⟩:=ry
   cases x with
   | non => cases rx; exact SeqAt.EqAt.str_none a t'
   | bl b => cases rx; exact SeqAt.EqAt.str_bool a t' b
   | int b => obtain ⟨t,rfl⟩:=rx; exact SeqAt.EqAt.str_int a t' b t
   | str b => obtain ⟨t,rfl⟩:=rx; exact SeqAt.EqAt.str_str a t' b t
   | _ => exact absurd (show false = true from fx) Al
 | _ => exact absurd (show false = true from fy) Al
def eqU (x:V) (u:Value):Bool:=match u with
 | .none => eqV .non x
 | .bool b => eqV (.bl b) x
 | .int i _ => eqV (.int i) x
 | .str z _ => eqV (.str z) x
 | _ => false
theorem bQF {x y:V} {u:Value} (r:RelV y u) (f:bW y = true):eqU x u = eqV y x:=by
 cases y with
 | non => cases r; rfl
 | bl b => cases r; rfl
 | int i => obtain ⟨t,rfl⟩:=r; rfl
 | str z => obtain ⟨t,rfl⟩:=r; rfl
 | _ => exact absurd (show false = true from f) Al
theorem sP {x:V}:∀ {xs:List V} {us:List Value},Vals xs us → xs.all bW = true → us.any (eqU x) = xs.any fun y => eqV y x
 | _,_,.nil,_ => rfl
 | y :: xs,u :: us,.cons r t,f => by
   rw [List.all_cons,Fl] at f
   rw [Gj,Gj,bQF r f.1,sP t f.2]
theorem oF {A:Around} {s:Shared} {x:V} {v:Value} (rx:RelV x v) (fx:bW x = true):∀ {xs:List V} {us:List Value},Vals xs us → xs.all bW = true → ∀ u ∈ us,SeqAt.EqAt A s u v (eqU x u)
 | _,_,.nil,_ => fun u hu => by cases hu
 | y :: xs,u :: us,.cons r t,f => fun u' hu => by
   rw [List.all_cons,Fl] at f
   rcases Ba.mp hu with rfl | hu
   · rw [bQF r f.1]; exact pV r rx f.1 fx
   · exact oF rx fx t f.2 u' hu
def inV (x:V) (xs:List V):Bool:=xs.any fun y => eqV y x
def rIn (K:PySem.W.Frag) (neg:Bool):R2:=fun x y H Q => ∃ p xs,y = .ref p ∧ (SqL K H p xs ∨ SqT K H p xs) ∧ bW x = true ∧ xs.all bW = true ∧ Q (.bl (if neg then !inV x xs else inV x xs)) H
theorem op_notIn_seq:OpR X (compareOp .NotIn) (rIn X.K true):=by
 intro pins s σ H x y v u Q I rx ry h
 obtain ⟨p,xs,rfl,hq,fx,fs,q⟩:=h
 cases ry
 rcases hq with hq | hq
 · obtain ⟨its,r,pl,hz⟩:=I.list hq
   refine SeqAt.notIn_listAt (eqU x) pl.isList (fun w hw => oF rx fx r fs w (by simpa using hw)) ⟨.bl _,H,I,rfl,?_⟩
   rw [show its.toArray.any (eqU x) = its.any (eqU x) by simp,sP r fs]
   exact q
 · obtain ⟨its,r,pl,hz⟩:=I.tuple hq
   refine SeqAt.notIn_tupleAt (eqU x) pl (fun w hw => oF rx fx r fs w (by simpa using hw)) ⟨.bl _,H,I,rfl,?_⟩
   rw [show its.toArray.any (eqU x) = its.any (eqU x) by simp,sP r fs]
   exact q
theorem tT:CallR X (.builtin "len") (fun xs H Q => ∃ p ys,xs = [.ref p] ∧ (SqL X.K H p ys ∨ SqT X.K H p ys) ∧ Q (.int ys.length) H):=by
 intro pins s σ H xs us Q I r h
 obtain ⟨p,ys,rfl,hq,q⟩:=h
 obtain ⟨u,rfl,rx⟩:=fI r
 cases rx
 have hn:=lA
 rcases hq with hq | hq
 · obtain ⟨its,r',pl,hz⟩:=I.list hq
   have hlen:=r'.length
   exact Calls.call_len_list pl.isList (by simp only [List.size_toArray] <;> omega) ⟨.int ys.length,H,I.tok _,⟨s.toks + 1,by rw [List.size_toArray,hlen]⟩,q⟩
 · obtain ⟨its,r',pl,hz⟩:=I.tuple hq
   have hlen:=r'.length
   exact len_tuple pl (by simp only [List.size_toArray] <;> omega) ⟨.int ys.length,H,I.tok _,⟨s.toks + 1,by rw [List.size_toArray,hlen]⟩,q⟩
theorem CallR.or {f:Value} {r r':List V → Hp → VK → Prop} (h:CallR X f r) (h':CallR X f r'):CallR X f (fun xs H Q => r xs H Q ∨ r' xs H Q):=by
 intro pins s σ H xs us Q I rs q
 rcases q with q | q
 · exact h pins s σ H xs us Q I rs q
 · exact h' pins s σ H xs us Q I rs q
theorem call_list_of:CallR X (.type "list") (fun xs H Q => ∃ p ys,xs = [.ref p] ∧ (SqL X.K H p ys ∨ SqT X.K H p ys) ∧ ∀ l,H l = none → Q (.ref l) (upd H l (.lst ys))):=by
 intro pins s σ H xs us Q I r h
 obtain ⟨p,ys,rfl,hq,q⟩:=h
 obtain ⟨u,rfl,rx⟩:=fI r
 cases rx
 have fin:∀ (its:List Value),Vals ys its → ys.length ≤ sizeLine → ∀ (h':Heap) (c':Nat),(∀ b o',s.heap.get? b = some o' → h'.get? b = some o') →
     h'.get? s.heap.objs.size = some { cls:=.type "list",dict:=none,data:=.seq its.toArray c',slots:=#[] } → EP X pins σ Q (.ref s.heap.objs.size) { s with heap:=h' }:=fun its r' hz h' c' kp e =>
   ⟨.ref s.heap.objs.size,_,I.laid (t':=s.toks) kp (Ah _) (show ObjOk X.prog X.w _ h' _ (.lst ys) from ⟨hz,its,c',r',e⟩),rfl,q _ (I.hok.fresh (Ah _))⟩
 rcases hq with hq | hq
 · obtain ⟨its,r',pl,hz⟩:=I.list hq
   have hlen:=r'.length
   obtain ⟨o,ho,hc,n,hd⟩:=pl.isList
   exact call_list_seq p (.inl rfl) ho hc hd (fun h' c' kp e => fin its r' hz h' c' kp e) (by simp only [List.size_toArray] <;> omega)
 · obtain ⟨its,r',pl,hz⟩:=I.tuple hq
   have hlen:=r'.length
   obtain ⟨o,ho,hc,n,hd⟩:=pl
   exact call_list_seq p (.inr rfl) ho hc hd (fun h' c' kp e => fin its r' hz h' c' kp e) (by simp only [List.size_toArray] <;> omega)
def tyV (K:PySem.W.Frag) (T:String) (x:V) (H:Hp):Prop:=match x with
 | .str _ => T = "str"
 | .int _ => T = "int"
 | .ref p => (T = "list" ∧ ∃ xs,SqL K H p xs) ∨ (T = "tuple" ∧ ∃ o,K.lookup p = some o ∧ o.cls = .type "tuple" ∧ o.dict = none) ∨
     (T = "dict" ∧ ((∃ kvs,H p = some (.dK kvs)) ∨ ∃ kvs,H p = some (.dT kvs))) ∨ (T = "set" ∧ ∃ S n,H p = some (.set S n))
 | _ => False
theorem cZ5 {pins:List (Addr × Obj)} {σ:St} {H:Hp} {s:Shared} {T:String} {x:V} {v:Value} (I:Inv X pins σ H s) (r:RelV x v) (ty:tyV X.K T x H) :
   s.TypeIs v T ∧ ∀ a,v = .ref a → ∃ ob,s.heap.get? a = some ob ∧ ob.dict = none:=by
 cases x with
 | str z =>
   obtain ⟨t,rfl⟩:=r
   cases (show T = "str" from ty)
   exact ⟨typeIs_str s z t,fun _ e => nomatch e⟩
 | int i =>
   obtain ⟨t,rfl⟩:=r
   cases (show T = "int" from ty)
   exact ⟨typeIs_int s i t,fun _ e => nomatch e⟩
 | ref p =>
   cases r
   rcases ty with ⟨rfl,xs,hq⟩ | ⟨rfl,o,hk,hc,hd⟩ | ⟨rfl,hk⟩ | ⟨rfl,S,n,hk⟩
   · obtain ⟨its,_,pl,_⟩:=I.list hq
     refine ⟨pl.isList.typeIs,fun a e => ?_⟩
     cases e
     obtain ⟨o,n,e,c,hd,_⟩:=pl
     exact ⟨o,e,hd⟩
   · refine ⟨⟨o,I.kIn p o hk,hc⟩,fun a e => ?_⟩
     cases e
     exact ⟨o,I.kIn _ o hk,hd⟩
   · have z:∃ o,s.heap.get? p = some o ∧ o.ExactDict:=by
       rcases hk with ⟨kvs,hk⟩ | ⟨kvs,hk⟩
       · obtain ⟨_,_,_,_,o,_,_,e,ex,_⟩:=I.hok p _ hk
         exact ⟨o,e,ex⟩
       · obtain ⟨_,_,_,_,o,_,_,e,ex,_⟩:=I.hok p _ hk
         exact ⟨o,e,ex⟩
     obtain ⟨o,e,ex⟩:=z
     refine ⟨⟨o,e,ex.1⟩,fun a e2 => ?_⟩
     cases e2
     exact ⟨o,e,ex.2.1⟩
   · obtain ⟨o,_,_,_,e,ex,_⟩:=I.hok p _ hk
     refine ⟨⟨o,e,ex.1⟩,fun a e2 => ?_⟩
     cases e2
     exact ⟨o,e,ex.2.1⟩
 | _ => exact False.elim ty
variable {o e:Expr} {es:List Expr} {to:TE} {t:TA} {name:Str} {apos cpos:Pos} {T id:String} {r:V → List V → Hp → VK → Prop}
end
end L2
namespace L2
open PySem PySem.Spec PyProof.Rows
def MtM (X:Cx) (id:String) (r:V → List V → Hp → VK → Prop):Prop :=
 ∀ (pins:List (Addr × Obj)) (s:Shared) (σ:St) (H:Hp) (x:V) (xs:List V) (v:Value) (us:List Value) (Q:VK),Inv X pins σ H s → RelV x v → Vals xs us → r x xs H Q →
   wpAny (model X.prog X.w) X.A (call (.builtin id) (v :: us)) (EP X pins σ Q) X.xe s
theorem Vals.one:∀ {x:V} {us:List Value},Vals [x] us → ∃ u,us = [u] ∧ RelV x u
 | _,_,.cons r .nil => ⟨_,rfl,r⟩
theorem Vals.two:∀ {x y:V} {us:List Value},Vals [x,y] us → ∃ u v,us = [u,v] ∧ RelV x u ∧ RelV y v
 | _,_,_,.cons r (.cons q .nil) => ⟨_,_,rfl,r,q⟩
theorem Vals.zero:∀ {us:List Value},Vals [] us → us = []
 | _,.nil => rfl
theorem Vals.reverse {xs:List V} {us:List Value} (h:Vals xs us):Vals xs.reverse us.reverse:=by
 induction h with
 | nil => exact .nil
 | cons r t ih => rw [List.reverse_cons,List.reverse_cons]; exact Vals.append ih (.cons r .nil)
theorem Vals.rep {xs:List V} {us:List Value} (h:Vals xs us):∀ k:Nat,Vals (List.replicate k xs).flatten (List.replicate k us).flatten
 | 0 => .nil
 | k + 1 => by
   rw [Dx,Dx,Co,Co]
   exact Vals.append h (Vals.rep h k)
theorem qY (its:List Value):∀ (k:Nat) (acc:List Value),
   List.foldl (fun x1 x2 => x1 ++ x2) acc.toArray (List.replicate k its.toArray) = (acc ++ (List.replicate k its).flatten).toArray
 | 0,acc => by simp
 | k + 1,acc => by
   have e:acc.toArray ++ its.toArray = (acc ++ its).toArray:=by simp
   have e2:(acc ++ its) ++ (List.replicate k its).flatten = acc ++ (List.replicate (k + 1) its).flatten:=by
     rw [Dx,Co,Gb]
   rw [← e2,← qY its k (acc ++ its),← e,Dx,List.foldl_cons]
section
variable {X:Cx} {pins:List (Addr × Obj)} {σ:St} {H:Hp} {s:Shared} {l b:Addr} {xs ys zs:List V}
theorem Inv.lset {its its':List Value} {n:Nat} {f:Array Value → Array Value} {t':Nat} (I:Inv X pins σ H s) (hH:H l = some (.lst xs))
   (e:s.heap.get? l = some { cls:=.type "list",data:=.seq its.toArray n }) (hf:f its.toArray = its'.toArray) (hv:Vals ys its') (hz:ys.length ≤ sizeLine) :
   Inv X pins σ (upd H l (.lst ys)) { s with heap:=s.heap.update l (Obj.mapSeq f),toks:=t' }:=by
 have q:=PySem.IsL.update e f
 rw [hf] at q
 refine I.write (x:=l) (e:=l) (by rw [hH]; exact trivial) (.inl rfl) (fun b' u hb hu => (By s.heap (Obj.mapSeq f) (Ne.symm hb)).trans hu) ⟨_,q⟩ ?_
 exact ⟨hz,its',_,hv,q⟩
theorem Inv.lnew {its:List Value} {t':Nat} (I:Inv X pins σ H s) (hv:Vals ys its) (hz:ys.length ≤ sizeLine) :
   Inv X pins σ (upd H s.heap.objs.size (.lst ys)) { s with heap:=s.heap.push { cls:=.type "list",data:=.seq its.toArray },toks:=t' } :=
 I.laid (fun _ _ q => Af _ q) (Ah _) ⟨hz,its,0,hv,Ax _ rfl⟩
theorem Inv.fresh (I:Inv X pins σ H s):H s.heap.objs.size = none:=I.hok.fresh (Ah _)
theorem Inv.lstM (I:Inv X pins σ H s) (hH:H l = some (.lst xs)):xs.length ≤ sizeLine ∧ ∃ (its:List Value) (n:Nat),Vals xs its ∧ xs.length = its.length ∧ s.heap.get? l = some { cls:=.type "list",data:=.seq its.toArray n }:=by
 obtain ⟨z,its,n,r,e⟩:=I.hok l _ hH
 exact ⟨z,its,n,r,r.length,e⟩
theorem uS {n:Nat} (h:n ≤ sizeLine):Builtin.List.listTooLong n = false:=by
 unfold Builtin.List.listTooLong
 exact Av (by omega)
end
section
variable {X:Cx}
def aQT:V → List V → Hp → VK → Prop:=fun x vs H Q => ∃ l xs y,x = .ref l ∧ vs = [y] ∧ H l = some (.lst xs) ∧ xs.length < sizeLine ∧ Q .non (upd H l (.lst (xs ++ [y])))
theorem rK:MtM X "list.append" aQT:=by
 intro pins s σ H x vs v us Q I rx rv h
 obtain ⟨l,xs,y,rfl,rfl,hH,hz,q⟩:=h
 cases rx
 obtain ⟨u,rfl,ru⟩:=rv.one
 obtain ⟨z,its,n,r,hl,e⟩:=I.lstM hH
 refine call_meets F.slot_list_append ⟨_,e,rfl⟩ F.entry_list_append (F.args_list_append_2 _ _) (PySem.list_append l its.toArray n u (by rw [Bo]; omega)) ⟨e,?_⟩
 refine ⟨.non,_,I.lset (its':=its ++ [u]) hH e (by simp) (r.append (.cons ru .nil)) ?_,rfl,q⟩
 rw [Aj,List.length_singleton]
 omega
def zP:V → List V → Hp → VK → Prop:=fun x vs H Q => ∃ l b xs zs,x = .ref l ∧ vs = [.ref b] ∧ H l = some (.lst xs) ∧ H b = some (.lst zs) ∧ xs.length + zs.length ≤ sizeLine ∧ Q .non (upd H l (.lst (xs ++ zs)))
theorem aXO:MtM X "list.extend" zP:=by
 intro pins s σ H x vs v us Q I rx rv h
 obtain ⟨l,b,xs,zs,rfl,rfl,hH,hB,hz,q⟩:=h
 cases rx
 obtain ⟨u,rfl,ru⟩:=rv.one
 cases ru
 obtain ⟨z,its,n,r,hl,e⟩:=I.lstM hH
 obtain ⟨z2,its2,n2,r2,hl2,e2⟩:=I.lstM hB
 have hsz:its.toArray.size + its2.toArray.size ≤ sizeLine:=by rw [Bo,Bo]; omega
 have hlong:¬ (!its.toArray.isEmpty && Builtin.List.listTooLong (its.toArray.size + its2.toArray.size)) = true:=by
   rw [uS hsz,Bool.and_false]
   exact Al
 refine call_meets F.slot_list_extend ⟨_,e,rfl⟩ F.entry_list_extend (F.args_list_extend_2 _ _)
   (AutoSeq1.list_extend_list_list_0 l its.toArray n b its2.toArray n2 hlong (by rw [Bo]; omega) (by omega)) ⟨e,e2,?_⟩
 refine ⟨.non,_,I.lset (its':=its ++ its2) hH e (by simp) (r.append r2) ?_,rfl,q⟩
 rw [Aj]
 omega
def dZU:R2:=fun x y H Q => ∃ l b xs zs,x = .ref l ∧ y = .ref b ∧ H l = some (.lst xs) ∧ H b = some (.lst zs) ∧ xs.length + zs.length ≤ sizeLine ∧ ∀ p,H p = none → Q (.ref p) (upd H p (.lst (xs ++ zs)))
theorem cZ3:OpR X (binaryOp .Add) dZU:=by
 intro pins s σ H x y v u Q I rx ry h
 obtain ⟨l,b,xs,zs,rfl,rfl,hH,hB,hz,q⟩:=h
 cases rx
 cases ry
 obtain ⟨z,its,n,r,hl,e⟩:=I.lstM hH
 obtain ⟨z2,its2,n2,r2,hl2,e2⟩:=I.lstM hB
 refine PySem.P.add_list e e2 ?_ (by rw [Bo,Bo]; omega)
 have ea:its.toArray ++ its2.toArray = (its ++ its2).toArray:=by simp
 rw [ea]
 exact ⟨.ref _,_,I.lnew (t':=s.toks) (r.append r2) (by rw [Aj]; omega),rfl,q _ I.fresh⟩
def dZ5:R2:=fun x y H Q => ∃ l k xs,x = .ref l ∧ y = .int k ∧ H l = some (.lst xs) ∧ -(2 ^ 63) ≤ k ∧ k < 2 ^ 63 ∧ xs.length * k.toNat ≤ sizeLine ∧
 ∀ p,H p = none → Q (.ref p) (upd H p (.lst (List.replicate k.toNat xs).flatten))
theorem bJL {α:Type} (xs:List α) (k:Nat):(List.replicate k xs).flatten.length = k * xs.length:=by
 induction k with
 | zero => simp
 | succ k ih => rw [Dx,Co,Aj,ih,Nat.succ_mul,Nat.add_comm]
theorem bQU:OpR X (binaryOp .Mult) dZ5:=by
 intro pins s σ H x y v u Q I rx ry h
 obtain ⟨l,k,xs,rfl,rfl,hH,h1,h2,hz,q⟩:=h
 cases rx
 obtain ⟨t,rfl⟩:=ry
 obtain ⟨z,its,n,r,hl,e⟩:=I.lstM hH
 have hlen:its.toArray.size * k.toNat ≤ sizeLine:=by rw [Bo,← hl]; exact hz
 have hcap:¬ its.toArray.size * k.toNat > (2 ^ 63 - 1) / 8:=by
   have:(sizeLine:Nat) ≤ (2 ^ 63 - 1) / 8:=by decide
   omega
 have hfit:¬ (!Builtin.List.listFitsIndex k) = true:=by
   rw [fitsIndex_both h1 h2]
   exact Al
 have hlong:¬ Builtin.List.listTooLong (its.toArray.size * k.toNat) = true:=by
   rw [uS hlen]
   exact Al
 have hnew:List.foldl (fun x1 x2 => x1 ++ x2) #[] (List.replicate (if its.toArray.isEmpty = true then 0 else k.toNat) its.toArray) = (List.replicate k.toNat its).flatten.toArray:=by
   have f0:∀ m:Nat,List.foldl (fun x1 x2 => x1 ++ x2) #[] (List.replicate m its.toArray) = (List.replicate m its).flatten.toArray:=fun m => by
     have:=qY its m []
     rw [List.nil_append] at this
     exact this
   rw [f0]
   cases its with
   | nil => simp
   | cons a r' => rw [if_neg (by simp)]
 refine wpAny_binaryOp_repeat_ref (T := "list") (U := "int") (by decide) ⟨_,e,rfl⟩ (fun s' => typeIs_int s' k t) noFill_list_mul F.fills_int_mul F.slot_int_rmul repeat_list F.slot_int_index.lookup
   (call_meets F.slot_int_rmul (typeIs_int s k t) F.entry_int_rmul (F.args_int_rmul_2 _ _) (int___rmul___int_list k t l its.toArray n)
     ⟨e,rfl,⟨_,e,rfl⟩,call_meets F.slot_list_mul ⟨_,e,rfl⟩ F.entry_list_mul (F.args_list_mul_2 _ _) (AutoListH.list___mul___list_int_3 l its.toArray n k t hfit hcap hlong) ⟨e,?_⟩⟩)
 rw [hnew]
 exact ⟨.ref _,_,I.lnew (t':=s.toks) (r.rep k.toNat) (by rw [bJL,Nat.mul_comm]; exact hz),rfl,q _ I.fresh⟩
end
section
variable {prog:Program} {w:World} {A:Around} {E:Value → Shared → Prop} {s:Shared}
end
section
variable {X:Cx}
end
end L2
namespace Att
open PySem PySem.W PySem.Calls PyProof.Rows
theorem nQ {P:Params} {h:Heap}:∀ (ns:List Int) (vs:List Value),WellAll P h vs (ns.map WData.int) → IntsAre vs ns:=by
 intro ns
 induction ns with
 | nil =>
   intro vs w
   rw [Fm] at w
   cases w
   exact .nil
 | cons n ns ih =>
   intro vs w
   rw [Ap] at w
   cases w with
   | cons a b =>
     cases a
     exact .cons _ _ (ih _ b)
theorem aZI {l:OpenLaw} {n:Nat} (hn:l.most = some n) {P:Params} {h:Heap} {args:List WData} {vals:List Value}
   (hpre:l.row.toRowW.claim.pre args = true) (hwl:WellAll P h vals args) :
   ∃ a vs ns,vals = [Value.ref a] ∧ args = [WData.list (ns.map WData.int)] ∧ h.get? a = some { cls:=.type "list",data:=.seq vs.toArray } ∧ IntsAre vs ns ∧ ns.length ≤ n:=by
 have hsh:WShape.hasAll [] args [.list .int] = true:=(pre_splitW hpre).1
 have hc:l.pre.holds [] { args:=args } = true:=(pre_splitW hpre).2
 obtain ⟨d,r,rfl,h1,h2⟩:=hasAllW_cons hsh
 obtain rfl:=hasAllW_nil h2
 obtain ⟨xs,rfl,h3⟩:=hasW_list h1
 obtain ⟨ns,rfl⟩:=items_int h3
 have hlen:ns.length ≤ n:=by
   unfold OpenLaw.pre at hc
   have h4:(WTm.not (.lt (.lit (.int (n:Int))) (.len (.arg 0)))).holds [] { args:=[.list (ns.map .int)] } = true:=by
     have h4:=(holds_andW hc).1
     rw [hn] at h4
     exact h4
   have h5:=condW_of h4 (w_not (w_lt w_lit (w_len_list (w_arg rfl))))
   rw [Ab] at h5
   refine Nat.le_of_not_lt fun q => ?_
   have q':(n:Int) < ((ns.length:Nat):Int):=by omega
   first
     | (rw [Ar q'] at h5; exact absurd h5 (by decide))
     | (simp at h5; omega)
 cases hwl with
 | cons w1 w2 =>
   cases w2
   cases w1 with
   | list ho hall => exact ⟨_,_,ns,rfl,rfl,ho,nQ ns _ hall,hlen⟩
theorem aZT (l:OpenLaw) (args:List WData):l.row.toRowW.claim.post args (.bool true) args = true :=
 postW_of (r:=l.row.toRowW) (X:=(true == true))
   (show WShape.has [] (.bool true) .bool = true by first | rfl | decide | simp [WShape.has,WShape.arms,WShape.armsAll])
   (show (WTm.eq .res (.lit (.bool true))).value [] { args:=args,res:=some (.bool true),after:=args } = some (.bool (true == true)) from w_eq_bool (w_res rfl) w_lit) rfl
theorem attach_call {l:OpenLaw} {n:Nat} {q:Program} {loose:List Str} {XP:(Str → Option Value) → Heap → Prop} {YP:World → Heap → Prop} {d:DefRec}
   (hn:l.most = some n) (hdf:d.params.defaults = [])
   (call:∀ (w:World) (s₀ s₁:Shared) (mg mb:Str → Option Value) (fa:Addr) (o:Obj) (pm cd doc:Value) (a:Addr) (vs:List Value) (ns:List Int),
     Ground q loose [] XP w s₀ mg mb s₁.heap → YP w s₁.heap →
     s₁.heap.get? fa = some o → o.data = .func (docDef d.name d.params d.body d.scope pm cd doc) → s₁.heap.CodeRec cd d.name → mg d.name = some (.ref fa) →
     s₁.heap.get? a = some { cls:=.type "list",data:=.seq vs.toArray } → IntsAre vs ns → ns.length ≤ n → s₁.gens = #[] →
     codeAny (model l.prog w) callerA (.call (.ref fa) ⟨[.ref a],[]⟩) (fun r s' => r = .ok (.ret (.bool true)) ∧ OldK s₁.heap s'.heap ∧ s'.os = s₁.os ∧ AllBare s'.gens) s₁) :
   WalkO q loose XP YP l.row.toRowW d [] (fun f vs => PySem.call f vs):=by
 intro w s₀ s₁ mg mb G Y fa o pm cd doc dV kV ho hd hcd hD hmg hg args vals as hpre hlay hrd hwl hlo
 obtain rfl:dV = .none:=Dflts.none hD hdf
 obtain rfl:kV = .none:=Dflts.noKw hD
 obtain ⟨a,vs,ns,rfl,rfl,hobj,hints,hlen⟩:=aZI hn hpre hwl
 refine enter_call (Eh (call w s₀ s₁ mg mb fa o pm cd doc a vs ns G Y ho (fd_plain hd) hcd hmg hobj hints hlen hg) fun r s' hq => ?_)
 obtain ⟨rfl,h2,h3,h4⟩:=hq
 exact ⟨.inl ⟨.bool true,.bool true,[],rfl,fun _ => rfl,.bool true,aZT l _,fun _ => ⟨List.Pairwise.nil,fun _ hm => (nomatch hm)⟩⟩,h2,h3,h4⟩
section
variable {prog:Program} {w:World} {A:Around} {E:Value → Shared → Prop} {s:Shared} {K:Frag}
end
end Att
namespace L2
open PySem PySem.Spec PyProof.Rows
theorem sI:∀ {vs:List Value} {ns:List Int},IntsAre vs ns → Vals (ns.map V.int) vs
 | _,_,.nil => .nil
 | _,_,.cons n t h => .cons ⟨t,rfl⟩ (sI h)
def cZF (H:Hp):Prop:=∀ b,H b = none ∨ ∃ o xs,H b = some (.frz o (.lst xs))
theorem aZ0 {P:Program} {w:World} {K:PySem.W.Frag} {mg mb:Str → Option Value} {CX:CXT} {k:Nat} {fa a:Addr} {fd:FuncData} {x:Str} {sp:Sp} {s₁:Shared} {vs:List Value} {ns:List Int}
   (KX:K.In s₁.heap) (hns:s₁.heap.Ns mainGlobals mg) (hb:s₁.heap.Ns builtinsNs mb) (hbb:∀ x:Str,x ≠ "__name__" → mb x = bootBuiltins x) (hlim:s₁.heap.NoLimit) (hg:s₁.gens = #[])
   (ha:s₁.heap.get? a = some { cls:=.type "list",data:=.seq vs.toArray }) (hi:IntsAre vs ns) (hl:ns.length ≤ sizeLine) (hr:Room k callerA)
   (F:∀ base:Heap,K.In base → base.Ns mainGlobals mg → FnOk P w K mg base CX k fa fd [x] sp) (hbind:∀ (s:Shared) (u:Value),BindsTo s fd ⟨[u],[]⟩ [(x,u)])
   (hsp:∀ H:Hp,cZF H → SqL K H a (ns.map V.int) → sp [.ref a] H (fun v _ => v = .bl true) fun _ _ _ => False)
   (hCX:∀ H e s',CX [] H s₁ (fun _ _ _ => False) e s' → False) :
   codeAny (model P w) callerA (.call (.ref fa) ⟨[.ref a],[]⟩) (fun r s' => r = .ok (.ret (.bool true)) ∧ OldK s₁.heap s'.heap ∧ s'.os = s₁.os ∧ AllBare s'.gens) s₁:=by
 have rv:=sI hi
 have lenV:=hi.length
 -- from an abstract heap in which nothing but the script may be tracked
 have core:∀ H:Hp,cZF H → SqL K H a (ns.map V.int) → HOk P w H s₁.heap → (∀ b,H b ≠ none → b = a) → (H a ≠ none → K.lookup a = none) →
     codeAny (model P w) callerA (.call (.ref fa) ⟨[.ref a],[]⟩) (fun r s' => r = .ok (.ret (.bool true)) ∧ OldK s₁.heap s'.heap ∧ s'.os = s₁.os ∧ AllBare s'.gens) s₁:=by
   intro H hO hS hok hA hK
   have base_of:∀ {b:Addr} {o:Obj},s₁.heap.get? b = some o → H b = none → (uE s₁.heap H).get? b = some o:=fun e n => bQB e n
   have noA:∀ {b:Addr} {o:Obj} {es:Array DictEntry} {ep:Nat},s₁.heap.get? b = some o → o.data = .dict es ep → H b = none:=fun {b o es ep} e d => by
     cases q:H b with
     | none => rfl
     | some u =>
       have e':b = a:=hA b (by rw [q]; simp)
       subst e'
       rw [ha] at e; cases e
       have d':Data.seq vs.toArray _ = Data.dict es ep:=d
       cases d'
   have nsK:∀ {b:Addr} {m:Str → Option Value},s₁.heap.Ns b m → (uE s₁.heap H).Ns b m:=fun {b m} ⟨o,es,ep,e,d,r⟩ => ⟨o,es,ep,base_of e (noA e d),d,r⟩
   have hKb:K.In (uE s₁.heap H):=fun b o e => base_of (KX b o e) (by
     cases q:H b with
     | none => rfl
     | some u =>
       have e':b = a:=hA b (by rw [q]; simp)
       subst e'
       rw [hK (by rw [q]; simp)] at e; cases e)
   have hM:Mod K mg (uE s₁.heap H):=⟨hKb,nsK hns,⟨mb,nsK hb,hbb⟩,let ⟨mc,h1,h2⟩:=hlim; ⟨mc,nsK h1,h2⟩⟩
   have e0:Env0 P w K mg (uE s₁.heap H) callerA [] s₁ H:=⟨rfl,hM,fun b o e => cQE e,Nat.le_of_eq (aXP _ _),trivial,fun b hb => absurd (show b ∈ ([]:List Addr) from hb) (by simp),hok,.of_eq hg⟩
   refine Eh ((F _ hKb (nsK hns)).run callerA [] s₁ H ⟨[.ref a],[]⟩ [.ref a] [.ref a] _ _ hr e0 (hbind s₁ (.ref a)) (.cons rfl .nil) (hsp H hO hS)) fun r s' h => ?_
   cases r with
   | error e => exact (hCX H e s' h).elim
   | ok fl =>
     cases fl with
     | next => exact False.elim h
     | brk => exact False.elim h
     | cont => exact False.elim h
     | ret u =>
       obtain ⟨v,H',os,bare,un,hok',r',q⟩:=h
       have q':v = .bl true:=q
       subst q'
       obtain rfl:u = Value.bool true:=r'
       refine ⟨rfl,OldK.of_keep fun b o e => ?_,os,bare⟩
       cases q:H b with
       | none => exact un.keep b o e q (by intro z; exact absurd (show b ∈ ([]:List Addr) from z) (by simp)) (by simp)
       | some u =>
         rcases hO b with z | ⟨ob,xs,z⟩
         · rw [q] at z; cases z
         · have z2:=un.frzs b ob _ z
           obtain ⟨e1,_⟩:=hok b _ z
           obtain ⟨e2,_⟩:=hok' b _ z2
           rw [e] at e1; cases e1
           exact e2
 cases hk:K.lookup a with
 | some o =>
   -- the script is one of the module's own objects
   have e:=KX a o hk
   rw [ha] at e
   cases e
   refine core (fun _ => none) (fun _ => .inl rfl) (.inr ⟨_,vs.toArray,_,hk,rfl,rfl,rfl,by rw [List.size_toArray,lenV]; exact hl,by simpa using rv⟩) (fun b u z => by have z':(none:Option HO) = some u:=z; cases z') (fun b z => absurd rfl z) fun z => absurd rfl z
 | none =>
   refine core (fun b => if b = a then some (.frz { cls:=.type "list",data:=.seq vs.toArray } (.lst (ns.map V.int))) else none) (fun b => ?_) (.inl (.inr ⟨{ cls:=.type "list",data:=.seq vs.toArray },if_pos rfl⟩)) (fun b u z => ?_) (fun b z => ?_) fun _ => hk
   · by_cases hb:b = a
     · exact .inr ⟨_,_,if_pos hb⟩
     · exact .inl (if_neg hb)
   · by_cases hb:b = a
     · have z':=(if_pos hb).symm.trans z
       cases z'
       subst hb
       exact ⟨ha,by rw [Ab]; exact hl,vs,_,rv,ha⟩
     · have z':=(if_neg hb).symm.trans z
       cases z'
   · by_cases hb:b = a
     · exact hb
     · exact absurd (if_neg hb) z
end L2
namespace L2
open PySem PySem.Spec PyProof.Rows
theorem bZQ {l:PySem.W.OpenLaw} {n k:Nat} {q:Program} {loose:List Str} {XP:(Str → Option Value) → Heap → Prop} {YP:World → Heap → Prop} {d:DefRec} {K:Params → PySem.W.Frag} {CX:World → CXT} {sp:World → Sp} {x:Str}
   (hn:l.most = some n) (hn2:n ≤ sizeLine) (hdf:d.params.defaults = []) (hr:Room k callerA)
   (hY:∀ (w:World) (h:Heap),YP w h → (K w.params).In h)
   (F:∀ (w:World) (mg:Str → Option Value) (fa:Addr) (h:Heap),(K w.params).In h → h.Ns mainGlobals mg → mg d.name = some (.ref fa) →
     ∃ fd:FuncData,(∀ (s:Shared) (u:Value),BindsTo s fd ⟨[u],[]⟩ [(x,u)]) ∧
       ∀ base:Heap,(K w.params).In base → base.Ns mainGlobals mg → FnOk l.prog w (K w.params) mg base (CX w) k fa fd [x] (sp w))
   (hsp:∀ (w:World) (H:Hp) (a:Addr) (ns:List Int),ns.length ≤ n → cZF H → SqL (K w.params) H a (ns.map V.int) → sp w [.ref a] H (fun v _ => v = .bl true) fun _ _ _ => False)
   (hCX:∀ (w:World) (H:Hp) (s:Shared) (e:Value) (s':Shared),CX w [] H s (fun _ _ _ => False) e s' → False) :
   PySem.W.WalkO q loose XP YP l.row.toRowW d [] (fun f vs => PySem.call f vs):=by
 refine Att.attach_call hn hdf fun w s₀ s₁ mg mb fa o pm cd doc a vs ns G Y ho hd hcd hmg hobj hints hlen hg => ?_
 have KX:=hY w _ Y
 obtain ⟨fd,hb,hF⟩:=F w mg fa _ KX G.T.g hmg
 exact aZ0 KX G.T.g G.T.b G.T.builtins G.T.nolimit hg hobj hints (Bb hlen hn2) hr hF hb (fun H hO hS => hsp w H a ns hlen hO hS) fun H e s' => hCX w H s₁ e s'
end L2
namespace L2
open PySem PySem.Spec PyProof.Rows
def aS (s:Stmt):Arguments:=match s with
 | .FunctionDef _ a _ _ _ _ _ _ _ _ => a
 | _ => { posonlyargs:=[],args:=[],vararg:=none,kwonlyargs:=[],kw_defaults:=[],kwarg:=none,defaults:=[] }
def aR (s:Stmt):List Stmt:=match s with
 | .FunctionDef _ _ b _ _ _ _ _ _ _ => b
 | _ => []
def aG (s:Stmt):Scope:=match s with
 | .FunctionDef _ _ _ _ _ _ sc _ _ _ => sc
 | _ => { kind:=.function,names:=[],isGenerator:=false,isCoroutine:=false }
abbrev CX0:CXT:=fun _ _ _ _ _ _ => False
abbrev E0:XK:=fun _ _ _ => False
theorem dQ9 {X:Cx}:mJ CX0 X E0:=fun _ _ _ _ _ _ _ h => h.elim
structure Fun (K:PySem.W.Frag) (x qual:Str) (st:Stmt) (f:Addr) (fd:FuncData):Prop where
 ex:∃ (oc:Value) (od:Option Addr) (kV doc pm:Value) (an:Option Addr) (cdv ct:Value) (osl:Array (Option Value)),
   fd = PySem.W.fnOf x qual (aS st) (aR st) (aG st) .none kV doc pm an cdv ct ∧ K.lookup f = some ⟨oc,od,.func fd,osl⟩ ∧ PySem.W.codeIn K cdv qual = true
 kp:PySem.W.keepIn K (.ref f) = true
section
variable {P:Program} {w:World} {K:PySem.W.Frag} {mg:Str → Option Value} {base:Heap}
theorem Fun.ok {x qual:Str} {st:Stmt} {f:Addr} {fd:FuncData} {N ps:List Str} {k:Nat} {sp:Sp} (F:Fun K x qual st f fd) (S:FnScope N ps (aG st)) (len:∀ vs H Q E,sp vs H Q E → vs.length = ps.length)
   (hbody:∀ (cdv:Value) (A:Around) (outer:List Env) (s:Shared) (H:Hp) (vs:List V) (Q:VK) (E:XK),Room k (A.deeper (envOfC qual (aG st) s.heap.objs.size f cdv)) → sp vs H Q E →
     ∃ t,PSs (fY CX0 P w K mg base N qual (aG st) f cdv A outer s H E).nox (aR st) t ∧ t { nx:=fun _ H' => Q .non H',rt:=Q } (lS N vs) H):FnOk P w K mg base CX0 (k + 1) f fd ps sp:=by
 obtain ⟨oc,od,kV,doc,pm,an,cdv,ct,osl,rfl,lk,hcd⟩:=F.ex
 refine cQ3 lk hcd S len fun A outer s H vs Q E hr hsp => ?_
 obtain ⟨t,h,q⟩:=hbody cdv A outer s H vs Q E hr hsp
 exact ⟨t,h.nox,q⟩
theorem Fun.binds {x qual:Str} {st:Stmt} {f:Addr} {fd:FuncData} {ps:List Str} (F:Fun K x qual st f fd)
   (h:∀ (kV doc pm:Value) (an:Option Addr) (cdv ct:Value) (us:List Value),us.length = ps.length → bindArgs (PySem.W.fnOf x qual (aS st) (aR st) (aG st) .none kV doc pm an cdv ct) ⟨us,[]⟩ = pure (ps.zip us)):Binds K fd ps []:=by
 obtain ⟨oc,od,kV,doc,pm,an,cdv,ct,osl,rfl,lk,hcd⟩:=F.ex
 exact .all (h kV doc pm an cdv ct)
theorem bC {x qual:Str} {st:Stmt} {f:Addr} {oc:Value} {od an:Option Addr} {osl:Array (Option Value)} {kV doc pm cdv ct:Value} (l:K.lookup f = some ⟨oc,od,.func (PySem.W.fnOf x qual (aS st) (aR st) (aG st) .none kV doc pm an cdv ct),osl⟩)
   (c:PySem.W.codeIn K cdv qual = true) (k:PySem.W.keepIn K (.ref f) = true):Fun K x qual st f (PySem.W.fnOf x qual (aS st) (aR st) (aG st) .none kV doc pm an cdv ct):=⟨⟨oc,od,kV,doc,pm,an,cdv,ct,osl,rfl,l,c⟩,k⟩
end
section
variable {X:Cx}
theorem pv (i:Nat) {x:Str} {pos:Pos} (hN:X.N[i]? = some x:=by rfl) (hv:Vis X.env.scope x:=by first | exact Or.inl rfl | exact Or.inr (Or.inl rfl) | exact Or.inr (Or.inr rfl)) (hd:(x == ("__debug__" : Str)) = false:=by decide)
   (hcd:(x == ("__classdict__" : Str)) = false:=by decide):PE X (.Name x pos) (dXA i):=cZ1 hN hv hd hcd
end
theorem dZV {A B:Prop} (h:B):if false = true then A else B:=by
 rw [if_neg Al]
 exact h
theorem dZO {A B:Prop} (h:A):if true = true then A else B:=by
 rw [if_pos rfl]
 exact h
theorem fZ {c A B:Prop} [Decidable c] (h1:c → A) (h2:¬ c → B):if c then A else B:=by
 by_cases h:c
 · rw [if_pos h]
   exact h1 h
 · rw [if_neg h]
   exact h2 h
def Same (H H':Hp):Prop:=∀ b o,H b = some o → H' b = some o
theorem Same.refl (H:Hp):Same H H:=fun _ _ h => h
theorem Same.trans {H H1 H2:Hp} (a:Same H H1) (b:Same H1 H2):Same H H2:=fun c o h => b c o (a c o h)
theorem Same.free {H H':Hp} (e:Same H H') {l:Addr} (h:H' l = Option.none):H l = Option.none:=by
 cases q:H l with
 | none => rfl
 | some o =>
   rw [e l o q] at h
   cases h
theorem Same.seq {K:PySem.W.Frag} {H H':Hp} {a:Addr} {xs:List V} (e:Same H H') (h:SqL K H a xs):SqL K H' a xs:=by
 rcases h with (h | ⟨o,h⟩) | h
 · exact .inl (.inl (e _ _ h))
 · exact .inl (.inr ⟨o,e _ _ h⟩)
 · exact .inr h
end L2
set_option maxHeartbeats 4000000
namespace FlT
open PySem PySem.Spec PyProof.Rows
def sIx (n d:Nat):Option Int → Nat
 | none => d
 | some v => if v < 0 then (v + (n:Int)).toNat else min v.toNat n
theorem app_cps (x y:Str):(x ++ y).cps.toList = x.cps.toList ++ y.cps.toList:=by
 show (x.cps ++ y.cps).toList = _
 simp
theorem str_ext {x y:Str} (h:x.cps.toList = y.cps.toList):x = y:=by
 obtain ⟨⟨x⟩⟩:=x
 obtain ⟨⟨y⟩⟩:=y
 cases h
 rfl
end FlT
set_option maxHeartbeats 4000000
namespace L2
open PySem PySem.Spec PyProof.Rows
theorem PE.imp {X:Cx} {e:Expr} {t t':TE} (h:PE X e t) (i:∀ σ H Q,t' σ H Q → t σ H Q):PE X e t':=fun pins s σ H Q I q => h pins s σ H Q I (i σ H Q q)
theorem PT.imp {X:Cx} {e:Expr} {t t':TT} (h:PT X e t) (i:∀ σ H Q,t' σ H Q → t σ H Q):PT X e t':=fun pins s σ H Q I q => h pins s σ H Q I (i σ H Q q)
theorem OpR.imp {X:Cx} {f:Value → Value → Sem Value} {r r':R2} (h:OpR X f r) (i:∀ x y H Q,r' x y H Q → r x y H Q):OpR X f r':=fun pins s σ H x y v u Q I rx ry q => h pins s σ H x y v u Q I rx ry (i x y H Q q)
theorem CallR.imp {X:Cx} {f:Value} {r r':List V → Hp → VK → Prop} (h:CallR X f r) (i:∀ xs H Q,r' xs H Q → r xs H Q):CallR X f r':=fun pins s σ H xs us Q I rx q => h pins s σ H xs us Q I rx (i xs H Q q)
theorem MtR.imp {X:Cx} {id:String} {r r':V → List V → Hp → VK → Prop} (h:MtR X id r) (i:∀ x xs H Q,r' x xs H Q → r x xs H Q):MtR X id r':=fun pins s σ H x xs v us Q I rx rs q => h pins s σ H x xs v us Q I rx rs (i x xs H Q q)
theorem IxR.imp {X:Cx} {r r':R2} (h:IxR X r) (i:∀ x y H Q,r' x y H Q → r x y H Q):IxR X r':=fun value slice pins s σ H x y v u Q I rx ry q hs => h value slice pins s σ H x y v u Q I rx ry (i x y H Q q) hs
theorem SlR.imp {X:Cx} {r r':V → Option Int → Option Int → Hp → VK → Prop} (h:SlR X r) (i:∀ x lo hi H Q,r' x lo hi H Q → r x lo hi H Q):SlR X r':=fun pins s σ H x v vl vu lo hi sl Q I rx hs pl pu q => h pins s σ H x v vl vu lo hi sl Q I rx hs pl pu (i x lo hi H Q q)
def Its (z:Str):It:=⟨fun i _ => i < z.cps.size,fun i H x H' => H' = H ∧ ∃ c,z.cps[i]? = some c ∧ x = .str ⟨#[c]⟩,fun i _ => z.cps.size ≤ i⟩
theorem yK {P:Program} {w:World} {K:PySem.W.Frag} {tg:Expr} (z:Str) (t:Tok) (it:Addr):Turn P w K tg (Its z) [it] it (fun i h => h.IsStrIter it "str_ascii_iterator" z t i) where
 mem:=by simp
 obj:=fun i h st b hb => by
   have e:b = it:=by simpa using hb
   subst e
   obtain ⟨o,e,c,d⟩:=st
   exact ⟨o,e,fun v z => by rw [d] at z; cases z⟩
 keep:=fun i h h' st k => let ⟨o,ho,r⟩:=st; ⟨o,k it (by simp) o ho,r⟩
 item:=by
   intro X hP hw hK hc i pins s σ H E I hf st hg
   subst hP hw hK
   obtain ⟨f0,f1,f2,f3,f4,f5⟩:=hf it (by simp)
   have hi:i < z.cps.size:=hg
   refine wpAny_pyNext_ascii_item st (c:=z.cps[i]) (by simp [hi]) fun h' st' sb => ?_
   have I1:Inv X pins σ H { s with heap:=h',toks:=s.toks + 1 }:=I.turned (fun b o hb e => (sb.2 b hb).trans e) f0 f1 f3 f4 f5
   obtain ⟨o,e,c,d⟩:=id st'
   exact ⟨_,rfl,rQ (s:={ s with heap:=h',toks:=s.toks + 1 }) e c d (by decide) ⟨.str ⟨#[z.cps[i]]⟩,H,I1,⟨_,rfl⟩,⟨rfl,_,by simp [hi],rfl⟩,st',fun b hb => (hf b hb).1⟩⟩
 done:=by
   intro X hP hw hK hc i pins s σ H E I hf st hg
   subst hP hw hK
   obtain ⟨f0,f1,f2,f3,f4,f5⟩:=hf it (by simp)
   have hi:z.cps.size ≤ i:=hg
   exact wpAny_pyNext_ascii_end (I.ok.hd hc) st (by simp [hi]) fun h' eb => ⟨rfl,I.turned (t':=s.toks) (fun b o hb e => eb b o hb e) f0 f1 f3 f4 f5⟩
 self:=fun _ _ _ _ _ st h => wpAny_pyIter_striter_ascii st h
theorem aXG {P:Program} {w:World} {K:PySem.W.Frag} {tg:Expr} (z:Str) (t:Tok) (it:Addr):Turn P w K tg (Its z) [it] it (fun i h => h.IsStrIter it "str_iterator" z t i) where
 mem:=by simp
 obj:=fun i h st b hb => by
   have e:b = it:=by simpa using hb
   subst e
   obtain ⟨o,e,c,d⟩:=st
   exact ⟨o,e,fun v z => by rw [d] at z; cases z⟩
 keep:=fun i h h' st k => let ⟨o,ho,r⟩:=st; ⟨o,k it (by simp) o ho,r⟩
 item:=by
   intro X hP hw hK hc i pins s σ H E I hf st hg
   subst hP hw hK
   obtain ⟨f0,f1,f2,f3,f4,f5⟩:=hf it (by simp)
   have hi:i < z.cps.size:=hg
   refine wpAny_pyNext_wide_item st (c:=z.cps[i]) (by simp [hi]) fun h' st' sb => ?_
   have I1:Inv X pins σ H { s with heap:=h',toks:=s.toks + 1 }:=I.turned (fun b o hb e => (sb.2 b hb).trans e) f0 f1 f3 f4 f5
   obtain ⟨o,e,c,d⟩:=id st'
   exact ⟨_,rfl,rQ (s:={ s with heap:=h',toks:=s.toks + 1 }) e c d (by decide) ⟨.str ⟨#[z.cps[i]]⟩,H,I1,⟨_,rfl⟩,⟨rfl,_,by simp [hi],rfl⟩,st',fun b hb => (hf b hb).1⟩⟩
 done:=by
   intro X hP hw hK hc i pins s σ H E I hf st hg
   subst hP hw hK
   obtain ⟨f0,f1,f2,f3,f4,f5⟩:=hf it (by simp)
   have hi:z.cps.size ≤ i:=hg
   exact wpAny_pyNext_wide_end (I.ok.hd hc) st (by simp [hi]) fun h' eb => ⟨rfl,I.turned (t':=s.toks) (fun b o hb e => eb b o hb e) f0 f1 f3 f4 f5⟩
 self:=fun _ _ _ _ _ st h => wpAny_pyIter_striter_wide st h
section
variable {X:Cx} {tg:Expr}
end
theorem bZL {z:Str} {g:TG} {tb:TS} {D:Ends} {σ:St} {H:Hp} (Pv:Nat → St → Hp → Prop) (h0:Pv 0 σ H)
   (hs:∀ i c σ H,z.cps.toList[i]? = some c → Pv i σ H → g (.str ⟨#[c]⟩) σ H fun σ2 H2 => tb { D with nx:=Pv (i + 1),ct:=Pv (i + 1),bk:=D.nx } σ2 H2) (hd:∀ σ H,Pv z.cps.toList.length σ H → D.nx σ H) :
   ∃ W:Nat → Nat → St → Hp → Prop,(∃ m,W 0 m σ H) ∧ ∀ i m σ H,W i m σ H →
     ((Its z).stop i H ∧ D.nx σ H) ∨ ((Its z).go i H ∧ ∃ N:St → Hp → Prop,(∀ σ' H',N σ' H' → ∃ m',m' < m ∧ W (i + 1) m' σ' H') ∧ ∀ x H',(Its z).yld i H x H' → g x σ H' fun σ2 H2 => tb { D with nx:=N,ct:=N,bk:=D.nx } σ2 H2):=by
 have hl:z.cps.toList.length = z.cps.size:=by simp
 rw [hl] at hd
 refine ⟨fun i m σ H => m = z.cps.size - i ∧ i ≤ z.cps.size ∧ Pv i σ H,⟨z.cps.size,by simp,Nat.zero_le _,h0⟩,?_⟩
 rintro i m σ H ⟨rfl,hi,p⟩
 by_cases hlt:i < z.cps.size
 · refine .inr ⟨hlt,Pv (i + 1),fun σ' H' p' => ⟨z.cps.size - (i + 1),by omega,rfl,hlt,p'⟩,fun x H' y => ?_⟩
   obtain ⟨e,c,hc,hx⟩:=y
   subst e hx
   exact hs i c σ _ (by simpa using hc) p
 · have e:i = z.cps.size:=by omega
   subst e
   exact .inl ⟨Ah _,hd σ H p⟩
section
variable {X:Cx} {a b c:Expr} {ta tb tc:TE} {pos:Pos}
def dZM:V → Option Int → Option Int → Hp → VK → Prop:=fun x lo hi H Q => ∃ z,x = .str z ∧ z.length ≤ sizeLine ∧ Q (.str (Txt.slice z lo hi)) H
theorem cJT:SlR X dZM:=by
 intro pins s σ H x v vl vu lo hi sl Q I rx hs pl pu h
 obtain ⟨z,rfl,hz,q⟩:=h
 obtain ⟨t,rfl⟩:=rx
 refine ⟨"str",_,PySem.F.slot_str_getitem.lookup,typeIs_str _ _ _,?_⟩
 cases pl with
 | none =>
   cases pu with
   | none => exact Et (l:=none) (u:=none) (st:=none) hs rfl (post_val_or_str ⟨Bb (Txt.slice_le z _ _) hz,fun t' k => ⟨.str (Txt.slice z none none),H,I.tok _,⟨_,rfl⟩,q⟩⟩)
   | int j uj => exact Et (l:=none) (u:=some (j,uj)) (st:=none) hs rfl (post_val_or_str ⟨Bb (Txt.slice_le z _ _) hz,fun t' k => ⟨.str (Txt.slice z none (some j)),H,I.tok _,⟨_,rfl⟩,q⟩⟩)
 | int i ui =>
   cases pu with
   | none => exact Et (l:=some (i,ui)) (u:=none) (st:=none) hs rfl (post_val_or_str ⟨Bb (Txt.slice_le z _ _) hz,fun t' k => ⟨.str (Txt.slice z (some i) none),H,I.tok _,⟨_,rfl⟩,q⟩⟩)
   | int j uj => exact Et (l:=some (i,ui)) (u:=some (j,uj)) (st:=none) hs rfl (post_val_or_str ⟨Bb (Txt.slice_le z _ _) hz,fun t' k => ⟨.str (Txt.slice z (some i) (some j)),H,I.tok _,⟨_,rfl⟩,q⟩⟩)
def bJ0:V → List V → Hp → VK → Prop:=fun x vs H Q => ∃ z y i rest,x = .str z ∧ vs = [.str y] ∧ Builtin.Str.occurrences z y 0 z.length 1 = i :: rest ∧ Q (.int ((i:Nat):Int)) H
theorem mt_index:MtR X "str.index" bJ0:=by
 intro pins s σ H x vs v us Q I rx rv h
 obtain ⟨z,y,i,rest,rfl,rfl,ho,q⟩:=h
 obtain ⟨t,rfl⟩:=rx
 obtain ⟨u,rfl,ru⟩:=rv.one
 obtain ⟨t',rfl⟩:=ru
 exact SC.index ho ⟨.int i,H,I.tok _,⟨_,rfl⟩,q⟩
theorem yQ {ys:List Str}:∀ {us:List Value},Vals (ys.map V.str) us → StrsAre us ys:=by
 induction ys with
 | nil => intro us r; rw [Fm] at r; cases r; exact .nil
 | cons n ns ih =>
   intro us r
   rw [Ap] at r
   cases r with
   | cons r1 r2 =>
     obtain ⟨t,e⟩:=r1
     subst e
     exact .cons n t (ih r2)
theorem qK:CallR X (.type "int") (fun xs H Q => ∃ x n,xs = [.str x] ∧ PySem.intText? x = some n ∧ x.length ≤ 640 ∧ Q (.int n) H):=by
 intro pins s σ H xs us Q I r h
 obtain ⟨x,n,rfl,hn,hl,q⟩:=h
 obtain ⟨u,rfl,t,rfl⟩:=fI r
 exact PySem.W.KIN.call_text hn hl ⟨.int n,H,I.tok _,⟨_,rfl⟩,q⟩
theorem uO {bs:List Bool}:∀ {us:List Value},Vals (bs.map V.bl) us → LSm.BoolsAre us bs:=by
 induction bs with
 | nil => intro us r; rw [Fm] at r; cases r; exact .nil
 | cons n ns ih =>
   intro us r
   rw [Ap] at r
   cases r with
   | cons r1 r2 =>
     cases r1
     exact .cons n (ih r2)
theorem qE (hc:X.calm = true):CallR X (.builtin "all") (fun xs H Q => ∃ (p:Addr) (bs:List Bool),xs = [.ref p] ∧ SqL X.K H p (bs.map V.bl) ∧ Q (.bl (bs.all id)) H):=by
 intro pins s σ H xs us Q I r h
 obtain ⟨p,bs,rfl,hp,q⟩:=h
 obtain ⟨u,rfl,ru⟩:=fI r
 cases ru
 obtain ⟨its,rv,pl,hz⟩:=I.list hp
 have hb:=uO rv
 have hl:=pl.isList
 have hlt:p < s.heap.objs.size:=by obtain ⟨_,e,_⟩:=hl; exact Aq e
 refine call_all_walk (Fe hl ?_)
 refine ⟨s.heap.objs.size,[s.heap.objs.size,p],[s.heap.objs.size],its.toArray.size,_,_,fun i => (bs[i]?).getD true,rfl,Walks.list (A:=X.A.in1) (I.ok.hd hc) _ p (Bj hlt) its.toArray,
   ⟨⟨_,Ax _ rfl,rfl,rfl⟩,hl.push _⟩,fun i v s' Q' E' hP hQ => ?_,fun h' tk hk => ?_⟩
 · obtain ⟨b,e,rfl⟩:=hb.get i v (by simpa using hP)
   simp only [e,Option.getD_some] at hQ
   exact Eg hQ
 · have e:((List.range its.toArray.size).all fun i => (bs[i]?).getD true) = bs.all id:=by
     rw [Bo,hb.length]; exact LSm.range_all bs
   rw [e]
   exact ⟨.bl (bs.all id),H,I.kept (LSm.kept_iter hk),rfl,q⟩
def mO (xs ys:List V):Bool:=xs.length == ys.length && (List.range xs.length).all fun j => eqV (xs.getD j .non) (ys.getD j .non)
theorem Vals.getD_rel {xs:List V} {us:List Value} {j:Nat} (r:Vals xs us) (h:j < us.length):RelV (xs.getD j .non) us[j]:=by
 have hl:=r.length
 have hx:j < xs.length:=by omega
 obtain ⟨u,hu,ru⟩:=r.get (Aa hx)
 rw [Aa h] at hu
 cases hu
 rw [Ac,Aa hx]
 exact ru
theorem sB {xs:List V} (h:xs.all bW = true) (j:Nat):bW (xs.getD j .non) = true:=by
 rw [Ac]
 cases e:xs[j]? with
 | none => rfl
 | some x => exact Eu.mp h x (Ai e)
def dQR (K:PySem.W.Frag) (neg:Bool):R2:=fun x y H Q => ∃ p q xs ys,x = .ref p ∧ y = .ref q ∧ SqL K H p xs ∧ SqL K H q ys ∧ xs.all bW = true ∧ ys.all bW = true ∧ Q (.bl (if neg then !mO xs ys else mO xs ys)) H
theorem bQL {xs ys:List V} (h:xs.length ≠ ys.length):mO xs ys = false:=by
 unfold mO
 rw [En.mpr h,Bool.false_and]
theorem aZB {xs ys:List V} (h:xs.length = ys.length):mO xs ys = (List.range xs.length).all fun j => eqV (xs.getD j .non) (ys.getD j .non):=by
 unfold mO
 rw [h,beq_self_eq_true,Bool.true_and]
theorem yH (hu:X.A.units < cLine):OpR X (compareOp .Eq) (dQR X.K false):=by
 intro pins s σ H x y v u Q I rx ry h
 obtain ⟨p,q,xs,ys,rfl,rfl,hp,hq,fx,fy,k⟩:=h
 cases rx
 cases ry
 obtain ⟨its,r1,l1,_⟩:=I.list hp
 obtain ⟨its2,r2,l2,_⟩:=I.list hq
 have e1:=r1.length
 have e2:=r2.length
 by_cases hl:xs.length = ys.length
 · refine SeqAt.eq_listAt (e:=fun j => eqV (xs.getD j .non) (ys.getD j .non)) l1.isList l2.isList (by simp only [List.size_toArray]; omega) hu (fun j h1 h2 => ?_) ?_
   · have h1':j < its.length:=by simpa using h1
     have h2':j < its2.length:=by simpa using h2
     simpa using pV (A:=X.A.in1) (s:=s) (r1.getD_rel h1') (r2.getD_rel h2') (sB fx j) (sB fy j)
   · refine ⟨.bl (mO xs ys),H,I,?_,k⟩
     rw [aZB hl]
     simp only [List.size_toArray,← e1]
     rfl
 · refine SeqAt.eq_list_lengthsAt l1.isList l2.isList (by simp only [List.size_toArray,bne_iff_ne]; omega) hu ⟨.bl (mO xs ys),H,I,?_,k⟩
   rw [bQL hl]
   rfl
end
end L2
set_option maxHeartbeats 4000000
namespace L2
open PySem PySem.Spec PyProof.Rows
def rdO:Option HO → Option (List V)
 | some (.lst xs) => some xs
 | some (.frz _ (.lst xs)) => some xs
 | _ => none
def rdL (H:Hp) (a:Addr):Option (List V):=rdO (H a)
theorem aW {K:PySem.W.Frag} {H:Hp} {a:Addr} {xs:List V} (h:rdL H a = some xs):SqL K H a xs:=by
 unfold rdL rdO at h
 split at h
 · cases h; exact .inl (.inl (by assumption))
 · cases h; exact .inl (.inr ⟨_,by assumption⟩)
 · cases h
theorem aQ {H:Hp} {a:Addr} {xs:List V} (h:H a = some (.lst xs)):rdL H a = some xs:=by unfold rdL; rw [h]; rfl
theorem eQ {H:Hp} {a:Addr} {xs:List V}:rdL (upd H a (.lst xs)) a = some xs:=aQ aB
theorem yG {H:Hp} {a b:Addr} {o:HO} (h:b ≠ a):rdL (upd H a o) b = rdL H b:=by unfold rdL; rw [aI h]
theorem aJ {H H':Hp} {a:Addr} {xs:List V} (e:Same H H') (h:rdL H a = some xs):rdL H' a = some xs:=by
 unfold rdL at h ⊢
 cases q:H a with
 | none => rw [q] at h; cases h
 | some o => rw [e a o q,← q]; exact h
theorem aE {H:Hp} {p:Addr} (h:H p = none) (o:HO):Same H (upd H p o):=fun b u q => by rw [aI (bH q h)]; exact q
def hZ (H:Hp) (a:Addr):Option (List V):=match H a with | some (.lst xs) => some xs | _ => none
theorem bG {H:Hp} {a:Addr} {xs:List V} (h:H a = some (.lst xs)):hZ H a = some xs:=by unfold hZ; rw [h]
theorem jR {H:Hp} {a:Addr} {xs:List V} (h:hZ H a = some xs):H a = some (.lst xs):=by
 unfold hZ at h
 split at h
 · cases h; assumption
 · cases h
theorem mE {H:Hp} {a:Addr} {xs:List V}:hZ (upd H a (.lst xs)) a = some xs:=bG aB
theorem bJP {H:Hp} {a b:Addr} {o:HO} (h:b ≠ a):hZ (upd H a o) b = hZ H b:=by unfold hZ; rw [aI h]
def kC (H:Hp) (a:Addr):Option (List V):=match H a with | some (.tup xs) => some xs | _ => none
theorem jY {H:Hp} {a:Addr} {xs:List V} (h:H a = some (.tup xs)):kC H a = some xs:=by unfold kC; rw [h]
theorem nT {H:Hp} {a:Addr} {xs:List V} (h:kC H a = some xs):H a = some (.tup xs):=by
 unfold kC at h
 split at h
 · cases h; assumption
 · cases h
theorem jW {H:Hp} {a:Addr} {xs:List V}:kC (upd H a (.tup xs)) a = some xs:=jY aB
section
variable {X:Cx} {a b c:Expr} {ta tb tc:TE} {pos:Pos}
def cQD (i:Nat):TE:=fun σ H Q => match σ[i]? with | some (some v) => Q v H | _ => False
theorem mv (i:Nat) {x:Str} {pos:Pos} (hN:X.N[i]? = some x:=by rfl) (hv:Vis X.env.scope x:=by first | exact Or.inl rfl | exact Or.inr (Or.inl rfl) | exact Or.inr (Or.inr rfl)) (hd:(x == ("__debug__" : Str)) = false:=by decide)
   (hcd:(x == ("__classdict__" : Str)) = false:=by decide):PE X (.Name x pos) (cQD i):=(pv i hN hv hd hcd).imp fun σ H Q q => by
 unfold cQD at q
 split at q
 · exact ⟨_,by assumption,q⟩
 · exact q.elim
def mI (g:Int → Int → V):R2:=fun x y H Q => match x,y with | .int i,.int j => Q (g i j) H | _,_ => False
theorem zI {g:Int → Int → V} {x y:V} {H:Hp} {Q:VK} (q:mI g x y H Q):rI0 g x y H Q:=by
 unfold mI at q
 split at q
 · exact ⟨_,_,rfl,rfl,q⟩
 · exact q.elim
def mIC (C:Int → Int → Prop) (g:Int → Int → V):R2:=fun x y H Q => match x,y with | .int i,.int j => C i j ∧ Q (g i j) H | _,_ => False
theorem tG {C:Int → Int → Prop} {g:Int → Int → V} {x y:V} {H:Hp} {Q:VK} (q:mIC C g x y H Q):rI C g x y H Q:=by
 unfold mIC at q
 split at q
 · exact ⟨_,_,rfl,rfl,q.1,q.2⟩
 · exact q.elim
def aXD:R2:=fun x y H Q => match x,y with
 | .int i,.int j => Q (.int (i + j)) H
 | .str z,.str y => z.length + y.length ≤ sizeLine ∧ Q (.str (z ++ y)) H
 | .ref p,.ref q => (match hZ H p,hZ H q with
   | some xs,some zs => xs.length + zs.length ≤ sizeLine ∧ ∀ r,H r = none → Q (.ref r) (upd H r (.lst (xs ++ zs)))
   | _,_ => False)
 | _,_ => False
theorem cH:OpR X (binaryOp .Add) aXD:=by
 intro pins s σ H x y v u Q I rx ry q
 unfold aXD at q
 split at q
 · exact cJR pins s σ H _ _ v u Q I rx ry ⟨_,_,rfl,rfl,q⟩
 · exact yS pins s σ H _ _ v u Q I rx ry ⟨_,_,rfl,rfl,q.1,q.2⟩
 · split at q
   · exact cZ3 pins s σ H _ _ v u Q I rx ry ⟨_,_,_,_,rfl,rfl,jR (by assumption),jR (by assumption),q.1,q.2⟩
   · exact q.elim
 · exact q.elim
theorem kE:OpR X (binaryOp .Sub) (mI fun i j => .int (i - j)):=op_sub.imp fun _ _ _ _ q => zI q
theorem bX8:OpR X (binaryOp .Mult) (mIC CMul fun i j => .int (i * j)):=op_mul.imp fun _ _ _ _ q => tG q
theorem iO:OpR X (binaryOp .Mod) (mIC (fun _ j => 0 < j) fun i j => .int (i % j)):=op_mod.imp fun _ _ _ _ q => tG q
theorem uD:OpR X (binaryOp .FloorDiv) (mIC dXY fun i j => .int (i / j)):=op_fdiv.imp fun _ _ _ _ q => tG q
theorem bX5:OpR X (compareOp .Lt) (mI fun i j => .bl (decide (i < j))):=op_lt.imp fun _ _ _ _ q => zI q
theorem bXU:OpR X (compareOp .Gt) (mI fun i j => .bl (decide (j < i))):=op_gt.imp fun _ _ _ _ q => zI q
def cX4:V → Hp → VK → Prop:=fun x H Q => match x with | .int i => Q (.int (-i)) H | _ => False
theorem cQZ:UnR X (unaryOp .USub) cX4:=fun pins s σ H x v Q I rx q => by
 unfold cX4 at q
 split at q
 · exact cJN pins s σ H _ v Q I rx ⟨_,rfl,q⟩
 · exact q.elim
def mEq:R2:=fun x y H Q => bJN x y = true ∧ Q (.bl (decide (x = y))) H
theorem xC:OpR X (compareOp .Eq) mEq:=dQE
def mNe:R2:=fun x y H Q => bJN x y = true ∧ Q (.bl (!decide (x = y))) H
theorem aJS:OpR X (compareOp .NotEq) mNe:=dX1
def bQV (neg:Bool):R2:=fun x y H Q => match x,y with
 | .ref p,.ref q => (match rdL H p,rdL H q with
   | some xs,some ys => xs.all bW = true ∧ ys.all bW = true ∧ Q (.bl (if neg then !mO xs ys else mO xs ys)) H
   | _,_ => False)
 | _,_ => False
theorem bQ3 {K:PySem.W.Frag} {neg:Bool} {x y:V} {H:Hp} {Q:VK} (q:bQV neg x y H Q):dQR K neg x y H Q:=by
 unfold bQV at q
 split at q
 · split at q
   · exact ⟨_,_,_,_,rfl,rfl,aW (by assumption),aW (by assumption),q.1,q.2.1,q.2.2⟩
   · exact q.elim
 · exact q.elim
theorem dQU (hu:X.A.units < cLine):OpR X (compareOp .Eq) (bQV false):=(yH hu).imp fun _ _ _ _ q => bQ3 q
def cZE:R2:=fun x y H Q => match y with | .non => Q (.bl (decide (x = .non))) H | _ => False
theorem aQY:OpR X (compareOp .Is) cZE:=op_isN.imp fun _ y _ _ q => by
 unfold cZE at q
 split at q
 · exact ⟨rfl,q⟩
 · exact q.elim
def bQ7:R2:=fun x y H Q => match y with | .non => Q (.bl (!decide (x = .non))) H | _ => False
theorem mG:OpR X (compareOp .IsNot) bQ7:=op_notN.imp fun _ y _ _ q => by
 unfold bQ7 at q
 split at q
 · exact ⟨rfl,q⟩
 · exact q.elim
def subIn (y x:Str):Bool:=!(Builtin.Str.occurrences x y 0 x.length 1).isEmpty
theorem rA (x:Str) (c:Nat):subIn ⟨#[c]⟩ x = decide (c ∈ x.cps.toList):=PySem.StrLaws.found_one x c
def cXT (neg:Bool):R2:=fun x y H Q => match x,y with | .str i,.str j => Q (.bl (if neg then !subIn i j else subIn i j)) H | _,_ => False
theorem zX:OpR X (compareOp .In) (cXT false):=op_in_str.imp fun _ _ _ _ q => by
 unfold cXT at q
 split at q
 · exact ⟨_,_,rfl,rfl,q⟩
 · exact q.elim
def bXA (neg:Bool):R2:=fun x y H Q => match y with
 | .ref p => (match rdL H p with | some xs => bW x = true ∧ xs.all bW = true ∧ Q (.bl (if neg then !inV x xs else inV x xs)) H | none => False)
 | _ => False
theorem bQQ {K:PySem.W.Frag} {neg:Bool} {x y:V} {H:Hp} {Q:VK} (q:bXA neg x y H Q):rIn K neg x y H Q:=by
 unfold bXA at q
 split at q
 · split at q
   · exact ⟨_,_,rfl,.inl (aW (by assumption)),q.1,q.2.1,q.2.2⟩
   · exact q.elim
 · exact q.elim
theorem wN:OpR X (compareOp .NotIn) (bXA true):=op_notIn_seq.imp fun _ _ _ _ q => bQQ q
def mB (Q:Bool → Hp → Prop):VK:=fun x H => match x with | .bl k => Q k H | _ => False
theorem cQX {Q:Bool → Hp → Prop} {x:V} {H:Hp} (q:mB Q x H):∃ k,x = .bl k ∧ Q k H:=by
 unfold mB at q
 split at q
 · exact ⟨_,rfl,q⟩
 · exact q.elim
def cQ6 (t:TE):TT:=fun σ H Q => t σ H (mB Q)
theorem bB {op:CmpOp} {r:R2} (ho:OpR X (compareOp op) r) (ha:PE X a ta) (hb:PE X b tb) (hm:behindInMarks op b = false):PT X (.Compare a [op] [b] pos) (cQ6 (tOp r ta tb)):=by
 intro pins s σ H Q I h
 refine wpAny_isTrue_Compare1 (thn (ha pins s σ H _ I h) fun v s1 ⟨x,H1,I1,r1,q1⟩ => thn (hb pins s1 σ H1 _ I1 q1) fun u s2 ⟨y,H2,I2,r2,q2⟩ =>
   thn (ho pins s2 σ H2 x y v u _ I2 r1 r2 q2) fun c s3 ⟨z,H3,I3,r3,q⟩ => ?_) hm
 obtain ⟨k,e,q3⟩:=cQX q
 subst e
 cases r3
 exact Eg ⟨H3,I3,q3⟩
def bQW (Q:Bool → Hp → Prop):VK:=fun x H => match x with
 | .non => Q false H
 | .bl k => Q k H
 | .int i => Q (i != 0) H
 | .str y => y.length ≤ sizeLine ∧ Q ((y.length:Int) != 0) H
 | .ref p => (match rdL H p with
   | some xs => Q (!xs.isEmpty) H
   | none => (match H p with | some (.dK kvs) => Q (!kvs.isEmpty) H | _ => False))
 | _ => False
theorem cQI {K:PySem.W.Frag} {Q:Bool → Hp → Prop} {x:V} {H:Hp} (q:bQW Q x H):∃ k,dX0 K x H k ∧ Q k H:=by
 unfold bQW at q
 split at q
 · exact ⟨_,rfl,q⟩
 · exact ⟨_,rfl,q⟩
 · exact ⟨_,rfl,q⟩
 · exact ⟨_,⟨q.1,rfl⟩,q.2⟩
 · split at q
   · exact ⟨_,.inl ⟨_,aW (by assumption),rfl⟩,q⟩
   · split at q
     · exact ⟨_,.inr (.inr ⟨_,by assumption,rfl⟩),q⟩
     · exact q.elim
 · exact q.elim
def bXV (t:TE):TT:=fun σ H Q => t σ H (bQW Q)
theorem lQ (ha:PE X a ta) (he:∀ whole,isTrue a X.env whole = (do let v ← whole; standAt a.pos; holding [v] (truthy v)):=by intro _; rfl):PT X a (bXV ta):=by
 intro pins s σ H Q I h
 refine isTrue_plain (thn (ha pins s σ H _ I h) fun v s1 ⟨x,H1,I1,r1,q1⟩ => uK pins s1 σ H1 x v Q I1 r1 (cQI q1)) (he _)
variable {rest:List Expr}
def cQR (ta tb:TE):TE:=fun σ H Q => ta σ H (mB fun c H1 => if c = true then tb σ H1 Q else Q (.bl false) H1)
theorem cJV (ha:PE X a ta) (hb:PE X (.BoolOp .And (b :: rest) pos) tb):PE X (.BoolOp .And (a :: b :: rest) pos) (cQR ta tb):=by
 intro pins s σ H Q I h
 refine BoolOp_and (thn (ha pins s σ H _ I h) fun v s1 ⟨x,H1,I1,r1,q1⟩ => ?_)
 obtain ⟨c,rfl,q1⟩:=cQX q1
 cases r1
 refine Eg ?_
 cases c with
 | true => exact hb pins s1 σ H1 Q I1 q1
 | false => exact ⟨.bl false,H1,I1,rfl,q1⟩
def mIx:R2:=fun x y H Q => match x,y with
 | .str z,.int i => z.length ≤ sizeLine ∧ (match atI z.cps.toList i with | some c => Q (.str ⟨#[c]⟩) H | none => False)
 | .ref p,.int i => (match rdL H p with
   | some xs => (match atI xs i with | some v => Q v H | none => False)
   | none => (match kC H p with
     | some xs => (match atI xs i with | some v => Q v H | none => False)
     | none => False))
 | _,_ => False
theorem bZN {K:PySem.W.Frag} {x y:V} {H:Hp} {Q:VK} (q:mIx x y H Q):rIx K x y H Q:=by
 unfold mIx at q
 split at q
 · obtain ⟨h1,q⟩:=q
   split at q
   · exact .inr (.inr ⟨_,_,_,rfl,rfl,h1,by assumption,q⟩)
   · exact q.elim
 · split at q
   · split at q
     · exact .inl ⟨_,_,_,_,rfl,rfl,aW (by assumption),by assumption,q⟩
     · exact q.elim
   · split at q
     · split at q
       · exact .inr (.inl ⟨_,_,_,_,rfl,rfl,SqT.of (nT (by assumption)),by assumption,q⟩)
       · exact q.elim
     · exact q.elim
 · exact q.elim
theorem cO:IxR X mIx:=ix_seq.imp fun _ _ _ _ q => bZN q
def mSl:V → Option Int → Option Int → Hp → VK → Prop:=fun x lo hi H Q => match x with
 | .str z => z.length ≤ sizeLine ∧ Q (.str (Txt.slice z lo hi)) H
 | .ref p => (match rdL H p with | some xs => ∀ r,H r = none → Q (.ref r) (upd H r (.lst (mR xs lo hi))) | none => False)
 | _ => False
theorem dXP:SlR X mSl:=(sl_list.or cJT).imp fun _ _ _ _ _ q => by
 unfold mSl at q
 split at q
 · exact .inr ⟨_,rfl,q.1,q.2⟩
 · split at q
   · exact .inl ⟨_,_,rfl,aW (by assumption),q⟩
   · exact q.elim
 · exact q.elim
def tQ (Q:Option Int → Hp → Prop):VK:=fun x H1 => match x with | .int i => Q (some i) H1 | _ => False
def cQO (t:TE):TO:=fun σ H Q => t σ H (tQ Q)
variable {e:Expr} {te:TE}
theorem lW (h:PE X e te):PO X (some e) (cQO te):=by
 intro pins s σ H Q I hw
 rw [evalPart_some]
 refine thn (h pins s σ H _ I hw) fun u s1 ⟨x,H1,I1,r1,q1⟩ => ?_
 unfold tQ at q1
 split at q1
 · obtain ⟨t,rfl⟩:=r1
   exact ⟨_,H1,I1,.int _ t,q1⟩
 · exact q1.elim
def bQH:List V → Hp → VK → Prop:=fun xs H Q => match xs with
 | [.str z] => z.length ≤ sizeLine ∧ Q (.int z.length) H
 | [.ref p] => (match rdL H p with
   | some xs => Q (.int xs.length) H
   | none => (match kC H p with | some xs => Q (.int xs.length) H | none => False))
 | _ => False
theorem eU:CallR X (.builtin "len") bQH:=call_len.imp fun _ _ _ q => by
 unfold bQH at q
 split at q
 · exact ⟨_,_,rfl,⟨q.1,rfl⟩,q.2⟩
 · split at q
   · exact ⟨_,_,rfl,.inl ⟨_,aW (by assumption),rfl⟩,q⟩
   · split at q
     · exact ⟨_,_,rfl,.inr ⟨_,SqT.of (nT (by assumption)),rfl⟩,q⟩
     · exact q.elim
 · exact q.elim
def cZ0:List V → Hp → VK → Prop:=fun xs H Q => match xs with | [.int i,.int j] => Q (.int (if j < i then j else i)) H | _ => False
theorem dXC (hc:X.calm = true):CallR X (.builtin "min") cZ0:=(aXQ hc).imp fun _ _ _ q => by
 unfold cZ0 at q
 split at q
 · exact ⟨_,_,rfl,q⟩
 · exact q.elim
def bJ1:List V → Hp → VK → Prop:=fun xs H Q => match xs with
 | [.int i] => Q (.int i) H
 | [.str x] => (match PySem.intText? x with | some n => x.length ≤ 640 ∧ Q (.int n) H | none => False)
 | _ => False
theorem zR:CallR X (.type "int") bJ1:=(call_int1.or qK).imp fun _ _ _ q => by
 unfold bJ1 at q
 split at q
 · exact .inl (.inl ⟨_,rfl,q⟩)
 · split at q
   · exact .inr ⟨_,_,rfl,by assumption,q.1,q.2⟩
   · exact q.elim
 · exact q.elim
def aQQ:List V → Hp → VK → Prop:=fun xs H Q => match xs with
 | [.ref p] => (match rdL H p with
   | some ys => ∀ l,H l = none → Q (.ref l) (upd H l (.lst ys))
   | none => (match kC H p with | some ys => ∀ l,H l = none → Q (.ref l) (upd H l (.lst ys)) | none => False))
 | _ => False
theorem mU:CallR X (.type "list") aQQ:=call_list_of.imp fun _ _ _ q => by
 unfold aQQ at q
 split at q
 · split at q
   · exact ⟨_,_,rfl,.inl (aW (by assumption)),q⟩
   · split at q
     · exact ⟨_,_,rfl,.inr (SqT.of (nT (by assumption))),q⟩
     · exact q.elim
 · exact q.elim
def yJ (T:String) (x:V) (H:Hp) (P:Prop):Prop:=match x with
 | .str _ => T = "str" ∧ P
 | .ref p => (match rdL H p with | some _ => T = "list" ∧ P | none => False)
 | _ => False
theorem aZ1 {K:PySem.W.Frag} {T:String} {x:V} {H:Hp} {P:Prop} (q:yJ T x H P):tyV K T x H ∧ P:=by
 unfold yJ at q
 split at q
 · exact ⟨q.1,q.2⟩
 · split at q
   · exact ⟨.inl ⟨q.1,_,aW (by assumption)⟩,q.2⟩
   · exact q.elim
 · exact q.elim
def cQQ (T:String) (r:V → List V → Hp → VK → Prop) (to:TE) (t:TA):TE:=fun σ H Q => to σ H fun x H1 => yJ T x H1 (t σ H1 fun xs H2 => r x xs H2 Q)
variable {o:Expr} {es:List Expr} {to:TE} {t:TA} {name:Str} {apos cpos:Pos} {T id:String} {r:V → List V → Hp → VK → Prop}
theorem fD (pa:PlainAttrs T) (slot:Slot T name id) (hty:typeOf (.builtin id) = pure (.type "method_descriptor")) (hm:MtR X id r) (ho:PE X o to) (ha:PA X (e :: es) t)
   (hbase:attributeBase o name X.env (eval o X.env) = eval o X.env:=by rfl)
   (hfew:((backTo cpos (starEach (e :: es) X.env)).all (fun x => !x.1) && (backToKw cpos (keywordEach [] X.env)).all (fun x => x.1.isSome)
     && decide ((e :: es).length + ([]:List Keyword).length + (if ([]:List Keyword).isEmpty then 0 else 1) < 30)) = true:=by rfl)
   (hline:(apos.endLine == cpos.line) = true:=by rfl) (hs:starEach (e :: es) X.env = (false,eval e X.env) :: starEach es X.env:=by rfl) (hplain:(backTo cpos (starEach es X.env)).any (·.1) = false:=by rfl) :
   PE X (.Call (.Attribute o name apos) (e :: es) [] cpos) (cQQ T r to t):=by
 intro pins s σ H Q I h
 refine wpAny_Call_method_late hbase hfew hline rfl (thn (ho pins s σ H _ I h) fun v s1 ⟨x,H1,I1,r1,q⟩ => ?_)
 obtain ⟨ty,q1⟩:=aZ1 (K:=X.K) q
 obtain ⟨h1,h2⟩:=cZ5 I1 r1 ty
 refine ⟨T,id,pa,slot,hty,h1,h2,?_⟩
 have hA:=ha cpos pins s1 σ H1 _ I1 q1
 rw [hs] at hA ⊢
 refine Calls.callWith_builtin (by show (false || (backTo cpos (starEach es X.env)).any (·.1)) = false; rw [hplain] <;> rfl) (Calls.evalArgs_plain ?_)
 exact thn hA fun us s2 ⟨vs,H2,I2,r2,q2⟩ => hm pins s2 σ H2 x vs v us Q I2 r1 r2 q2
def bJS:V → List V → Hp → VK → Prop:=fun x vs H Q => match x,vs with
 | .ref l,[y] => (match hZ H l with | some xs => xs.length < sizeLine ∧ Q .non (upd H l (.lst (xs ++ [y]))) | none => False)
 | _,_ => False
theorem aQH:MtR X "list.append" bJS:=MtR.imp (r:=aQT) rK fun _ _ _ _ q => by
 unfold bJS at q
 split at q
 · split at q
   · exact ⟨_,_,_,rfl,rfl,jR (by assumption),q.1,q.2⟩
   · exact q.elim
 · exact q.elim
def tP:V → List V → Hp → VK → Prop:=fun x vs H Q => match x,vs with
 | .str z,[.str y] => (match Builtin.Str.occurrences z y 0 z.length 1 with | i :: _ => Q (.int ((i:Nat):Int)) H | [] => False)
 | _,_ => False
theorem bZV:MtR X "str.index" tP:=mt_index.imp fun _ _ _ _ q => by
 unfold tP at q
 split at q
 · split at q
   · exact ⟨_,_,_,_,rfl,rfl,by assumption,q⟩
   · exact q.elim
 · exact q.elim
def kS:List V → Option (List Bool)
 | [] => some []
 | .bl z :: r => (kS r).map (z :: ·)
 | _ => none
theorem yT (ys:List Bool):kS (ys.map V.bl) = some ys:=by
 induction ys with
 | nil => rfl
 | cons y r ih => rw [Ap,kS,ih]; rfl
theorem rB:∀ {xs:List V} {ys:List Bool},kS xs = some ys → xs = ys.map V.bl
 | [],_,h => by cases h; rfl
 | .bl z :: r,_,h => by
   rw [kS] at h
   cases e:kS r with
   | none => rw [e] at h; cases h
   | some l => rw [e] at h; cases h; rw [rB e]; rfl
 | .non :: _,_,h => by cases h
 | .str _ :: _,_,h => by cases h
 | .int _ :: _,_,h => by cases h
 | .byt _ :: _,_,h => by cases h
 | .flt _ :: _,_,h => by cases h
 | .ref _ :: _,_,h => by cases h
 | .ty _ :: _,_,h => by cases h
def bZP:List V → Hp → VK → Prop:=fun vs H Q => match vs with
 | [.ref p] => (match rdL H p with
   | some xs => (match kS xs with | some bs => Q (.bl (bs.all _root_.id)) H | none => False)
   | none => False)
 | _ => False
theorem dX8 (hc:X.calm = true):CallR X (.builtin "all") bZP:=(qE hc).imp fun _ _ _ q => by
 unfold bZP at q
 split at q
 · split at q
   · split at q
     · have e:=rB (by assumption)
       subst e
       exact ⟨_,_,rfl,aW (by assumption),q⟩
     · exact q.elim
   · exact q.elim
 · exact q.elim
end
end L2
namespace L2
open PySem PySem.Spec PyProof.Rows
def vS (R:Str → Hp → Prop):VK:=fun x H => match x with | .str z => R z H | _ => False
theorem bQP {R:Str → Hp → Prop} {x:V} {H:Hp} (q:vS R x H):∃ z,x = .str z ∧ R z H:=by
 unfold vS at q
 split at q
 · exact ⟨_,rfl,q⟩
 · exact q.elim
def onL (o:Option (List V)) (P:Prop):Prop:=match o with | some _ => P | none => False
def gB (R:Addr → Hp → Prop):VK:=fun x H => match x with | .ref a => R a H | _ => False
theorem bQN {R:Addr → Hp → Prop} {x:V} {H:Hp} (q:gB R x H):∃ a,x = .ref a ∧ R a H:=by
 unfold gB at q
 split at q
 · exact ⟨_,rfl,q⟩
 · exact q.elim
section
variable {X:Cx} {tg l a b:Expr} {tl ta tb:TE} {p pos:Pos}
def dQ2 (tl:TE):TI:=fun σ H R => tl σ H (vS fun z H1 => R (Its z) H1)
theorem zF (hl:PE X l tl):PI X tg l (dQ2 tl):=by
 intro pins s σ H R I h
 refine thn (hl pins s σ H _ I h) fun v s1 ⟨x,H1,I1,r1,q1⟩ => ?_
 obtain ⟨z,rfl,q⟩:=bQP q1
 obtain ⟨t,rfl⟩:=r1
 have fb:∀ b ∈ [s1.heap.objs.size],kD X pins H1 b:=fun b hb => by
   have e:b = s1.heap.objs.size:=by simpa using hb
   subst e
   exact I1.fpOk (Ah _) (I1.hok.fresh (Ah _))
 cases ha:z.cps.all (· < 128)
 · refine wpAny_pyIter_wide ha ?_
   exact ⟨s1.heap.objs.size,[s1.heap.objs.size],_,_,H1,rfl,I1.kept (t':=s1.toks) fun b o e => Af _ e,aXG z t _,⟨_,Ax _ rfl,rfl,rfl⟩,fb,q⟩
 · refine wpAny_pyIter_ascii ha ?_
   exact ⟨s1.heap.objs.size,[s1.heap.objs.size],_,_,H1,rfl,I1.kept (t':=s1.toks) fun b o e => Af _ e,yK z t _,⟨_,Ax _ rfl,rfl,rfl⟩,fb,q⟩
def cQP (K:PySem.W.Frag) (tl:TE):TI:=fun σ H R => tl σ H (gB fun a H1 => onL (rdL H1 a) (R (Itl K a) H1))
theorem cB (hl:PE X l tl):PI X tg l (cQP X.K tl):=by
 intro pins s σ H R I h
 refine thn (hl pins s σ H _ I h) fun v s1 ⟨x,H1,I1,r1,q1⟩ => ?_
 obtain ⟨a,rfl,q⟩:=bQN q1
 cases r1
 unfold onL at q
 split at q
 · rename_i xs e
   obtain ⟨its,rv,p,hz⟩:=I1.list (aW e)
   refine Fe p.isList ?_
   refine ⟨s1.heap.objs.size,[s1.heap.objs.size],_,_,H1,rfl,I1.kept (t':=s1.toks) fun b o e => Af _ e,aZJ a _,⟨_,Ax _ rfl,rfl,rfl⟩,fun b hb => ?_,q⟩
   have e:b = s1.heap.objs.size:=by simpa using hb
   subst e
   exact I1.fpOk (Ah _) (I1.hok.fresh (Ah _))
 · exact q.elim
def yR (R:Int → Hp → Prop):List V → Hp → Prop:=fun vs H => match vs with | [.int j] => R j H | _ => False
theorem aQF {R:Int → Hp → Prop} {vs:List V} {H:Hp} (q:yR R vs H):∃ j,vs = [.int j] ∧ R j H:=by
 unfold yR at q
 split at q
 · exact ⟨_,rfl,q⟩
 · exact q.elim
def aJV (R:Int → Int → Hp → Prop):List V → Hp → Prop:=fun vs H => match vs with | [.int i,.int j] => R i j H | _ => False
theorem bJE {R:Int → Int → Hp → Prop} {vs:List V} {H:Hp} (q:aJV R vs H):∃ i j,vs = [.int i,.int j] ∧ R i j H:=by
 unfold aJV at q
 split at q
 · exact ⟨_,_,rfl,q⟩
 · exact q.elim
def cXF (ta:TA):TI:=fun σ H R => ta σ H (yR fun j H1 => (-(2 ^ 62) ≤ j ∧ j < 2 ^ 62) ∧ R (Itr 0 j.toNat) H1)
def cXA (ta:TA):TI:=fun σ H R => ta σ H (aJV fun i j H1 => (-(2 ^ 62) ≤ i ∧ i < 2 ^ 62 ∧ -(2 ^ 62) ≤ j ∧ j < 2 ^ 62) ∧ R (Itr i (j - i).toNat) H1)
theorem fN {ta:TA} (hg:Gl X "range") (hm:X.mg "range" = none) (ha:PA X [a] ta) (hs:starEach [a] X.env = [(false,eval a X.env)]:=by rfl):PI X tg (.Call (.Name "range" p) [a] [] pos) (cXF ta):=by
 intro pins s σ H R I h
 refine Call_ (lC I hg hm boot_range (Dj (thn (ha pos pins s σ H _ I h) fun us s1 ⟨vs,H1,I1,r1,q1⟩ => ?_) hs rfl))
 obtain ⟨j,e,⟨b1,b2⟩,q⟩:=aQF q1
 subst e
 cases r1 with
 | cons r rr =>
   cases rr
   obtain ⟨t,rfl⟩:=r
   exact call_range_1 (vB I1 (by omega) (by omega) b1 b2 (by simpa using q))
theorem sG {ta:TA} (hg:Gl X "range") (hm:X.mg "range" = none) (ha:PA X [a,b] ta) (hs:starEach [a,b] X.env = [(false,eval a X.env),(false,eval b X.env)]:=by rfl) (hs2:starEach [b] X.env = [(false,eval b X.env)]:=by rfl) :
   PI X tg (.Call (.Name "range" p) [a,b] [] pos) (cXA ta):=by
 intro pins s σ H R I h
 refine Call_ (lC I hg hm boot_range (Dj (thn (ha pos pins s σ H _ I h) fun us s1 ⟨vs,H1,I1,r1,q1⟩ => ?_) (by rw [hs,hs2]) (by rw [hs2]; rfl)))
 obtain ⟨i,j,e,⟨b1,b2,b3,b4⟩,q⟩:=bJE q1
 subst e
 cases r1 with
 | cons r rr =>
   cases rr with
   | cons r' rr =>
     cases rr
     obtain ⟨t,rfl⟩:=r
     obtain ⟨t',rfl⟩:=r'
     exact call_range_2 (vB I1 b1 b2 b3 b4 q)
def qF (J:It) (g:TG) (tb:TS) (D:Ends) (σ:St) (H1:Hp):Prop:=∃ W:Nat → Nat → St → Hp → Prop,(∃ m,W 0 m σ H1) ∧ ∀ i m σ H,W i m σ H →
 (J.stop i H ∧ D.nx σ H) ∨ (J.go i H ∧ ∃ N:St → Hp → Prop,(∀ σ' H',N σ' H' → ∃ m',m' < m ∧ W (i + 1) m' σ' H') ∧ ∀ x H',J.yld i H x H' → g x σ H' fun σ2 H2 => tb { D with nx:=N,ct:=N,bk:=D.nx } σ2 H2)
def cQ8 (wi:TI) (g:TG) (tb:TS):TS:=fun D σ H => wi σ H fun J H1 => qF J g tb D σ H1
theorem bV {iter:Expr} {body:List Stmt} {wi:TI} {g:TG} {tb:TS} (hp:PassesOwn (model X.prog X.w) X.A X.env X.xe) (hc:X.calm = true) (hi:PI X tg iter wi) (hg:PG X tg g) (hb:PSs X body tb)
   (hs:∀ x,foldedSetIterable iter X.env x = pure x:=by intro _; rfl):PS X (.For tg iter body [] pos) (cQ8 wi g tb):=cJI (wi:=wi) hp hc hi hg hb hs
section
variable {K:PySem.W.Frag} {c:Addr} {xs:List V} {z:Str} {lo:Int} {n:Nat} {g:TG} {tb:TS} {D:Ends} {σ:St} {H:Hp}
theorem dB (Pv:Nat → St → Hp → Prop) (h0:Pv 0 σ H) (hl:∀ i σ H,i ≤ xs.length → Pv i σ H → rdL H c = some xs)
   (hs:∀ i x σ H,xs[i]? = some x → Pv i σ H → g x σ H fun σ2 H2 => tb { D with nx:=Pv (i + 1),ct:=Pv (i + 1),bk:=D.nx } σ2 H2) (hd:∀ σ H,Pv xs.length σ H → D.nx σ H):qF (Itl K c) g tb D σ H :=
 aJD Pv h0 (fun i σ H hi p => aW (hl i σ H hi p)) hs hd
theorem cZB (Pv:Nat → St → Hp → Prop) (h0:Pv 0 σ H)
   (hs:∀ i c σ H,z.cps.toList[i]? = some c → Pv i σ H → g (.str ⟨#[c]⟩) σ H fun σ2 H2 => tb { D with nx:=Pv (i + 1),ct:=Pv (i + 1),bk:=D.nx } σ2 H2) (hd:∀ σ H,Pv z.cps.toList.length σ H → D.nx σ H):qF (Its z) g tb D σ H :=
 bZL Pv h0 hs hd
theorem gR (Pv:Nat → St → Hp → Prop) (h0:Pv 0 σ H)
   (hs:∀ i σ H,i < n → Pv i σ H → g (.int (lo + i)) σ H fun σ2 H2 => tb { D with nx:=Pv (i + 1),ct:=Pv (i + 1),bk:=D.nx } σ2 H2) (hd:∀ σ H,Pv n σ H → D.nx σ H):qF (Itr lo n) g tb D σ H :=
 aXS Pv h0 hs hd
end
end
end L2
set_option maxHeartbeats 4000000
namespace L2
open PySem PySem.Spec PyProof.Rows
section
variable {K:PySem.W.Frag} {σ:St} {H:Hp} {Q:VK} {QB:Bool → Hp → Prop} {QA:List V → Hp → Prop} {QO:Option Int → Hp → Prop} {D:Ends} {t u:TS} {te ta tb tc:TE} {tt tu:TT} {tA:TA} {r r':R2} {x y v:V} {i j:Int} {z z':Str} {p q:Addr} {xs ys vs:List V} {k n:Nat}
theorem aZ3 (h:t { D with nx:=u D } σ H):cJQ t u D σ H:=h
theorem cX1 (h:D.nx σ H):cQW D σ H:=h
theorem dZ1 {c:TT} (h:c σ H fun b H1 => if b = true then t D σ H1 else u D σ H1):dXE c t u D σ H:=h
theorem dQG (h:te σ H D.rt):dZJ te D σ H:=h
theorem cJH (h:te σ H fun _ H1 => D.nx σ H1):cQT te D σ H:=h
theorem dX7 {g:TG} (h:te σ H fun x H1 => g x σ H1 D.nx):bZW te g D σ H:=h
theorem dQ3 {wi:TI} {g:TG} {tb:TS} (h:wi σ H fun J H1 => qF J g tb D σ H1):cQ8 wi g tb D σ H:=h
theorem uH {QS:St → Hp → Prop} (h:QS (σ.set k (some v)) H):pS k v σ H QS:=h
theorem cZV {QS:St → Hp → Prop} {to ti:TE} {ts:bZY} (h:to σ H fun o H1 => ti σ H1 fun i H2 => ts o i v H2 fun H3 => QS σ H3):dX4 to ti ts v σ H QS:=h
theorem dXN (e:σ[k]? = some (some v)) (h:Q v H):cQD k σ H Q:=by unfold cQD; rw [e]; exact h
theorem s_c (h:Q v H):tC v σ H Q:=h
theorem dZN (h:ta σ H fun x H1 => tb σ H1 fun y H2 => r x y H2 Q):tOp r ta tb σ H Q:=h
theorem dZZ {ru:V → Hp → VK → Prop} (h:ta σ H fun x H1 => ru x H1 Q):tUn ru ta σ H Q:=h
theorem dXB (h:QA [] H):vC σ H QA:=h
theorem cXL {tr:TA} (h:ta σ H fun x H1 => tr σ H1 fun xs H2 => QA (x :: xs) H2):zJ ta tr σ H QA:=h
theorem dQS (h:tA σ H fun xs H1 => xs.length ≤ sizeLine ∧ ∀ p,H1 p = none → Q (.ref p) (upd H1 p (.lst xs))):aJY tA σ H Q:=h
theorem dQT (h:tA σ H fun xs H1 => xs.length ≤ sizeLine ∧ ∀ p,H1 p = none → Q (.ref p) (upd H1 p (.tup xs))):dQY tA σ H Q:=h
theorem cXZ {sp:Sp} {E:XK} (h:tA σ H fun vs H1 => sp (vs ++ []) H1 Q E):aQN sp [] E tA σ H Q:=h
theorem dZX {rc:List V → Hp → VK → Prop} (h:tA σ H fun vs H1 => rc vs H1 Q):tCB rc tA σ H Q:=h
theorem dZT {rs:V → Option Int → Option Int → Hp → VK → Prop} {tl th:TO} (h:te σ H fun x H1 => tl σ H1 fun l H2 => th σ H2 fun u H3 => rs x l u H3 Q):tSl rs te tl th σ H Q:=h
theorem bQA (h:QO none H):aQP σ H QO:=h
theorem cJ1 (h:te σ H (tQ QO)):cQO te σ H QO:=h
theorem bXD (h:QO (some i) H):tQ QO (.int i) H:=h
theorem cXK {T:String} {rm:V → List V → Hp → VK → Prop} {to:TE} (h:to σ H fun x H1 => yJ T x H1 (tA σ H1 fun xs H2 => rm x xs H2 Q)):cQQ T rm to tA σ H Q:=h
theorem dQZ {P:Prop} (h:P):yJ "str" (.str z) H P:=⟨rfl,h⟩
theorem dZB {P:Prop} (e:rdL H p = some xs) (h:P):yJ "list" (.ref p) H P:=by unfold yJ; simp only [e]; exact ⟨trivial,h⟩
theorem cJA (h:te σ H (mB QB)):cQ6 te σ H QB:=h
theorem bZI (h:te σ H (bQW QB)):bXV te σ H QB:=h
theorem dZ0 {b:Bool} (h:QB b H):mB QB (.bl b) H:=h
theorem cZS {b:Bool} (h:QB b H):bQW QB (.bl b) H:=h
theorem dZD (h:tt σ H fun c H1 => if c = true then tu σ H1 QB else QB false H1):dX2 tt tu σ H QB:=h
theorem dZ8 (h:tt σ H fun c H1 => if c = true then QB true H1 else tu σ H1 QB):tOr tt tu σ H QB:=h
theorem dQC (h:tt σ H fun c H1 => QB (!c) H1):dQ7 tt σ H QB:=h
theorem cZ8 (h:ta σ H (mB fun c H1 => if c = true then tb σ H1 Q else Q (.bl false) H1)):cQR ta tb σ H Q:=h
theorem dZE (h:tt σ H fun c H1 => if c = true then ta σ H1 Q else tb σ H1 Q):tIf tt ta tb σ H Q:=h
theorem dZW {g:Int → Int → V} (h:Q (g i j) H):mI g (.int i) (.int j) H Q:=h
theorem dQ5 {C:Int → Int → Prop} {g:Int → Int → V} (c:C i j) (h:Q (g i j) H):mIC C g (.int i) (.int j) H Q:=⟨c,h⟩
theorem cX6 (h:Q (.int (i + j)) H):aXD (.int i) (.int j) H Q:=h
theorem cX0 (c:z.length + z'.length ≤ sizeLine) (h:Q (.str (z ++ z')) H):aXD (.str z) (.str z') H Q:=⟨c,h⟩
theorem lF (e:hZ H p = some xs) (e':hZ H q = some ys) (c:xs.length + ys.length ≤ sizeLine) (h:∀ r,H r = none → Q (.ref r) (upd H r (.lst (xs ++ ys)))):aXD (.ref p) (.ref q) H Q:=by
 unfold aXD; simp only [e,e']; exact ⟨c,h⟩
theorem dQW (h:Q (.bl (decide (i = j))) H):mEq (.int i) (.int j) H Q:=⟨rfl,by
 rw [show decide (V.int i = V.int j) = decide (i = j) by simp]; exact h⟩
theorem dZI (h:Q (.bl (decide (z = z'))) H):mEq (.str z) (.str z') H Q:=⟨rfl,by
 rw [show decide (V.str z = V.str z') = decide (z = z') by simp]; exact h⟩
theorem dXT (h:Q (.bl (!decide (i = j))) H):mNe (.int i) (.int j) H Q:=⟨rfl,by
 rw [show decide (V.int i = V.int j) = decide (i = j) by simp]; exact h⟩
theorem dZL {b c:Bool} (h:Q (.bl (!decide (b = c))) H):mNe (.bl b) (.bl c) H Q:=⟨rfl,by
 rw [show decide (V.bl b = V.bl c) = decide (b = c) by simp]; exact h⟩
theorem dQB {neg:Bool} (e:rdL H p = some xs) (e':rdL H q = some ys) (f:xs.all bW = true) (f':ys.all bW = true) (h:Q (.bl (if neg then !mO xs ys else mO xs ys)) H):bQV neg (.ref p) (.ref q) H Q:=by
 unfold bQV; simp only [e,e']; exact ⟨f,f',h⟩
theorem dZH (h:Q (.bl (decide (x = .non))) H):cZE x .non H Q:=h
theorem cJF (h:Q (.bl (!decide (x = .non))) H):bQ7 x .non H Q:=h
theorem dQ8 {neg:Bool} (h:Q (.bl (if neg then !subIn z z' else subIn z z')) H):cXT neg (.str z) (.str z') H Q:=h
theorem cQ7 {neg:Bool} (e:rdL H p = some xs) (f:bW x = true) (f':xs.all bW = true) (h:Q (.bl (if neg then !inV x xs else inV x xs)) H):bXA neg x (.ref p) H Q:=by
 unfold bXA; simp only [e]; exact ⟨f,f',h⟩
theorem iZ {c:Nat} (l:z.length ≤ sizeLine) (e:atI z.cps.toList i = some c) (h:Q (.str ⟨#[c]⟩) H):mIx (.str z) (.int i) H Q:=by
 unfold mIx; simp only [e]; exact ⟨l,h⟩
theorem eC (e:rdL H p = some xs) (e':atI xs i = some v) (h:Q v H):mIx (.ref p) (.int i) H Q:=by
 unfold mIx; simp only [e,e']; exact h
theorem dZK {lo hi:Option Int} (e:rdL H p = some xs) (h:∀ r,H r = none → Q (.ref r) (upd H r (.lst (mR xs lo hi)))):mSl (.ref p) lo hi H Q:=by
 unfold mSl; simp only [e]; exact h
theorem cZP (l:z.length ≤ sizeLine) (h:Q (.int z.length) H):bQH [.str z] H Q:=⟨l,h⟩
theorem cXO (e:rdL H p = some xs) (h:Q (.int xs.length) H):bQH [.ref p] H Q:=by unfold bQH; simp only [e]; exact h
theorem dXF (h:Q (.int (if j < i then j else i)) H):cZ0 [.int i,.int j] H Q:=h
theorem uG (e:PySem.intText? z = some i) (l:z.length ≤ 640) (h:Q (.int i) H):bJ1 [.str z] H Q:=by unfold bJ1; simp only [e]; exact ⟨l,h⟩
theorem cX5 (e:rdL H p = some xs) (h:∀ l,H l = none → Q (.ref l) (upd H l (.lst xs))):aQQ [.ref p] H Q:=by unfold aQQ; simp only [e]; exact h
theorem dQN (e:hZ H p = some xs) (l:xs.length < sizeLine) (h:Q .non (upd H p (.lst (xs ++ [v])))):bJS (.ref p) [v] H Q:=by unfold bJS; simp only [e]; exact ⟨l,h⟩
theorem cQJ {rest:List Nat} (e:Builtin.Str.occurrences z z' 0 z.length 1 = k :: rest) (h:Q (.int ((k:Nat):Int)) H):tP (.str z) [.str z'] H Q:=by unfold tP; simp only [e]; exact h
theorem dQV {bs:List Bool} (e:rdL H p = some (bs.map V.bl)) (h:Q (.bl (bs.all id)) H):bZP [.ref p] H Q:=by
 unfold bZP; simp only [e,yT]; exact h
theorem bZH {tl:TE} {R:It → Hp → Prop} (h:tl σ H (gB fun a H1 => onL (rdL H1 a) (R (Itl K a) H1))):cQP K tl σ H R:=h
theorem bJX {R:Addr → Hp → Prop} (h:R p H):gB R (.ref p) H:=h
theorem dQH {P:Prop} (e:rdL H p = some xs) (h:P):onL (rdL H p) P:=by unfold onL; simp only [e]; exact h
theorem cZO {tl:TE} {R:It → Hp → Prop} (h:tl σ H (vS fun z H1 => R (Its z) H1)):dQ2 tl σ H R:=h
theorem bJM {R:Str → Hp → Prop} (h:R z H):vS R (.str z) H:=h
theorem bZ9 {R:It → Hp → Prop} (h:tA σ H (yR fun j H1 => (-(2 ^ 62) ≤ j ∧ j < 2 ^ 62) ∧ R (Itr 0 j.toNat) H1)):cXF tA σ H R:=h
theorem bJ9 {R:It → Hp → Prop} (h:tA σ H (aJV fun i j H1 => (-(2 ^ 62) ≤ i ∧ i < 2 ^ 62 ∧ -(2 ^ 62) ≤ j ∧ j < 2 ^ 62) ∧ R (Itr i (j - i).toNat) H1)):cXA tA σ H R:=h
theorem cZC {R:Int → Hp → Prop} (h:R i H):yR R [.int i] H:=h
theorem cXX {R:Int → Int → Hp → Prop} (h:R i j H):aJV R [.int i,.int j] H:=h
theorem aQ4 {o:V} {QH:Hp → Prop} (e:hZ H p = some xs) (e':ixN xs.length i = some k) (h:QH (upd H p (.lst (xs.set k v)))):cXE (.ref p) (.int i) v H QH:=⟨_,_,_,_,rfl,rfl,jR e,e',h⟩
end
theorem bQ8 {α:Type} {xs:List α} {i:Int} (h0:0 ≤ i) (h1:i < xs.length):∃ v,atI xs i = some v ∧ xs[i.toNat]? = some v:=by
 have hk:i.toNat < xs.length:=by omega
 have e:i = ((i.toNat:Nat):Int):=by omega
 have q:atI xs ((i.toNat:Nat):Int) = some xs[i.toNat]:=eK (Aa hk)
 rw [← e] at q
 exact ⟨xs[i.toNat],q,Aa hk⟩
theorem sW {n:Nat} {i:Int} (h0:0 ≤ i) (h1:i < n):ixN n i = some i.toNat:=by
 unfold ixN
 rw [if_pos h0,if_pos h1]
theorem bI {n:Nat} (h:n ≤ 100000):n ≤ sizeLine:=Bb h (by decide)
theorem bD {n:Nat} (h:n ≤ 100000):n < sizeLine:=Nat.lt_of_le_of_lt h (by decide)
end L2
namespace L2
open PySem PySem.Spec PyProof.Rows
def Cal (P:Program) (w:World) (K:PySem.W.Frag) (mg:Str → Option Value) (base:Heap) (k:Nat) (x:Str) (ps:List Str) (sp:Sp):Prop :=
 ∃ (f:Addr) (fd:FuncData),FnOk P w K mg base CX0 k f fd ps sp ∧ mg x = some (.ref f) ∧ PySem.W.keepIn K (.ref f) = true ∧ Binds K fd ps []
section
variable {X:Cx} {k k':Nat} {ps:List Str} {sp:Sp} {x:Str} {p pos:Pos} {e:Expr} {es:List Expr} {t:TA} {K:PySem.W.Frag} {H:Hp} {Q:VK} {xs:List V} {v:V} {i:Int} {a:Addr}
theorem aU (c:Cal X.prog X.w X.K X.mg X.base k x ps sp) (hr:Room k' X.A) (hk:k ≤ k') (hg:Gl X x)
   (ha:PA X (e :: es) t) (hdb:(x == ("__debug__" : Str)) = false:=by decide) (he:starEach (e :: es) X.env = (false,eval e X.env) :: starEach es X.env:=by rfl) (hpl:(backTo pos (starEach es X.env)).any (·.1) = false:=by rfl) :
   PE X (.Call (.Name x p) (e :: es) [] pos) (aQN sp [] E0 t):=by
 obtain ⟨f,fd,F,hm,hk',hb⟩:=c
 exact aQM F (hr.mono hk) hg hm hk' hb .nil dQ9 ha hdb he hpl
theorem jV {z:Str} (hg:Gl X x) (h:∃ t,X.mg x = some (.str z t)) (hd:(x == ("__debug__" : Str)) = false:=by decide):PE X (.Name x pos) (tC (.str z)):=by
 obtain ⟨t,h⟩:=h
 exact aQK hg h ⟨t,rfl⟩ hd
theorem cQG {z:Int} (hg:Gl X x) (h:∃ t,X.mg x = some (.int z t)) (hd:(x == ("__debug__" : Str)) = false:=by decide):PE X (.Name x pos) (tC (.int z)):=by
 obtain ⟨t,h⟩:=h
 exact aQK hg h ⟨t,rfl⟩ hd
theorem cJ9 {lo hi:Option Int} (e:SqL K H a xs) (h:∀ r,H r = none → Q (.ref r) (upd H r (.lst (mR xs lo hi)))):dXI K (.ref a) lo hi H Q:=⟨a,xs,rfl,e,h⟩
theorem cJ6 (e:SqL K H a xs) (e':atI xs i = some v) (h:Q v H):cJX K (.ref a) (.int i) H Q:=⟨a,xs,i,v,rfl,rfl,e,e',h⟩
end
end L2
namespace L2
open PySem PySem.Spec PyProof.Rows
theorem cQ:bootBuiltins "len" = some (.builtin "len"):=by decide +kernel
theorem cXV:bootBuiltins "min" = some (.builtin "min"):=by decide +kernel
theorem cJK:bootBuiltins "all" = some (.builtin "all"):=by decide +kernel
theorem cZK:bootBuiltins "sum" = some (.builtin "sum"):=by decide +kernel
theorem uL:bootBuiltins "int" = some (.type "int"):=by decide +kernel
theorem hX:bootBuiltins "list" = some (.type "list"):=by decide +kernel
theorem bJC:bootBuiltins "dict" = some (.type "dict"):=by decide +kernel
theorem pM:bootBuiltins "range" = some (.type "range"):=by decide +kernel
end L2
namespace L2
theorem dQJ {A B:Prop} (h:B):if (!true) = true then A else B:=h
theorem dQD {A B:Prop} (h:A):if (!false) = true then A else B:=h
end L2
namespace L2
open PySem PySem.Spec PyProof.Rows
theorem cJO {X:Cx} {x:Str} {j:Nat} {pos:Pos} {es:List Expr} {t:TA} (h:PA X es t):PA X (.Constant (.str x) j pos :: es) (zJ (tC (.str x)) t):=aA bM h rfl
end L2
set_option maxHeartbeats 4000000
namespace L2
open PySem PySem.Spec PyProof.Rows
theorem yI {prog:Program} {w:World} {A:Around} {R:Result → Shared → Prop} {s:Shared} {elt target iter:Expr} {ifs:List Expr} {scope:Scope} {pos:Pos} {it acc:Value} {env:Env} (I:Nat → Shared → Prop)
   (turn:∀ n s,I n s → wpAny (model prog w) A (pyNext it) (fun r s₁ => match r with
     | none => R (.ok .next) s₁
     | some v => wpAny (model prog w) A (letOwnedTupleGo target it v) (fun _ s₁' => wpAny (model prog w) A (assign target env v) (fun _ s₂ =>
         wpAny (model prog w) A (forIn ifs true fun c r => if r = true then do let ok ← isTrue c env (eval c env); pure (ForInStep.yield ok) else pure (ForInStep.yield r)) (fun ok s₃ =>
           if ok = true then wpAny (model prog w) A (eval elt env) (fun x s₄ =>
             wpAny (model prog w) A (call (.builtin "list.append") [acc,x]) (fun _ s₅ => ∃ m,m < n ∧ I m s₅) (fun _ _ => False) s₄) (fun _ _ => False) s₃
           else ∃ m,m < n ∧ I m s₃) (fun _ _ => False) s₂) (fun _ _ => False) s₁') (fun _ _ => False) s₁) (fun _ _ => False) s)
   (n:Nat) (h:I n s) :
   codeAny (model prog w) A (.compLoop (.ListComp elt [⟨target,iter,ifs,0⟩] scope pos) 0 it acc env) R s:=by
 refine codeAny_loop rfl I (fun n s hI => ?_) n h
 show wpAny _ A ((compTurn (.ListComp elt [⟨target,iter,ifs,0⟩] scope pos) 0 it acc env).onRaise (fun x => do noteFrame x env; theTreesLotGoes x)) _ _ s
 refine wpAny_noted ?_
 rw [compTurn_list]
 refine Ae (Fb (Ae (Cf (turn n s hI) (fun r s₁ h₁ => ?_) fun _ _ h' => h'.elim)))
 cases r with
 | none => exact Am h₁
 | some v =>
   refine Ae (Cf h₁ (fun _ s₁' h₁' => ?_) fun _ _ h' => h'.elim)
   refine Ae (Cf h₁' (fun _ s₂ h₂ => Ae (Cf h₂ (fun ok s₃ h₃ => ?_) fun _ _ h' => h'.elim)) fun _ _ h' => h'.elim)
   cases ok with
   | false => exact Am ⟨rfl,h₃⟩
   | true =>
     exact Ae (Ae (Cf h₃ (fun x s₄ h₄ => Ae (Cf h₄ (fun _ s₅ h₅ => Am (Am ⟨rfl,h₅⟩)) fun _ _ h' => h'.elim)) fun _ _ h' => h'.elim))
def cxC (X:Cx) (N:List Str) (scope:Scope) (cl:List (Str × Addr)) (C:Addr) (s₀:Shared) (H₀:Hp) (ex:List Addr):Cx :=
 { prog:=X.prog,w:=X.w,K:=X.K,mg:=X.mg,base:=X.base,A:=X.A,N:=N,s₀:=s₀,H₀:=H₀,env:=compEnvC scope cl C X.env,outer:=X.stack,stack:=X.stack,ex:=ex,fn:=fun _ => false,calm:=X.calm,pn:=[],xe:=fun _ _ => False }
structure ClOk (X:Cx) (N:List Str) (scope:Scope) (cl:List (Str × Addr)) (vals:St → St):Prop where
 clos:closureFor scope X.env = pure cl
 sub:∀ x c,cl.lookup x = some c → X.env.cells.lookup x = some c
 has:∀ x,((relabel scope X.env).names.lookup x = some .cell ∨ (relabel scope X.env).names.lookup x = some .free) → ∃ c,cl.lookup x = some c
 len:∀ σ,(vals σ).length = N.length
 val:∀ σ (i:Nat) x v,N[i]? = some x → (vals σ)[i]? = some (some v) → ∃ (j:Nat),X.N[j]? = some x ∧ σ[j]? = some (some v) ∧ X.env.scope.names.lookup x = some .cell ∧ (∃ c,cl.lookup x = some c) ∧ (relabel scope X.env).names.lookup x = some .cell
def PF (X:Cx) (ifs:List Expr) (t:TT):Prop:=∀ (pins:List (Addr × Obj)) (s:Shared) (σ:St) (H:Hp) (Q:Bool → Hp → Prop),Inv X pins σ H s → t σ H Q →
 wpAny (model X.prog X.w) X.A (forIn ifs true fun c r => if r = true then do let ok ← isTrue c X.env (eval c X.env); pure (ForInStep.yield ok) else pure (ForInStep.yield r)) (TP X pins σ Q) X.xe s
def dQK:TT:=fun _ H Q => Q true H
theorem jA {X:Cx}:PF X [] dQK:=fun pins s σ H Q I q => wpAny_tests_nil ⟨H,I,q⟩
theorem kO {X:Cx} {c:Expr} {t:TT} (h:PT X c t):PF X [c] t:=fun pins s σ H Q I q => wpAny_tests_one (h pins s σ H Q I q)
section
variable {X:Cx} {pins:List (Addr × Obj)} {σ:St} {H2:Hp} {s2:Shared} {N:List Str} {scope:Scope} {cl:List (Str × Addr)} {vals:St → St} {C:Addr} {fp:List Addr}
theorem yP {h1:Heap} {t1:Nat} (I:Inv X pins σ H2 s2) (ck:ClOk X N scope cl vals) (hkind:scope.kind = .function) (hf:∀ b ∈ fp,kD X pins H2 b) (hlt:∀ b ∈ fp,b < s2.heap.objs.size)
   (hns:h1.Ns s2.heap.objs.size fun _ => none) (hsb:Heap.SameBut s2.heap.objs.size (s2.heap.push { cls:=.type "dict",data:=.dict #[] }) h1) :
   Inv (cxC X N scope cl s2.heap.objs.size s2 H2 fp) [] (vals σ) H2 { s2 with heap:=h1,toks:=t1 }:=by
 have old:∀ b o,s2.heap.get? b = some o → h1.get? b = some o:=fun b o e => (hsb.2 b (Bj (Aq e))).trans (Af _ e)
 have hC:H2 s2.heap.objs.size = none:=I.hok.fresh (Ah _)
 refine ⟨⟨I.ok.mod,hkind,I.ok.glob,I.ok.blt,Ah _,fun x y c h1 h2 => I.ok.inj x y c (ck.sub x c h1) (ck.sub y c h2),ck.has,(fun x c h => nomatch h),I.ok.hd,I.ok.frames,.inl rfl,fun b hb => ⟨Bj (hlt b hb),fun x c e => (hf b hb).2.2.2.2.1 x c (ck.sub x c e)⟩,
   I.bs,Nat.le_trans I.ok.bsz I.sz,fun b o e hb => ?_,fun b hb hs => ?_,I.stack,I.stkFree⟩,rfl,I.bare,Un.kept old,⟨_,hns,fun i x v e1 e2 _ => ?_⟩,fun x c e => ?_,hC,fun x c e => I.freeC x c (ck.sub x c e),fun p hp => absurd (show p ∈ ([]:List (Addr × Obj)) from hp) (by simp),I.hok.kept old,ck.len σ⟩
 · rcases (hf b hb).2.2.2.1 with z | z
   · exact I.ok.noex b o e z
   · exact absurd (Bd (Aq e) (Bb I.ok.bsz z)) (Dk _)
 · rcases Ba.mp (I.stkSub b hs) with z | z
   · exact (hf b hb).2.1 z
   · exact (hf b hb).2.2.1 z
 · obtain ⟨j,h1,h2,h3,⟨c,h4⟩,h5⟩:=ck.val σ i x v e1 e2
   obtain ⟨m,hn,hl⟩:=I.loc
   obtain ⟨u,r,l⟩:=hl j x v h1 h2 (.inr (.inl h3))
   refine ⟨u,r,.inr ⟨.inl h5,c,h4,?_⟩⟩
   rcases l with ⟨z,_⟩ | ⟨_,c',e',z⟩
   · have z':X.env.scope.names.lookup x = some .local:=z
     rw [h3] at z'; cases z'
   · rw [ck.sub x c h4] at e'
     cases e'
     obtain ⟨o,ho,hd⟩:=z
     exact ⟨o,old _ o ho,hd⟩
 · obtain ⟨v,o,ho,hd⟩:=I.cell x c (ck.sub x c e)
   exact ⟨v,o,old _ o ho,hd⟩
theorem aZO {σ':St} {H':Hp} {s':Shared} {h'':Heap} {pins':List (Addr × Obj)} (I:Inv X pins σ H2 s2) (hf:∀ b ∈ fp,kD X pins H2 b)
   (I':Inv (cxC X N scope cl s2.heap.objs.size s2 H2 fp) pins' σ' H' s') (hsb:Heap.SameBut s2.heap.objs.size s'.heap h''):Inv X pins σ H' { s' with heap:=h'' }:=by
 have u1:Un (frs X.stack) (s2.heap.objs.size :: fp) H2 H' s2.heap s'.heap:=I'.base.mono (fun _ z => z) fun b z => Ao _ z
 have hC:H' s2.heap.objs.size = none:=I'.free
 have k:∀ b o,b ≠ s2.heap.objs.size → s'.heap.get? b = some o → h''.get? b = some o:=fun b o hb e => (hsb.2 b hb).trans e
 have u2:Un (frs X.stack) (s2.heap.objs.size :: fp) H' H' s'.heap h'':=⟨fun b o e _ _ hx => k b o (fun z => hx (by simp [z])) e,fun b o e _ _ hx => ⟨o.slots,k b o (fun z => hx (by simp [z])) e⟩,fun _ _ _ n _ => n,
   fun b o e hx => ⟨o,k b o (fun z => hx (by simp [z])) e⟩,fun _ _ e => e,fun _ _ _ e => e,fun b ps e => ⟨#[],by rw [e]; simp⟩⟩
 have hok:HOk X.prog X.w H' h'':=fun b u e => by
   have nC:∀ c v,H' c = some v → c ≠ s2.heap.objs.size:=fun c v e z => by rw [z,hC] at e; cases e
   refine (I'.hok b u e).stay (fun c v hc q => k c v ?_ q) (fun _ q => q) fun _ _ q => q
   rcases hc with z | z
   · rw [z]; exact nC b u e
   · exact nC c _ z
 refine I.call' (s':={ s' with heap:=h'' }) (ch:=s2.heap.objs.size :: fp) I'.os (u1.trans u2) hok I'.bare fun b hb => ?_
 have q:kD X pins H2 b:=by
   rcases Ba.mp hb with z | z
   · subst z; exact I.fpOk (Ah _) (I.hok.fresh (Ah _))
   · exact hf b z
 exact ⟨q.2.2.2.1,q.2.1,q.2.2.2.2.1,q.2.2.2.2.2⟩
end
def Wk (σ0 σ:St):Prop:=σ0.length = σ.length ∧ ∀ (i:Nat) v,σ0[i]? = some (some v) → σ[i]? = some (some v)
theorem Wk.refl (σ:St):Wk σ σ:=⟨rfl,fun _ _ h => h⟩
theorem Wk.set {σ0 σ:St} {k:Nat} {v:V} (h:σ0[k]? = some none) (w:Wk σ0 σ):Wk σ0 (σ.set k (some v)):=by
 refine ⟨by rw [Cg]; exact w.1,fun i u e => ?_⟩
 have ne:k ≠ i:=fun z => by subst z; rw [h] at e; cases e
 rw [Cs ne]
 exact w.2 i u e
def eT (g:TG) (tests:TT) (te:TE) (σ0:St) (Q:VK) (J:It) (H1:Hp):Prop:=∀ D,H1 D = none → ∃ W:Nat → Nat → Hp → Prop,(∃ m,W 0 m (upd H1 D (.lst []))) ∧ ∀ i m Hc,W i m Hc →
 (J.stop i Hc ∧ Q (.ref D) Hc) ∨ (J.go i Hc ∧ ∀ x H',J.yld i Hc x H' → g x σ0 H' fun σ2 H2 => Wk σ0 σ2 ∧ tests σ2 H2 fun b H3 => if b = true then
   te σ2 H3 fun y H4 => ∃ zs,H4 D = some (.lst zs) ∧ zs.length < sizeLine ∧ ∃ m',m' < m ∧ W (i + 1) m' (upd H4 D (.lst (zs ++ [y]))) else ∃ m',m' < m ∧ W (i + 1) m' H3)
def bQ5 (wi:TI) (g:TG) (tests:TT) (te:TE) (vals:St → St):TE:=fun σ H Q => wi σ H fun J H1 => eT g tests te (vals σ) Q J H1
theorem vM {X:Cx} {pins:List (Addr × Obj)} {σ:St} {H2:Hp} {s2:Shared} {N:List Str} {scope:Scope} {cl:List (Str × Addr)} {vals:St → St} {fp:List Addr} {it:Addr} {tn:Nat → Heap → Prop} {J:It} {tg elt iter:Expr} {ifs:List Expr} {pos:Pos}
   {g:TG} {tests:TT} {te:TE} {Q:VK} {E:Value → Shared → Prop} {RR:Value → Addr → Result → Shared → Prop} (I2:Inv X pins σ H2 s2) (T:Turn X.prog X.w X.K tg J fp it tn) (st2:tn 0 s2.heap) (f2:∀ b ∈ fp,kD X pins H2 b) (hc:X.calm = true)
   (ck:ClOk X N scope cl vals) (hcell:∀ y ∈ scope.names,y.2 ≠ .cell) (hkind:scope.kind = .function)
   (hg:∀ C s₀ H₀ ex,PG (cxC X N scope cl C s₀ H₀ ex) tg g) (ht:∀ C s₀ H₀ ex,PF (cxC X N scope cl C s₀ H₀ ex) ifs tests) (he:∀ C s₀ H₀ ex,PE (cxC X N scope cl C s₀ H₀ ex) elt te)
   (h:eT g tests te (vals σ) Q J H2)
   (hRR:∀ D C s' H' m,s'.heap.Ns C m → Q (.ref D) H' → (∀ h'',Heap.SameBut C s'.heap h'' → Inv X pins σ H' { s' with heap:=h'' }) → kD X pins H' C → RR (.ref D) C (.ok .next) s') :
   wpAny (model X.prog X.w) X.A (newList []) (fun acc s₃ => wpAny (model X.prog X.w) X.A (newFunctionEnv scope X.env.globals cl [] X.env.qual none .none (some X.env)) (fun cenv s₄ =>
     codeAny (model X.prog X.w) X.A (.compStart (.ListComp elt [⟨tg,iter,ifs,0⟩] scope pos) 0 (.ref it) acc { cenv with scope:=relabel scope X.env }) (RR acc cenv.locals) s₄) E s₃) E s2:=by
 have hD:H2 s2.heap.objs.size = none:=I2.hok.fresh (Ah _)
 obtain ⟨W,⟨m0,w0⟩,turn⟩:=h _ hD
 have hlt:∀ b ∈ fp,b < s2.heap.objs.size:=fun b hb => by
   obtain ⟨o,e,_⟩:=T.obj 0 _ st2 b hb
   exact Aq e
 refine Gc ?_
 -- the list is laid
 have I3:Inv X pins σ (upd H2 s2.heap.objs.size (.lst [])) { s2 with heap:=s2.heap.push { cls:=.type "list",dict:=none,data:=.seq ([]:List Value).toArray } } :=
   I2.lnew (ys:=[]) (its:=[]) (t':=s2.toks) .nil (Ct _)
 have f3:∀ b ∈ fp,kD X pins (upd H2 s2.heap.objs.size (.lst [])) b:=fun b hb => ⟨by rw [aI (Bj (hlt b hb))]; exact (f2 b hb).1,(f2 b hb).2⟩
 have st3:tn 0 (s2.heap.push { cls:=.type "list",dict:=none,data:=.seq ([]:List Value).toArray }):=T.keep _ _ _ st2 fun b _ o e => Af _ e
 generalize hs3:({ s2 with heap:=s2.heap.push { cls:=.type "list",dict:=none,data:=.seq ([]:List Value).toArray } }:Shared) = s3 at I3 ⊢
 have e3:s3.heap = s2.heap.push { cls:=.type "list",dict:=none,data:=.seq ([]:List Value).toArray }:=by rw [← hs3]
 rw [← e3] at st3
 have hlt3:∀ b ∈ fp,b < s3.heap.objs.size:=fun b hb => by
   obtain ⟨o,e,_⟩:=T.obj 0 _ st3 b hb
   exact Aq e
 refine wpAny_newFunctionEnv hcell (by intro y hy; simp at hy) (fun h₁ hns₁ hsb₁ => ?_) hkind
 have hns:h₁.Ns s3.heap.objs.size fun _ => none:=hns₁
 have I4:=yP (t1:=s3.toks) I3 ck hkind f3 hlt3 hns hsb₁
 have old:∀ b o,s3.heap.get? b = some o → h₁.get? b = some o:=fun b o e => (hsb₁.2 b (Bj (Aq e))).trans (Af _ e)
 have st4:tn 0 h₁:=T.keep _ _ _ st3 fun b _ o e => old b o e
 have loop:∀ s₄:Shared,s₄ = { s3 with heap:=h₁,toks:=s3.toks } →
     codeAny (model X.prog X.w) X.A (.compLoop (.ListComp elt [⟨tg,iter,ifs,0⟩] scope pos) 0 (.ref it) (.ref s2.heap.objs.size) (compEnvC scope cl s3.heap.objs.size X.env))
       (RR (.ref s2.heap.objs.size) s3.heap.objs.size) s₄:=by
   rintro s₄ rfl
   have fpX:∀ {H':Hp},(∀ b ∈ fp,H' b = none) → ∀ b ∈ fp,kD (cxC X N scope cl s3.heap.objs.size s3 (upd H2 s2.heap.objs.size (.lst [])) fp) [] H' b:=fun hn b hb =>
     ⟨hn b hb,Nat.ne_of_lt (hlt3 b hb),fun hs => I4.ok.exfs b hb hs,.inl hb,fun x c e => (I4.ok.exf b hb).2 x c e,fun p hp => absurd (show p ∈ ([]:List (Addr × Obj)) from hp) (by simp)⟩
   refine yI (fun n s' => ∃ i H',Inv (cxC X N scope cl s3.heap.objs.size s3 (upd H2 s2.heap.objs.size (.lst [])) fp) [] (vals σ) H' s' ∧ tn i s'.heap ∧ (∀ b ∈ fp,H' b = none) ∧ W i n H') ?_ m0
     ⟨0,_,I4,st4,fun b hb => (f3 b hb).1,w0⟩
   rintro n s5 ⟨i,H5,I5,st5,fr5,w5⟩
   rcases turn i n H5 w5 with ⟨stop,q⟩ | ⟨go,step⟩
   · refine thn (T.done (cxC X N scope cl s3.heap.objs.size s3 (upd H2 s2.heap.objs.size (.lst [])) fp) rfl rfl rfl hc i [] s5 (vals σ) H5 (fun _ _ => False) I5 (fpX fr5) st5 stop) fun r s6 ⟨hr,I6⟩ => ?_
     subst hr
     obtain ⟨m,hn,_⟩:=id I6.loc
     exact hRR _ _ s6 H5 m hn q (fun h'' hsb => aZO I3 f3 I6 hsb) (I3.fpOk (Ah _) I6.free)
   · refine thn (T.item (cxC X N scope cl s3.heap.objs.size s3 (upd H2 s2.heap.objs.size (.lst [])) fp) rfl rfl rfl hc i [] s5 (vals σ) H5 (fun _ _ => False) I5 (fpX fr5) st5 go) fun r s6 ⟨u,hr,h6⟩ => ?_
     subst hr
     refine thn h6 fun _ s7 ⟨x,H7,I7,r7,y7,st7,fr7⟩ => ?_
     have I7':=I7.pinned (fpX fr7) (T.obj _ _ st7)
     refine thn (hg _ _ _ _ _ s7 (vals σ) H7 x u _ I7' r7 (step x H7 y7)) fun _ s8 ⟨σ8,H8,I8,wk8,q8⟩ => ?_
     refine thn (ht _ _ _ _ _ s8 σ8 H8 _ I8 q8) fun b s9 ⟨H9,I9,q9⟩ => ?_
     have again:∀ {m':Nat} {s':Shared} {H':Hp},Inv (cxC X N scope cl s3.heap.objs.size s3 (upd H2 s2.heap.objs.size (.lst [])) fp) ([] ++ mK fp s7.heap) σ8 H' s' → m' < n → W (i + 1) m' H' →
         ∃ m,m < n ∧ ∃ i H',Inv (cxC X N scope cl s3.heap.objs.size s3 (upd H2 s2.heap.objs.size (.lst [])) fp) [] (vals σ) H' s' ∧ tn i s'.heap ∧ (∀ b ∈ fp,H' b = none) ∧ W i m H':=fun {m' s' H'} J7 hm w7 => by
       refine ⟨m',hm,i + 1,H',(J7.weak wk8.1 wk8.2).unpinned,T.keep _ _ _ st7 fun b hb o e => (J7.pin (b,o) (Bg _ (Bg _ (iE hb e)))).1,fun b hb => ?_,w7⟩
       obtain ⟨o,e,d⟩:=T.obj _ _ st7 b hb
       exact (J7.pin (b,o) (Bg _ (Bg _ (iE hb e)))).2.1
     cases b with
     | true =>
       rw [if_pos rfl] at q9 ⊢
       refine thn (he _ _ _ _ _ s9 σ8 H9 _ I9 q9) fun v s10 ⟨y,H10,I10,r10,zs,hz,hl,m',hm,w10⟩ => ?_
       have ap:=rK ([] ++ mK fp s7.heap) s10 σ8 H10 (.ref s2.heap.objs.size) [y] (.ref s2.heap.objs.size) [v] (fun _ H' => H' = upd H10 s2.heap.objs.size (.lst (zs ++ [y]))) I10 rfl (.cons r10 .nil) ⟨_,_,_,rfl,rfl,hz,hl,rfl⟩
       refine thn ap fun _ s11 ⟨_,H11,I11,_,e11⟩ => ?_
       subst e11
       exact again I11 hm w10
     | false =>
       rw [if_neg Al] at q9 ⊢
       obtain ⟨m',hm,w9⟩:=q9
       exact again I9 hm w9
 exact codeAny_compStart_list (loop _ rfl) (T.self _ 0 _ _ _ st4 (loop _ rfl))
section
variable {X:Cx} {N:List Str} {scope:Scope} {cl:List (Str × Addr)} {vals:St → St} {tg elt iter:Expr} {ifs:List Expr} {pos spos py:Pos} {wi:TI} {g:TG} {tests:TT} {te:TE}
theorem eP (hc:X.calm = true) (hi:PI X tg iter wi) (ck:ClOk X N scope cl vals) (hcell:∀ y ∈ scope.names,y.2 ≠ .cell) (hkind:scope.kind = .function) (hnames:∀ x ∈ scope.names,x.2 = .local → scope.names.lookup x.1 = some .local)
   (hg:∀ C s₀ H₀ ex,PG (cxC X N scope cl C s₀ H₀ ex) tg g) (ht:∀ C s₀ H₀ ex,PF (cxC X N scope cl C s₀ H₀ ex) ifs tests) (he:∀ C s₀ H₀ ex,PE (cxC X N scope cl C s₀ H₀ ex) elt te)
   (hs:∀ x,foldedSetIterable iter X.env x = pure x:=by intro _; rfl):PE X (.ListComp elt [⟨tg,iter,ifs,0⟩] scope pos) (bQ5 wi g tests te vals):=by
 intro pins s σ H Q I h
 rw [eval_ListComp]
 refine wpAny_comprehension_free (use:=none) rfl hs ck.clos hkind hnames (thn (hi pins s σ H _ I h) fun v s1 h1 => thn h1 fun itv s2 h2 => ?_)
 obtain ⟨it,fp,tn,J,H2,e,I2,T,st2,f2,q⟩:=h2
 subst e
 refine vM (RR:=fun acc C => compPost (model X.prog X.w) X.A X.xe none (EP X pins σ Q) acc C) I2 T st2 f2 hc ck hcell hkind hg ht he q fun D C s' H' m hn q' back _ => ?_
 exact ⟨m,hn,fun h'' hsb => ⟨.ref D,H',back h'' hsb,rfl,q'⟩⟩
theorem nY {i:Nat} {x:Str} (hN:X.N.Nodup) (hix:X.N[i]? = some x) (hx:Loc X.env.scope x) (hc:X.calm = true) (hi:PI X tg iter wi) (ck:ClOk X N scope cl vals) (hcell:∀ y ∈ scope.names,y.2 ≠ .cell) (hkind:scope.kind = .function)
   (hnames:∀ x ∈ scope.names,x.2 = .local → scope.names.lookup x.1 = some .local)
   (hg:∀ C s₀ H₀ ex,PG (cxC X N scope cl C s₀ H₀ ex) tg g) (ht:∀ C s₀ H₀ ex,PF (cxC X N scope cl C s₀ H₀ ex) ifs tests) (he:∀ C s₀ H₀ ex,PE (cxC X N scope cl C s₀ H₀ ex) elt te)
   (hsw:swapsWith (.ListComp elt [⟨tg,iter,ifs,0⟩] scope pos) (some (.Name x py)) spos.line X.env = pure true:=by rfl)
   (hf:X.fn x = true ∨ X.env.scope.names.lookup x = some .local:=by first | exact .inl rfl | exact .inr rfl | assumption)
   (hs:∀ x,foldedSetIterable iter X.env x = pure x:=by intro _; rfl):PS X (.Assign [.Name x py] (.ListComp elt [⟨tg,iter,ifs,0⟩] scope pos) spos) (bZW (bQ5 wi g tests te vals) (pS i)):=by
 intro pins s σ H D I h
 rw [exec_Assign_Name_used _ _ _ _ hsw]
 refine Ae (Fb (Ae ?_))
 show wpAny _ X.A (do let _ ← comprehension (.ListComp elt [⟨tg,iter,ifs,0⟩] scope pos) scope X.env _ (newList []) false (eval iter X.env) (some (assign (.Name x py) X.env))) _ _ s
 refine Ae (Cf (wpAny_comprehension_free (use:=some (assign (.Name x py) X.env)) (Q:=fun _ s' => SP X pins D .next s') rfl hs ck.clos hkind hnames
   (thn (hi pins s σ H _ I h) fun v s1 h1 => thn h1 fun itv s2 h2 => ?_)) (fun _ s' hq => Am (Am hq)) fun _ _ e => e)
 obtain ⟨it,fp,tn,J,H2,e,I2,T,st2,f2,q⟩:=h2
 subst e
 refine vM (RR:=fun acc C => compPost (model X.prog X.w) X.A X.xe (some (assign (.Name x py) X.env)) (fun _ s' => SP X pins D .next s') acc C) I2 T st2 f2 hc ck hcell hkind hg ht he q fun Dl C s' H' m hn q' back fC => ?_
 show wpAny _ X.A (assign (.Name x py) X.env (.ref Dl)) _ _ s'
 have I':Inv X pins σ H' s':=back s'.heap (Heap.SameBut.refl ..)
 refine wpAny_assign_Name (rT I' hN hix hx (v:=.ref Dl) rfl (fun s'' I'' hsb => ?_) hf)
 obtain ⟨a,hsb,ha⟩:=hsb
 have hCa:C ≠ a:=by
   rcases ha with z | z
   · rw [z]; exact fC.2.1
   · exact fun e => fC.2.2.2.2.1 x a z e.symm
 refine ⟨m,hn.sameBut hsb hCa,fun h3 hsb3 => ?_⟩
 exact ⟨σ.set i (some (.ref Dl)),H',I''.turned (t':=s''.toks) (fun b o hb e => (hsb3.2 b hb).trans e) fC.1 fC.2.1 fC.2.2.2.1 fC.2.2.2.2.1 fC.2.2.2.2.2,q'⟩
theorem cQ4 (hfree:∀ x ∈ scope.names,x.2 ≠ .free) (hcell:∀ y ∈ scope.names,y.2 ≠ .cell):ClOk X N scope [] (fun _ => N.map fun _ => none) where
 clos:=closureFor_none hfree
 sub:=fun x c h => nomatch h
 has:=fun x h => by
   have e:(relabel scope X.env).names = scope.names:=by
     show List.map _ scope.names = scope.names
     refine map_eq_self fun y hy => ?_
     obtain ⟨n,k⟩:=y
     have:(k == NameKind.free) = false:=by simpa using hfree _ hy
     simp [this]
   rw [e] at h
   rcases h with h | h
   · exact absurd rfl (hcell _ (Cv h))
   · exact absurd rfl (hfree _ (Cv h))
 len:=fun σ => by simp
 val:=fun σ i x v h1 h2 => by
   rw [Ag] at h2
   cases e:N[i]? with
   | none => rw [e] at h2; cases h2
   | some y => rw [e] at h2; cases h2
end
section
variable {g:TG} {tests:TT} {te:TE} {σ0:St} {Q:VK} {H1:Hp}
theorem bJD {J:It} {xs:List V} {ok:Hp → Prop} (f:V → Option V) (hgo:∀ (i:Nat) H,ok H → i < xs.length → J.go i H) (hst:∀ H,ok H → J.stop xs.length H) (hy:∀ (i:Nat) H x H',ok H → J.yld i H x H' → H' = H ∧ xs[i]? = some x)
   (hok:∀ D ys,H1 D = none → ok (upd H1 D (.lst ys))) (hlen:xs.length < sizeLine)
   (hs:∀ (i:Nat) x Hc (A:VK) (B:Hp → Prop),xs[i]? = some x → ok Hc → (match f x with | some y => A y Hc | none => B Hc) → g x σ0 Hc fun σ2 H2 => Wk σ0 σ2 ∧ tests σ2 H2 fun b H3 => if b = true then te σ2 H3 A else B H3)
   (fin:∀ D,H1 D = none → Q (.ref D) (upd H1 D (.lst (xs.filterMap f)))):eT g tests te σ0 Q J H1:=by
 intro D hD
 refine ⟨fun i m Hc => m = xs.length - i ∧ i ≤ xs.length ∧ Hc = upd H1 D (.lst ((xs.take i).filterMap f)),⟨xs.length,by simp,Nat.zero_le _,by simp⟩,?_⟩
 rintro i m Hc ⟨rfl,hi,rfl⟩
 by_cases hlt:i < xs.length
 · refine .inr ⟨hgo i _ (hok D _ hD) hlt,fun x H' y => ?_⟩
   obtain ⟨e,hx⟩:=hy i _ x H' (hok D _ hD) y
   subst e
   refine hs i x _ _ _ hx (hok D _ hD) ?_
   have tk:xs.take (i + 1) = xs.take i ++ [x]:=by rw [Aw,hx]; rfl
   cases e:f x with
   | some y =>
     refine ⟨_,aB,?_,xs.length - (i + 1),by omega,rfl,hlt,?_⟩
     · have:=Cz f (xs.take i)
       rw [Bl] at this
       omega
     · rw [aQB,tk,Cd]
       simp [e]
   | none =>
     refine ⟨xs.length - (i + 1),by omega,rfl,hlt,?_⟩
     rw [tk,Cd]
     simp [e]
 · have e:i = xs.length:=by omega
   subst e
   rw [Bh]
   exact .inl ⟨hst _ (hok D _ hD),fin D hD⟩
theorem cX9 {z:Str} (f:Nat → Option V) (hl:z.length < sizeLine)
   (hs:∀ (i:Nat) c Hc (A:VK) (B:Hp → Prop),z.cps.toList[i]? = some c → (match f c with | some y => A y Hc | none => B Hc) → g (.str ⟨#[c]⟩) σ0 Hc fun σ2 H2 => Wk σ0 σ2 ∧ tests σ2 H2 fun b H3 => if b = true then te σ2 H3 A else B H3)
   (fin:∀ D,H1 D = none → Q (.ref D) (upd H1 D (.lst (z.cps.toList.filterMap f)))):eT g tests te σ0 Q (Its z) H1:=by
 have hz:z.cps.toList.length = z.length:=by simp [Str.length]
 have hz2:z.cps.size = z.length:=rfl
 refine bJD (xs:=z.cps.toList.map fun c => .str ⟨#[c]⟩) (ok:=fun _ => True) (fun x => match x with | .str y => f (y.cps.toList.headD 0) | _ => none) (fun i H _ h => ?_) (fun H _ => ?_) (fun i H x H' _ y => ?_) (fun _ _ _ => trivial) (by rw [Ab,hz]; exact hl) (fun i x Hc A B hx _ h => ?_) (fun D hD => ?_)
 · rw [Ab,hz] at h; exact h
 · show z.cps.size ≤ _
   rw [Ab,hz]; exact Ah _
 · obtain ⟨e,c,hc,hx⟩:=y
   refine ⟨e,?_⟩
   rw [Ag,Fc,hc,hx]; rfl
 · rw [Ag] at hx
   cases e:z.cps.toList[i]? with
   | none => rw [e] at hx; cases hx
   | some c => rw [e] at hx; cases hx; exact hs i c Hc A B e h
 · have q:=fin D hD
   rw [List.filterMap_map]
   exact q
end
theorem cJW {wi:TI} {g:TG} {tests:TT} {te:TE} {vals:St → St} {σ:St} {H:Hp} {Q:VK} (h:wi σ H fun J H1 => eT g tests te (vals σ) Q J H1):bQ5 wi g tests te vals σ H Q:=h
theorem dXJ {σ:St} {H:Hp} {Q:Bool → Hp → Prop} (h:Q true H):dQK σ H Q:=h
theorem bXM (ns:List Int) (lo hi:Option Int):∃ ms:List Int,mR (ns.map V.int) lo hi = ms.map V.int ∧ (∀ m ∈ ms,m ∈ ns) ∧ ms.length ≤ ns.length:=by
 refine ⟨(ns.drop (HT.sIx ns.length 0 lo)).take (HT.sIx ns.length ns.length hi - HT.sIx ns.length 0 lo),?_,fun m h => List.mem_of_mem_drop (List.mem_of_mem_take h),?_⟩
 · unfold mR
   rw [Ab,List.map_take,List.map_drop]
 · rw [Bl,Ck]; omega
end L2
set_option maxHeartbeats 4000000
namespace L2
open PySem PySem.Spec PyProof.Rows
def clF (env:Env):List (Str × NameKind) → List (Str × Addr) → List (Str × Addr)
 | [],acc => acc
 | (n,k) :: r,acc => if k == .free then clF env r ((n,(env.cells.lookup n).getD 0) :: acc) else clF env r acc
def bXN (ix:List (Option Nat)):St → St:=fun σ => ix.map fun o => match o with | none => none | some j => (σ[j]?).join
def dQX (N XN:List Str) (sn dn:List (Str × NameKind)) (ix:List (Option Nat)):Bool :=
 ix.length == N.length && (sn.all fun y => y.2 != .cell && (y.2 != .free || dn.lookup y.1 == some .cell)) && decide ((sn.map (·.1)).Nodup) &&
 ((List.range N.length).all fun i => match ix[i]? with | some (some j) => N[i]? == XN[j]? && (match N[i]? with | some x => sn.lookup x == some .free | none => false) | _ => true)
theorem tL {env:Env}:∀ (names:List (Str × NameKind)) (acc:List (Str × Addr)),(∀ y ∈ names,y.2 = .free → ∃ c,env.cells.lookup y.1 = some c) →
   (forIn names acc (fun (x:Str × NameKind) (cs:List (Str × Addr)) => (match x with
     | (name,kind) => if (kind == NameKind.free) = true then do
         let a ← cellOf env name
         pure (ForInStep.yield ((name,a) :: cs))
       else pure (ForInStep.yield cs):Sem (ForInStep (List (Str × Addr)))))) = (pure (clF env names acc):Sem (List (Str × Addr)))
 | [],acc,_ => rfl
 | (n,k) :: r,acc,h => by
   rw [List.forIn_cons]
   unfold clF
   cases e:k == NameKind.free with
   | false =>
     simp only [e,Bool.false_eq_true,if_false,pure_bind]
     exact tL r acc fun y hy => h y (Ao _ hy)
   | true =>
     obtain ⟨c,hc⟩:=h (n,k) List.mem_cons_self (by simpa using e)
     have hc':env.cells.lookup n = some c:=hc
     simp only [e,if_true,cellOf,hc',Option.getD_some,pure_bind]
     exact tL r _ fun y hy => h y (Ao _ hy)
theorem tM {env:Env}:∀ (names:List (Str × NameKind)) (acc:List (Str × Addr)) {x:Str} {c:Addr},(clF env names acc).lookup x = some c →
   acc.lookup x = some c ∨ ((x,NameKind.free) ∈ names ∧ c = (env.cells.lookup x).getD 0)
 | [],acc,x,c,h => .inl h
 | (n,k) :: r,acc,x,c,h => by
   unfold clF at h
   cases e:k == NameKind.free with
   | false =>
     rw [e] at h
     rcases tM r acc (by simpa using h) with z | ⟨z,q⟩
     · exact .inl z
     · exact .inr ⟨Ao _ z,q⟩
   | true =>
     rw [e] at h
     have ek:k = .free:=by simpa using e
     rcases tM r _ (by simpa using h) with z | ⟨z,q⟩
     · rw [Dm] at z
       cases ex:x == n with
       | true =>
         rw [ex] at z
         have exn:x = n:=by simpa using ex
         subst exn; subst ek
         cases z
         exact .inr ⟨An,rfl⟩
       | false => rw [ex] at z; exact .inl z
     · exact .inr ⟨Ao _ z,q⟩
theorem uM {env:Env}:∀ (names:List (Str × NameKind)) (acc:List (Str × Addr)) {x:Str},(acc.lookup x).isSome = true → ((clF env names acc).lookup x).isSome = true
 | [],acc,x,h => h
 | (n,k) :: r,acc,x,h => by
   unfold clF
   split
   · refine uM r _ ?_
     rw [Dm]
     cases ex:x == n with
     | true => rfl
     | false => exact h
   · exact uM r acc h
theorem nW {env:Env}:∀ (names:List (Str × NameKind)) (acc:List (Str × Addr)) {x:Str},(x,NameKind.free) ∈ names → ((clF env names acc).lookup x).isSome = true
 | (n,k) :: r,acc,x,h => by
   unfold clF
   rcases Ba.mp h with z | z
   · cases z
     simp only [beq_self_eq_true,if_true]
     refine uM r _ ?_
     rw [Dm,beq_self_eq_true]
     rfl
   · split
     · exact nW r _ z
     · exact nW r acc z
theorem iG {env:Env} {x:Str}:∀ {names:List (Str × NameKind)} {k':NameKind},(names.map fun (n,k) => if (k == NameKind.free && env.scope.kind == .function && env.kindOf n == some .cell) then (n,NameKind.cell) else (n,k)).lookup x = some k' →
   ∃ k,(x,k) ∈ names ∧ (k' = k ∨ (k = .free ∧ k' = .cell))
 | [],_,h => by simp at h
 | (n,k) :: r,k',h => by
   rw [Ap] at h
   dsimp only at h
   cases hc:(k == NameKind.free && env.scope.kind == .function && env.kindOf n == some .cell) with
   | true =>
     rw [hc,if_pos rfl,Dm] at h
     cases ex:x == n with
     | true =>
       rw [ex] at h
       cases h
       have:x = n:=by simpa using ex
       subst this
       have hk:k = .free:=by
         have:=(Fl _ _).mp hc
         have:=(Fl _ _).mp this.1
         simpa using this.1
       exact ⟨k,An,.inr ⟨hk,rfl⟩⟩
     | false =>
       rw [ex] at h
       obtain ⟨k1,h1,h2⟩:=iG h
       exact ⟨k1,Ao _ h1,h2⟩
   | false =>
     rw [hc,if_neg Al,Dm] at h
     cases ex:x == n with
     | true =>
       rw [ex] at h
       cases h
       have:x = n:=by simpa using ex
       subst this
       exact ⟨k,An,.inl rfl⟩
     | false =>
       rw [ex] at h
       obtain ⟨k1,h1,h2⟩:=iG h
       exact ⟨k1,Ao _ h1,h2⟩
theorem nE {env:Env} {x:Str} (hk:env.scope.kind = .function) (hx:env.kindOf x = some .cell):∀ {names:List (Str × NameKind)},names.lookup x = some .free →
   (names.map fun (n,k) => if (k == NameKind.free && env.scope.kind == .function && env.kindOf n == some .cell) then (n,NameKind.cell) else (n,k)).lookup x = some .cell
 | [],h => by simp at h
 | (n,k) :: r,h => by
   rw [Ap]
   dsimp only
   rw [Dm] at h
   cases ex:x == n with
   | true =>
     rw [ex] at h
     cases h
     have:x = n:=by simpa using ex
     subst this
     rw [hk,hx]
     simp [List.lookup_cons]
   | false =>
     rw [ex] at h
     have ih:=nE hk hx h
     split <;> (rw [Dm,ex]; exact ih)
theorem gP {X:Cx} {N:List Str} {scope:Scope} (XN:List Str) (sc:Scope) (ix:List (Option Nat)) (hN:X.N = XN) (hsc:X.env.scope = sc) (hk:sc.kind = .function)
   (hcs:∀ x,sc.names.lookup x = some .cell → ∃ c,X.env.cells.lookup x = some c) (c:dQX N XN scope.names sc.names ix = true):ClOk X N scope (clF X.env scope.names []) (bXN ix):=by
 unfold dQX at c
 simp only [Bool.and_eq_true,decide_eq_true_eq,List.all_eq_true,beq_iff_eq] at c
 obtain ⟨⟨⟨c0,c1⟩,c2⟩,c3⟩:=c
 have fr:∀ y,(y,NameKind.free) ∈ scope.names → sc.names.lookup y = some .cell:=fun y hy => by
   have z:=(c1 _ hy).2
   simpa using z
 have nocell:∀ y,(y,NameKind.cell) ∉ scope.names:=fun y hy => by
   have z:=(c1 _ hy).1
   simp at z
 refine ⟨?_,fun x c h => ?_,fun x h => ?_,fun σ => ?_,fun σ i x v h1 h2 => ?_⟩
 · unfold closureFor
   simp only [bind_pure]
   exact tL scope.names [] fun y hy hf => hcs y.1 (fr y.1 (by rw [← hf]; exact hy))
 · rcases tM _ _ h with z | ⟨z,q⟩
   · simp at z
   · obtain ⟨c',e⟩:=hcs x (fr x z)
     rw [q,e]; rfl
 · have:∃ k,(x,k) ∈ scope.names ∧ k = .free:=by
     rcases h with h | h
     · obtain ⟨k,h1,h2⟩:=iG h
       rcases h2 with z | ⟨z,_⟩
       · subst z; exact absurd h1 (nocell x)
       · exact ⟨k,h1,z⟩
     · obtain ⟨k,h1,h2⟩:=iG h
       rcases h2 with z | ⟨z,z2⟩
       · exact ⟨k,h1,z.symm⟩
       · exact ⟨k,h1,z⟩
   obtain ⟨k,h1,rfl⟩:=this
   exact Ek.mp (nW scope.names [] h1)
 · unfold bXN
   rw [Ab,c0]
 · unfold bXN at h2
   rw [Ag] at h2
   cases e:ix[i]? with
   | none => rw [e] at h2; cases h2
   | some o =>
     rw [e] at h2
     cases o with
     | none => cases h2
     | some j =>
       have hi:i < N.length:=(Ad.mp h1).1
       have z:=c3 i (Cc.mpr hi)
       rw [e,h1] at z
       simp only [Bool.and_eq_true,beq_iff_eq] at z
       have hv:σ[j]? = some (some v):=by
         have h3:(σ[j]?).join = some v:=by simpa using h2
         cases e2:σ[j]? with
         | none => rw [e2] at h3; cases h3
         | some o => rw [e2] at h3; cases o with
           | none => cases h3
           | some u => cases h3; rfl
       have hm:(x,NameKind.free) ∈ scope.names:=Cv z.2
       have hx:=fr x hm
       refine ⟨j,by rw [hN]; exact z.1.symm,hv,by rw [hsc]; exact hx,Ek.mp (nW scope.names [] hm),?_⟩
       exact nE (by rw [hsc]; exact hk) (by show X.env.scope.names.lookup x = _; rw [hsc]; exact hx) z.2
end L2
set_option maxHeartbeats 4000000
namespace L2
open PySem PySem.Spec PyProof.Rows
open PySem.AutoSeq1 (wpAny_loadPart')
theorem cZ4 {α:Type} {M:Model} {A:Around} {E:Value → Shared → Prop} {s:Shared} {c:Bool} {x y:Sem α} {Q:α → Shared → Prop} (h1:wpAny M A x Q E s) (h2:wpAny M A y Q E s):wpAny M A (if c = true then x else y) Q E s:=by
 cases c
 · exact h2
 · exact h1
theorem aXY (l:Addr) (its:Array Value) (n:Nat) (dc:Option Addr) (sl:Array (Option Value)) (k:Int) (t:Tok) (hk:Builtin.SmallTypes.fitsIndex k = true) :
   Meets (Builtin.«enumerate.__new__» ⟨[.type "enumerate",.ref l],[("start",.int k t)]⟩) (fun _ R s => s.heap.get? l = some ⟨.type "list",dc,.seq its n,sl⟩ ∧
     R (.ok (.ret (.ref (s.heap.push { cls:=.type "list_iterator",data:=.fields #[.ref l,.int 0 0] }).objs.size)))
       { s with heap:=(s.heap.push { cls:=.type "list_iterator",data:=.fields #[.ref l,.int 0 0] }).push ⟨.type "enumerate",none,.fields #[.none,.bool false,.ref s.heap.objs.size,rawInt k,.none,.none],#[]⟩ }) :=
 .of_wp fun prog w A R s h => by
   obtain ⟨hp,g,d,tk,os⟩:=s
   obtain ⟨hl,h⟩:=h
   have hsub:=sub_enumerate
   have hL:Heap.IsList hp l its:=⟨_,hl,rfl,n,rfl⟩
   have hk':(!Builtin.SmallTypes.fitsIndex k) = false:=by rw [hk]; rfl
   wp_walk using Bu hl
   refine wpAny_stack_any fun st => Am ?_
   refine cZ4 ?_ ?_ <;>
   · wp_walk using (Bu hl),(Fe (s:=⟨hp,g,d,tk,os⟩) hL)
     exact ⟨_,rfl,h⟩
section
variable {prog:Program} {w:World} {A:Around} {E:Value → Shared → Prop} {s:Shared}
theorem sX {T newId:String} {Bn:Builtin} {args:List Value} {kw:List (Str × Value)} {S:PySem.Spec} {Q Q1:Value → Shared → Prop} (ft:TypeCalled T newId "object.__init__")
   (hct:checkTypeCall T ⟨args,kw⟩ = pure ()) (hcn:checkBuiltinCall newId ⟨.type T :: args,kw⟩ = pure ()) (eN:entryFor table newId = some Bn) (g:Meets (Bn ⟨.type T :: args,kw⟩) S) (h:S A.in1 (wants Q1 E) s)
   (hnx:∀ o s1,Q1 o s1 → s1.TypeIs o T ∧ argsOk "object.__init__" ⟨o :: args,kw⟩ ∧ ∃ Si,Meets (Builtin.«object.__init__» ⟨o :: args,kw⟩) Si ∧ Si A.in1 (wants (fun r s2 => r = .none ∧ Q o s2) E) s1) :
   wpAny (model prog w) A (call (.type T) args kw) Q E s:=by
 obtain ⟨c,tl,hmro⟩:=ft.mro
 have hmade:=ft.made
 have hsub:=ft.sub
 have h1:=ft.notType
 have h2:=ft.canCreate
 refine Fu (codeAny_of_tree (show wpAny _ _ (callAny (.type T) _) _ _ _ from Am ⟨Fv _ (by decide +kernel),Ef F.entry_type_call ?_⟩))
 rw [Around.under_plain (weight_type_call_type T args kw) (units_type_call_type T args kw)]
 repeat (any_goals first | assumption | wp_step)
 refine Eh (Dr ft.plain eN (wpAny_of_eq hcn (g prog w A.in1 _ s h))) ?_
 rintro (e | fl) s1 hr
 · exact hr
 · cases fl with
   | ret o =>
     obtain ⟨hT,hok,Si,gi,hsi⟩:=hnx _ _ hr
     have hli:=ft.init.lookup
     have hbi:=ft.init.bind o
     repeat (any_goals first | assumption | wp_step)
     refine Eh (Dr ft.init.plain F.entry_object_init (ft.init.check _ _ _ _ _ _ _ _ hT hok (gi prog w A.in1 _ s1 hsi))) ?_
     rintro (e | fl2) s2 hr2
     · exact hr2
     · cases fl2 with
       | ret r =>
         obtain ⟨rfl,hq⟩:=hr2
         repeat (any_goals first | assumption | wp_step)
       | _ => exact hr2.elim
   | _ => exact hr.elim
theorem bJ7 {T newId:String} {self:Value} {rest:List Value} {kw:List (Str × Value)} (hl:typeLookup (.type T) "__init__" = pure (some (.builtin "object.__init__")))
   (hm:Bind.madeBy (.type T) = pure (some newId)) (hne:(some newId != some "object.__new__") = true) :
   Meets (Builtin.«object.__init__» ⟨self :: rest,kw⟩) (fun _ R s => s.TypeIs self T ∧ R (.ok (.ret .none)) s):=by
 refine Meets.of_wp fun prog w A R s hs => ?_
 obtain ⟨hT,hq⟩:=hs
 cases rest with
 | nil =>
   cases kw with
   | nil => exact Am ⟨_,rfl,hq⟩
   | cons a r =>
     repeat (any_goals first | assumption | wp_step)
     exact ⟨_,rfl,hq⟩
 | cons a r =>
   repeat (any_goals first | assumption | wp_step)
   exact ⟨_,rfl,hq⟩
theorem tF {l:Addr} {its:Array Value} {k:Int} {t:Tok} {Q:Value → Shared → Prop} (hk:Builtin.SmallTypes.fitsIndex k = true) (hL:s.heap.IsList l its)
   (h:∀ h',IsEnum h' (s.heap.objs.size + 1) s.heap.objs.size k .none → h'.IsListIter s.heap.objs.size l 0 → h'.objs.size = s.heap.objs.size + 2 → (∀ b o,s.heap.get? b = some o → h'.get? b = some o) → Q (.ref (s.heap.objs.size + 1)) { s with heap:=h' }) :
   wpAny (model prog w) A (call (.type "enumerate") [.ref l] [("start",.int k t)]) Q E s:=by
 obtain ⟨⟨c,dc,dt,sl⟩,hl,hc,n,hd⟩:=hL
 obtain rfl:c = .type "list" := hc
 obtain rfl:dt = .seq its n:=hd
 have hz:(s.heap.push { cls:=.type "list_iterator",data:=.fields #[.ref l,.int 0 0] }).objs.size = s.heap.objs.size + 1:=Er ..
 refine sX (Q1:=fun o s1 => s1.TypeIs o "enumerate" ∧ Q o s1) F.called_enumerate (by kernel_rfl) (by kernel_rfl) F.entry_enumerate_new (aXY l its n dc sl k t hk) ⟨hl,?_⟩ fun o s1 hq => ⟨hq.1,?_,_,bJ7 F.called_enumerate.init.lookup F.called_enumerate.made (by decide),hq.1,rfl,hq.2⟩
 · show _ ∧ _
   rw [hz]
   have he:IsEnum ((s.heap.push { cls:=.type "list_iterator",data:=.fields #[.ref l,.int 0 0] }).push ⟨.type "enumerate",none,.fields #[.none,.bool false,.ref s.heap.objs.size,rawInt k,.none,.none],#[]⟩) (s.heap.objs.size + 1) s.heap.objs.size k .none:=by
     have q:=Ax (s.heap.push { cls:=.type "list_iterator",data:=.fields #[.ref l,.int 0 0] }) (o:=⟨.type "enumerate",none,.fields #[.none,.bool false,.ref s.heap.objs.size,rawInt k,.none,.none],#[]⟩) rfl
     rwa [hz] at q
   exact ⟨⟨_,he,rfl⟩,h _ he ⟨_,Af _ (Ax _ rfl),rfl,rfl⟩ (by rw [Er,hz]) fun b o x => Af _ (Af _ x)⟩
 · unfold argsOk
   rw [signature?_of (n:=['_','_','t','i','n','i','_','_']) (o := "tcejbo".toList) (by kernel_rfl) F.owner_object]
   kernel_rfl
end
theorem nD {prog:Program} {w:World} {A:Around} {it:Addr} {fp:List Addr} {n:Nat} {P:Nat → Value → Prop} {S:Nat → Heap → Prop} (k:Nat) (D:Draws prog w A it fp n P S) :
   Draws prog w A it fp (k + n) (fun j v => P (j - k) v) (fun j h => k ≤ j ∧ S (j - k) h) where
 live:=fun i h st => D.live _ h st.2
 frame:=fun i h h' st kk => ⟨st.1,D.frame _ h h' st.2 kk⟩
 item:=fun i s Q E hi st hQ => D.item (i - k) s Q E (by have:=st.1; omega) st.2 fun x h' tk hP hS sb => hQ x h' tk hP ⟨by have:=st.1; omega,by rw [show i + 1 - k = i - k + 1 by have:=st.1; omega]; exact hS⟩ sb
 done:=fun s Q E st hE => D.done s Q E (by have q:=st.2; rwa [show k + n - k = n by omega] at q) hE
section
variable {X:Cx} {pins:List (Addr × Obj)} {σ:St} {H:Hp} {s:Shared} {h':Heap}
theorem Inv.turnLaid {ch:List Addr} {a:Addr} {o:HO} {t':Nat} (I:Inv X pins σ H s) (hch:∀ b ∈ ch,kD X pins H b) (k:∀ b u,b ∉ ch → s.heap.get? b = some u → h'.get? b = some u) (hp:s.heap.objs.size ≤ a)
   (new:ObjOk X.prog X.w (upd H a o) h' a o):Inv X pins σ (upd H a o) { s with heap:=h',toks:=t' }:=by
 have hn:=I.hok.fresh hp
 have nch:∀ b u,H b = some u → b ∉ ch:=fun b u e z => by rw [(hch b z).1] at e; cases e
 refine I.step (g':=s.gens) (d':=s.drawn) (ch:=ch) (fun b hb => ?_) (fun b o _ _ hc e _ => k b o hc e) (fun b o _ _ hc e _ => ⟨o.slots,k b o hc e⟩) (fun b o _ e n => ?_) (fun b o hc e => ⟨o,k b o hc e⟩)
   (fun b xs e => by rw [aI (bH e hn)]; exact e) (fun b o u e => by rw [aI (bH e hn)]; exact e) (fun b ps e => ⟨#[],by rw [aI (bH e hn),e]; simp⟩) (fun m hm => ?_) (fun b u e => ?_) I.bare
 · obtain ⟨_,q1,_,q3,q4,q5⟩:=hch b hb
   exact ⟨q3,q1,q4,q5⟩
 · rw [aI (Bj (Bd (Aq e) hp))]
   exact n
 · obtain ⟨ob,es,ep,ho,r⟩:=hm
   exact ⟨ob,es,ep,k _ ob (fun z => (hch _ z).2.1 rfl) ho,r⟩
 · by_cases hb:b = a
   · subst hb
     rw [aB] at e
     cases e
     exact new
   · rw [aI hb] at e
     refine (I.hok b u e).stay (fun c v hc q => k c v ?_ q) (fun c q => by rw [aI (bH q hn)]; exact q) fun c xs q => by rw [aI (bH q hn)]; exact q
     rcases hc with z | z
     · rw [z]; exact nch b u e
     · exact nch c _ z
theorem Inv.turnAll {ch:List Addr} {t':Nat} (I:Inv X pins σ H s) (hch:∀ b ∈ ch,kD X pins H b) (k:∀ b u,b ∉ ch → s.heap.get? b = some u → h'.get? b = some u):Inv X pins σ H { s with heap:=h',toks:=t' }:=by
 have nch:∀ b u,H b = some u → b ∉ ch:=fun b u e z => by rw [(hch b z).1] at e; cases e
 refine I.step (g':=s.gens) (d':=s.drawn) (ch:=ch) (fun b hb => ?_) (fun b o _ _ hc e _ => k b o hc e) (fun b o _ _ hc e _ => ⟨o.slots,k b o hc e⟩) (fun b o _ e n => n) (fun b o hc e => ⟨o,k b o hc e⟩)
   (fun b xs e => e) (fun b o u e => e) (fun b ps e => ⟨#[],by rw [e]; simp⟩) (fun m hm => ?_) (fun b u e => ?_) I.bare
 · obtain ⟨_,q1,_,q3,q4,q5⟩:=hch b hb
   exact ⟨q3,q1,q4,q5⟩
 · obtain ⟨ob,es,ep,ho,r⟩:=hm
   exact ⟨ob,es,ep,k _ ob (fun z => (hch _ z).2.1 rfl) ho,r⟩
 · refine (I.hok b u e).stay (fun c v hc q => k c v ?_ q) (fun c q => q) fun c xs q => q
   rcases hc with z | z
   · rw [z]; exact nch b u e
   · exact nch c _ z
end
def Ite (K:PySem.W.Frag) (a:Addr) (k:Nat):It :=
 ⟨fun i H => ∃ xs x,SqL K H a xs ∧ xs[i]? = some x,fun i H v H' => ∃ p x,H p = none ∧ v = .ref p ∧ H' = upd H p (.tup [.int ((k + i:Nat):Int),x]) ∧ ∀ xs,SqL K H a xs → xs[i]? = some x,fun i H => ∃ xs,SqL K H a xs ∧ xs.length = i⟩
theorem aXE {P:Program} {w:World} {K:PySem.W.Frag} {elts:List Expr} {x1:Nat} {tp:Pos} (a e it:Addr) (k:Nat) (hei:e ≠ it) :
   Turn P w K (.Tuple elts x1 tp) (Ite K a k) [e,it] e (fun i h => (∃ old,IsEnum h e it ((k + i:Nat):Int) old) ∧ h.IsListIter it a i) where
 mem:=by simp
 obj:=fun i h st b hb => by
   obtain ⟨⟨old,he⟩,o,ho,c,d⟩:=st
   rcases Ba.mp hb with z | z
   · subst z; exact ⟨_,he,fun v z => by cases z⟩
   · rw [As.mp z]; exact ⟨o,ho,fun v z => by rw [d] at z; cases z⟩
 keep:=fun i h h' st kk => ⟨let ⟨old,he⟩:=st.1; ⟨old,kk e (by simp) _ he⟩,st.2.at fun o q => kk it (by simp) o q⟩
 item:=by
   intro X hP hw hK hc i pins s σ H E I hf st hg
   subst hP hw hK
   obtain ⟨xs,x,hq,hx⟩:=hg
   obtain ⟨its,rv,p,hz⟩:=I.list hq
   obtain ⟨u,hu,ru⟩:=rv.get hx
   obtain ⟨⟨old,he⟩,hit⟩:=st
   have hai:a ≠ it:=by
     rintro rfl
     obtain ⟨o,ho,c,_⟩:=hit
     obtain ⟨o2,ho2,c2,_⟩:=p.isList
     rw [ho] at ho2; cases ho2
     rw [c] at c2; injection c2 with c2; exact absurd c2 (by decide)
   have hae:a ≠ e:=by
     rintro rfl
     obtain ⟨o2,ho2,c2,_⟩:=p.isList
     rw [he] at ho2; cases ho2
     injection c2 with c2; exact absurd c2 (by decide)
   have hl:=rv.length
   have hil:i < its.length:=(Ad.mp hu).1
   have D:=nD k (Draws.list (prog:=X.prog) (w:=X.w) (A:=X.A.in1) (show X.A.in1.handled = none from I.ok.hd hc) it a hai its.toArray)
   refine wpAny_pyNext_enum_itemD D (i:=k + i) he ⟨Nat.le_add_right _ _,by rw [Ew]; exact ⟨hit,p.isList⟩⟩ (by rw [Bo]; omega) hei (fun z => by
     rcases Ba.mp z with z | z
     · exact hei z
     · exact hae (As.mp z).symm) fun y h1 tk hP ho hS hT hsz kk => ?_
   refine ⟨_,rfl,wpAny_letOwnedTupleGo_enum ho fun h2 he2 hs2 => ?_⟩
   have ey:y = u:=by
     have hP':its.toArray[k + i - k]? = some y:=hP
     rw [Ew] at hP'
     have:its[i]? = some y:=by simpa using hP'
     rw [hu] at this; cases this; rfl
   subst ey
   have hTe:s.heap.objs.size ≠ e:=Fz (Aq he)
   have hTi:s.heap.objs.size ≠ it:=by obtain ⟨o,q,_⟩:=hit; exact Fz (Aq q)
   have hT2:h2.get? s.heap.objs.size = some { cls:=.type "tuple",data:=.seq #[.int ((k + i:Nat):Int) tk,y] }:=(hs2.2 _ hTe).trans hT
   have hS':h1.IsListIter it a (i + 1):=by
     have q:=hS.2.1
     rwa [show k + i + 1 - k = i + 1 by omega] at q
   have I2:Inv X pins σ (upd H s.heap.objs.size (.tup [.int ((k + i:Nat):Int),x])) { s with heap:=h2,toks:=tk + 1 }:=by
     refine I.turnLaid (ch:=[e,it]) hf (fun b u hb q => (hs2.2 b (fun z => hb (by simp [z]))).trans (kk b u (fun z => hb (by simp [z])) (fun z => hb (by simp [z])) q)) (Nat.le_refl _) ⟨bI (by show 2 ≤ _; omega),[.int ((k + i:Nat):Int) tk,y],.cons ⟨tk,rfl⟩ (.cons ru .nil),_,hT2,rfl,_,rfl⟩
   refine ⟨.ref s.heap.objs.size,_,I2,rfl,⟨_,x,I.hok.fresh (Ah _),rfl,rfl,fun ys hy => by rw [I.list_inj hy hq]; exact hx⟩,⟨⟨y,he2⟩,hS'.at fun o q => (hs2.2 it hei.symm).trans q⟩,fun b hb => ?_⟩
   rcases Ba.mp hb with z | z
   · rw [z,aI hTe.symm]; exact (hf e (by simp)).1
   · rw [List.mem_singleton.mp z,aI hTi.symm]; exact (hf it (by simp)).1
 done:=by
   intro X hP hw hK hc i pins s σ H E I hf st hg
   subst hP hw hK
   obtain ⟨xs,hq,hx⟩:=hg
   obtain ⟨its,rv,p,hz⟩:=I.list hq
   obtain ⟨⟨old,he⟩,hit⟩:=st
   have hl:=rv.length
   have hai:a ≠ it:=by
     rintro rfl
     obtain ⟨o,ho,c,_⟩:=hit
     obtain ⟨o2,ho2,c2,_⟩:=p.isList
     rw [ho] at ho2; cases ho2
     rw [c] at c2; injection c2 with c2; exact absurd c2 (by decide)
   have D:=nD k (Draws.list (prog:=X.prog) (w:=X.w) (A:=X.A.in1) (show X.A.in1.handled = none from I.ok.hd hc) it a hai its.toArray)
   refine wpAny_pyNext_enum_endD D he ⟨Nat.le_add_right _ _,by rw [Ew,Bo,← hl,hx]; exact ⟨hit,p.isList⟩⟩ fun h' eb => ⟨rfl,?_⟩
   exact I.turnAll (t':=s.toks) (ch:=[e,it]) hf fun b u hb q => eb b u (fun z => hb (by simp [z])) q
 self:=fun _ _ _ _ _ st h => let ⟨⟨_,he⟩,_⟩:=st; wpAny_pyIter_enum he h
section
variable {X:Cx} {l:Expr} {ta tk:TA} {kws:List Keyword} {elts:List Expr} {x1:Nat} {tp p pos kp:Pos}
def xE (R:Addr → Hp → Prop):List V → Hp → Prop:=fun vs H => match vs with | [.ref j] => R j H | _ => False
theorem aQU {R:Addr → Hp → Prop} {vs:List V} {H:Hp} (q:xE R vs H):∃ j,vs = [.ref j] ∧ R j H:=by
 unfold xE at q
 split at q
 · exact ⟨_,rfl,q⟩
 · exact q.elim
def cQ0 (K:PySem.W.Frag) (ta:TA):TI:=fun σ H R => ta σ H (xE fun a H1 => onL (rdL H1 a) (R (Ite K a 0) H1))
def bZF (K:PySem.W.Frag) (ta tk:TA):TI:=fun σ H R => ta σ H (xE fun a H1 => tk σ H1 (yR fun k H2 => (0 ≤ k ∧ k < 2 ^ 62) ∧ onL (rdL H2 a) (R (Ite K a k.toNat) H2)))
theorem zY {pins:List (Addr × Obj)} {σ:St} {H1:Hp} {s1:Shared} {a:Addr} {k:Nat} {h':Heap} {R:It → Hp → Prop} {E:Value → Shared → Prop} (I1:Inv X pins σ H1 s1) (he:IsEnum h' (s1.heap.objs.size + 1) s1.heap.objs.size ((k:Nat):Int) .none) (hi:h'.IsListIter s1.heap.objs.size a 0) (hz:h'.objs.size = s1.heap.objs.size + 2)
   (hk:∀ b o,s1.heap.get? b = some o → h'.get? b = some o) (q:R (Ite X.K a k) H1):wpAny (model X.prog X.w) X.A (pyIter (.ref (s1.heap.objs.size + 1))) (PIE X pins σ (.Tuple elts x1 tp) R) E { s1 with heap:=h' }:=by
 refine wpAny_pyIter_enum (s:={ s1 with heap:=h' }) he ⟨_,[s1.heap.objs.size + 1,s1.heap.objs.size],_,_,H1,rfl,I1.kept (t':=s1.toks) hk,aXE a _ _ k (Nat.succ_ne_self _),⟨⟨_,he⟩,hi⟩,fun b hb => ?_,q⟩
 have z:s1.heap.objs.size ≤ b:=by
   rcases Ba.mp hb with z | z
   · rw [z]; exact Nat.le_succ _
   · rw [As.mp z]; exact Ah _
 exact I1.fpOk z (I1.hok.fresh z)
theorem uN (hg:Gl X "enumerate") (hm:X.mg "enumerate" = none) (ha:PA X [l] ta) (hs:starEach [l] X.env = [(false,eval l X.env)]:=by rfl) :
   PI X (.Tuple elts x1 tp) (.Call (.Name "enumerate" p) [l] [] pos) (cQ0 X.K ta):=by
 intro pins s σ H R I h
 refine Call_ (lC I hg hm boot_enumerate (Dj (thn (ha pos pins s σ H _ I h) fun us s1 ⟨vs,H1,I1,r1,q1⟩ => ?_) hs rfl))
 obtain ⟨a,rfl,q⟩:=aQU q1
 obtain ⟨u,rfl,ru⟩:=fI r1
 cases ru
 unfold onL at q
 split at q
 · rename_i xs ex
   obtain ⟨its,rv,p,hz⟩:=I1.list (aW ex)
   exact call_enumerate_list p.isList fun h' he hi hz hk => zY I1 (k:=0) he hi hz hk q
 · exact q.elim
theorem sT {M:Model} {A:Around} {E:Value → Shared → Prop} {s:Shared} {T:String} {args:List (Bool × Sem Value)} {kw:List (Option Str × Sem Value)} {Q:Value → Shared → Prop}
   (h1:args.any (·.1) = false) (h2:kw.any (·.1.isNone) = false) (h:wpAny M A (evalArgs (.type T) true args kw) (fun a s1 => wpAny M A (call (.type T) a.pos a.kw) Q E s1) E s):wpAny M A (callWith pos (.type T) [] args kw) Q E s:=by
 unfold callWith
 refine Ae (Cy (Cf h (fun a s1 q1 => Ae (Fb ?_)) fun _ _ x => x))
 rw [h1,h2]
 exact Ae (Am (Ae (Cf q1 (fun r s2 hr => Ae (Cy (wpAny_point (Am hr)))) fun _ _ x => x)))
theorem bQ4 {kx:Expr} (hg:Gl X "enumerate") (hm:X.mg "enumerate" = none) (ha:PA X [l] ta) (hk:PK X [⟨some "start",kx,kp⟩] tk) (hs:starEach [l] X.env = [(false,eval l X.env)]:=by rfl)
   (hks:keywordEach [⟨some "start",kx,kp⟩] X.env = [(some ("start" : Str),eval kx X.env)]:=by rfl) :
   PI X (.Tuple elts x1 tp) (.Call (.Name "enumerate" p) [l] [⟨some "start",kx,kp⟩] pos) (bZF X.K ta tk):=by
 intro pins s σ H R I h
 have hs2:backTo pos (starEach [l] X.env) = [(false,eval l X.env)]:=by rw [hs]; rfl
 refine Dz (lC I hg hm boot_enumerate (sT (by rw [hs2]; rfl) (by rw [hks]; rfl) ?_))
 rw [hs2]
 refine evalArgs_kwB (by rw [hks]; rfl) ?_
 rw [← hs2]
 refine thn (ha pos pins s σ H _ I h) fun us s1 ⟨vs,H1,I1,r1,q1⟩ => ?_
 obtain ⟨a,rfl,q⟩:=aQU q1
 refine thn (hk pos pins s1 σ H1 _ I1 q) fun ws s2 ⟨zs,H2,I2,r2,q2⟩ => ?_
 obtain ⟨k,rfl,⟨k0,k1⟩,q⟩:=aQF q2
 obtain ⟨u,rfl,ru⟩:=fI r1
 cases ru
 obtain ⟨u,rfl,t,rfl⟩:=fI r2
 unfold onL at q
 split at q
 · rename_i xs ex
   obtain ⟨its,rv,p,hz⟩:=I2.list (aW ex)
   have e:(backToKw pos (keywordEach [⟨some "start",kx,kp⟩] X.env)).filterMap (·.1) = (["start"]:List Str):=by rw [hks]; rfl
   rw [e]
   refine tF (by unfold Builtin.SmallTypes.fitsIndex; rw [Ar (by omega),Ar (by omega)]; rfl) p.isList fun h' he hi hz hk => zY I2 (k:=k.toNat) ?_ hi hz hk q
   rw [show ((k.toNat:Nat):Int) = k by omega]
   exact he
 · exact q.elim
end
section
variable {K:PySem.W.Frag} {a:Addr} {k:Nat} {xs:List V} {g:TG} {tb:TS} {D:Ends} {σ σ0:St} {H H1:Hp} {tests:TT} {te:TE} {Q:VK}
theorem aQW (Pv:Nat → St → Hp → Prop) (h0:Pv 0 σ H) (hl:∀ i σ H,i ≤ xs.length → Pv i σ H → rdL H a = some xs)
   (hs:∀ i x σ H p,xs[i]? = some x → Pv i σ H → H p = none → g (.ref p) σ (upd H p (.tup [.int ((k + i:Nat):Int),x])) fun σ2 H2 => tb { D with nx:=Pv (i + 1),ct:=Pv (i + 1),bk:=D.nx } σ2 H2) (hd:∀ σ H,Pv xs.length σ H → D.nx σ H):qF (Ite K a k) g tb D σ H:=by
 refine ⟨fun i m σ H => m = xs.length - i ∧ i ≤ xs.length ∧ Pv i σ H,⟨xs.length,by simp,Nat.zero_le _,h0⟩,?_⟩
 rintro i m σ H ⟨rfl,hi,p⟩
 have hr:=hl i σ H hi p
 by_cases hlt:i < xs.length
 · refine .inr ⟨⟨xs,xs[i],aW hr,by simp [hlt]⟩,Pv (i + 1),fun σ' H' p' => ⟨xs.length - (i + 1),by omega,rfl,hlt,p'⟩,fun x H' y => ?_⟩
   obtain ⟨q,z,hq,rfl,rfl,hz⟩:=y
   exact hs i z σ H q (hz xs (aW hr)) p hq
 · have e:i = xs.length:=by omega
   subst e
   exact .inl ⟨⟨xs,aW hr,rfl⟩,hd σ H p⟩
theorem bJA (f:Nat → V → Option V) (ha:rdL H1 a = some xs) (hl:xs.length < sizeLine)
   (hs:∀ (i:Nat) x Hc p (A:VK) (B:Hp → Prop),xs[i]? = some x → Same H1 Hc → Hc p = none → (∀ Hd,Same (upd Hc p (.tup [.int ((k + i:Nat):Int),x])) Hd → match f i x with | some y => A y Hd | none => B Hd) →
     g (.ref p) σ0 (upd Hc p (.tup [.int ((k + i:Nat):Int),x])) fun σ2 H2 => Wk σ0 σ2 ∧ tests σ2 H2 fun b H3 => if b = true then te σ2 H3 A else B H3)
   (fin:∀ D Hd,H1 D = none → Same H1 Hd → rdL Hd D = some ((List.range xs.length).filterMap fun i => f i (xs.getD i .non)) → Q (.ref D) Hd):eT g tests te σ0 Q (Ite K a k) H1:=by
 intro D hD
 refine ⟨fun i m Hc => m = xs.length - i ∧ i ≤ xs.length ∧ Same H1 Hc ∧ Hc D = some (.lst ((List.range i).filterMap fun i => f i (xs.getD i .non))),⟨xs.length,by simp,Nat.zero_le _,aE hD _,by rw [aB]; rfl⟩,?_⟩
 rintro i m Hc ⟨rfl,hi,sm,hDc⟩
 have hr:=aJ sm ha
 by_cases hlt:i < xs.length
 · refine .inr ⟨⟨xs,xs[i],aW hr,by simp [hlt]⟩,fun v H' y => ?_⟩
   obtain ⟨q,z,hq,rfl,rfl,hz⟩:=y
   have hx:=hz xs (aW hr)
   have hg:xs.getD i .non = z:=by rw [Ac,hx]; rfl
   refine hs i z Hc q _ _ hx sm hq fun Hd sd => ?_
   have hDd:Hd D = some (.lst ((List.range i).filterMap fun i => f i (xs.getD i .non))):=sd _ _ (aE hq _ _ _ hDc)
   have sH:Same H1 Hd:=sm.trans ((aE hq _).trans sd)
   cases e:f i z with
   | some y =>
     refine ⟨_,hDd,?_,xs.length - (i + 1),by omega,rfl,hlt,fun b o hb => ?_,?_⟩
     · have:=Cz (fun i => f i (xs.getD i .non)) (List.range i)
       rw [Bz] at this
       omega
     · rw [aI (bH hb hD)]; exact sH b o hb
     · rw [aB,Cb,Cd,Da (b:=y) (by rw [hg,e]),Df]
   | none =>
     refine ⟨xs.length - (i + 1),by omega,rfl,hlt,sH,?_⟩
     rw [hDd,Cb,Cd,Dn (by rw [hg,e]),Df,Bk]
 · have e:i = xs.length:=by omega
   subst e
   exact .inl ⟨⟨xs,aW hr,rfl⟩,fin D Hc hD sm (aQ hDc)⟩
theorem bZJ {ta:TA} {R:It → Hp → Prop} (h:ta σ H (xE fun a H1 => onL (rdL H1 a) (R (Ite K a 0) H1))):cQ0 K ta σ H R:=h
theorem bXL {ta tk:TA} {R:It → Hp → Prop} (h:ta σ H (xE fun a H1 => tk σ H1 (yR fun k H2 => (0 ≤ k ∧ k < 2 ^ 62) ∧ onL (rdL H2 a) (R (Ite K a k.toNat) H2)))):bZF K ta tk σ H R:=h
theorem cXJ {R:Addr → Hp → Prop} (h:R a H):xE R [.ref a] H:=h
end
section
variable {X:Cx}
end
section
variable {K:PySem.W.Frag} {n:Nat} {t:TG} {u:TGs} {v:V} {r xs:List V} {σ:St} {H:Hp} {Q:St → Hp → Prop} {a:Addr}
theorem cZA (e:kC H a = some xs) (hn:xs.length = n) (h:u xs σ H Q):cXR K n u (.ref a) σ H Q:=⟨a,xs,rfl,.of (nT e),hn,h⟩
theorem bZ5 (h:t v σ H fun σ' H' => u r σ' H' Q):aQ3 t u (v :: r) σ H Q:=⟨v,r,rfl,h⟩
theorem cZ7 (h:Q σ H):cJB [] σ H Q:=⟨rfl,h⟩
end
theorem iL {X:Cx} {K:PySem.W.Frag} {i j k:Nat} {x y:Str} {px py pos:Pos} (hK:X.K = K) (hc:X.calm = true) (hN:X.N.Nodup) (hi:X.N[i]? = some x) (hx:Loc X.env.scope x) (hfx:X.fn x = true ∨ X.env.scope.names.lookup x = some .local)
   (hj:X.N[j]? = some y) (hy:Loc X.env.scope y) (hfy:X.fn y = true ∨ X.env.scope.names.lookup y = some .local):PG X (.Tuple [.Name x px,.Name y py] k pos) (cXR K 2 (aQ3 (pS i) (aQ3 (pS j) cJB))):=by
 subst hK
 exact cZU hc (vF (aV hN hi hx hfx) (vF (aV hN hj hy hfy) bJ8))
end L2
set_option maxHeartbeats 4000000
namespace L2
open PySem PySem.Spec PyProof.Rows
structure Fly (B:Heap) (l:List Env) (e:Addr) (cls:Value) (d:Option Addr) (fl:Value) (h:Heap):Prop where
 stays:B.StaysIn h
 new:B.get? e = none
 frames:h.FunFrames B l
 on:∃ oe vs T oT ts,h.get? e = some oe ∧ (oe.cls = cls ∧ oe.dict = d) ∧ oe.data = .fields vs ∧ vs[1]? = some (.ref T) ∧ B.get? T = none ∧ T ≠ e ∧ h.get? T = some oT ∧ oT.data = .fields ts ∧ ts[3]? = some fl ∧ vs[2]? = some .none
theorem vN (o:Obj) (f:Array Value → Array Value):(o.mapFields f).dict = o.dict:=by
 obtain ⟨c,d,dt,sl⟩:=o
 cases dt <;> rfl
theorem nI {h:Heap} {a:Addr} {o:Obj} {vs:Array Value} {f:Obj → Obj} (ha:h.get? a = some o) (hd:o.data = .fields vs):∀ b u,h.get? b = some u → (∀ ws,u.data ≠ .fields ws) → (h.update a f).get? b = some u:=fun b u e n => by
 rw [By _ _ (fun z:a = b => by rw [← z,ha] at e; cases e; exact n vs hd)]
 exact e
section
variable {M:Model} {A:Around} {E:Value → Shared → Prop} {s:Shared} {B:Heap} {env:Env} {outer l:List Env} {L e:Addr} {cls:Value} {d:Option Addr} {Q:Unit → Shared → Prop}
theorem qR {oe:Obj} {vs:Array Value} {head:Value} {nx:Bool} (hfr:A.frames = some (env :: outer)) (hl:s.heap.FunFrames B (env :: outer)) (hf:env.frame = some L) (hB:B.StaysIn s.heap) (hn:B.get? e = none)
   (he:s.heap.get? e = some oe) (hd:oe.data = .fields vs) (h1:1 < vs.size) (c2:vs[2]? = some .none) (hQ:∀ h',Fly B (env :: outer) e oe.cls oe.dict (rawInt L) h' → s.heap.UpToSlots h' → Q () { s with heap:=h' }) :
   wpAny M A (do let a ← frameOf env; let pl ← entryPlaceOf L nx; let b ← EntryCells.newEntry head a .none (rawInt L) .none pl; setField (.ref e) 1 b) Q E s:=by
 have ne:e ∉ (env :: outer).filterMap (·.frame):=fun hm => by
   obtain ⟨_,o,ho,nf⟩:=hl.mem hm
   rw [he] at ho; cases ho
   exact nf vs hd
 refine Ae (wpAny_frameOf_fun hfr hl hf fun g1 so => Ae (wpAny_entryPlaceOf fun pl hpl => ?_))
 have e1:g1.get? e = some oe:=(so.2.1 e ne).trans he
 have b1:B.StaysIn g1:=fun b o q => (so.2.1 b fun hm => by rw [(hl.mem hm).1] at q; cases q).trans (hB b o q)
 unfold EntryCells.newEntry newFields
 refine Ae (Gc ?_ (hpl.sizeOk5 _ _ _ _ _))
 generalize hts:(([head,.ref L,.none,rawInt L,.none] ++ (if pl.isEmpty then List.replicate 6 Value.none else pl):List Value)).toArray = ts
 have t3:ts[3]? = some (rawInt L):=by rw [← hts]; simp
 have e2:=Af (h:=g1) ⟨.type "traceback",none,.fields ts,#[]⟩ e1
 refine Gd e2 hd h1 (hQ _ ?_ ?_)
 · have te:g1.objs.size ≠ e:=Fz (Aq e1)
   have dm:=Fw hd (·.setIfInBounds 1 (Value.ref g1.objs.size))
   refine ⟨fun b o q => ?_,hn,hl.of_keeps fun b o q nf => ?_,_,_,g1.objs.size,⟨.type "traceback",none,.fields ts,#[]⟩,ts,Heap.get?_update_self _ e2 (Obj.isFreed_of_fields dm),⟨Obj.cls_mapFields _ _,vN _ _⟩,dm,by simp [h1],b1.fresh,te,?_,rfl,t3,(Array.getElem?_setIfInBounds_ne (by decide)).trans c2⟩
   · rw [By _ _ (fun z:e = b => by rw [← z,hn] at q; cases q)]
     exact Af _ (b1 b o q)
   · obtain ⟨sl,q1⟩:=so.2.2 b o q
     exact ⟨_,nI e2 hd b _ (Af _ q1) nf,rfl⟩
   · rw [By _ _ te.symm]
     exact Ax g1 rfl
 · intro b o q nf
   obtain ⟨sl,q1⟩:=so.2.2 b o q
   exact ⟨sl,nI e2 hd b _ (Af _ q1) nf⟩
theorem aXZ {oe:Obj} {vs:Array Value} (hfr:A.frames = some (env :: outer)) (hl:s.heap.FunFrames B (env :: outer)) (hf:env.frame = some L) (hB:B.StaysIn s.heap) (hn:B.get? e = none)
   (he:s.heap.get? e = some oe) (hd:oe.data = .fields vs) (h1:vs[1]? = some .none) (c2:vs[2]? = some .none) (hQ:∀ h',Fly B (env :: outer) e oe.cls oe.dict (rawInt L) h' → s.heap.UpToSlots h' → Q () { s with heap:=h' }):wpAny M A (noteFrame (.ref e) env) Q E s:=by
 unfold noteFrame
 simp only [hf]
 refine Ae (Ei he hd h1 ?_)
 rw [if_neg (show ¬ ((Value.none != Value.none) = true) by decide)]
 exact qR hfr hl hf hB hn he hd (Cm.mp h1).1 c2 hQ
theorem uX (hfr:A.frames = some (env :: outer)) (hf:env.frame = some L) (F:Fly B (env :: outer) e cls d .none s.heap) (hQ:∀ h',Fly B (env :: outer) e cls d (rawInt L) h' → s.heap.UpToSlots h' → Q () { s with heap:=h' }) :
   wpAny M A (noteFrame (.ref e) env) Q E s:=by
 obtain ⟨hB,hn,hl,oe,vs,T,oT,ts,he,⟨rfl,rfl⟩,hd,h1,hT,hTe,gT,dT,t3,c2⟩:=F
 unfold noteFrame
 simp only [hf]
 refine Ae (Ei he hd h1 ?_)
 rw [if_pos (show (Value.ref T != Value.none) = true by simp)]
 refine Ae (Ei gT dT t3 ?_)
 rw [if_neg (show ¬ ((Value.none == rawInt L) = true) by simp [rawInt])]
 refine Ae (Gd gT dT (Cm.mp t3).1 ?_)
 have keep:∀ b,b ≠ T → (s.heap.update T (Obj.mapFields (·.setIfInBounds 3 Value.none))).get? b = s.heap.get? b:=fun b hb => By _ _ (Ne.symm hb)
 refine qR (s:={ s with heap:=s.heap.update T (Obj.mapFields (·.setIfInBounds 3 Value.none)) }) hfr (hl.of_keeps fun b o q nf => ⟨o,nI gT dT b o q nf,rfl⟩) hf
   (fun b o q => (keep b fun z => by rw [z,hT] at q; cases q).trans (hB b o q)) hn ((keep e hTe.symm).trans he) hd (Cm.mp h1).1 c2 fun h' F' up => hQ h' F' fun b o q nf => up b o (nI gT dT b o q nf) nf
theorem iD {fl:Value} (F:Fly B l e cls d fl s.heap) (hQ:∀ h',Fly B l e cls d .none h' → s.heap.UpToSlots h' → Q () { s with heap:=h' }):wpAny M A (setFlight (.ref e) none) Q E s:=by
 obtain ⟨hB,hn,hl,oe,vs,T,oT,ts,he,hc,hd,h1,hT,hTe,gT,dT,t3,c2⟩:=F
 have z3:3 < ts.size:=(Cm.mp t3).1
 unfold setFlight
 refine Ae (Ei he hd h1 ?_)
 rw [if_pos (show (Value.ref T != Value.none) = true by simp)]
 refine Gd gT dT z3 (hQ _ ?_ fun b o q nf => ⟨o.slots,nI gT dT b o q nf⟩)
 have dm:=Fw dT (·.setIfInBounds 3 Value.none)
 refine ⟨fun b o q => ?_,hn,hl.of_keeps fun b o q nf => ⟨o,nI gT dT b o q nf,rfl⟩,oe,vs,T,_,_,?_,hc,hd,h1,hT,hTe,Heap.get?_update_self _ gT (Obj.isFreed_of_fields dm),dm,by simp [z3],c2⟩
 · rw [By _ _ (fun z:T = b => by rw [← z,hT] at q; cases q)]
   exact hB b o q
 · rw [By _ _ hTe]
   exact he
theorem Fly.less {fl:Value} {h:Heap} (F:Fly B (env :: outer) e cls d fl h):Fly B outer e cls d fl h:=⟨F.stays,F.new,F.frames.2.2,F.on⟩
theorem zB {oe:Obj} {vs:Array Value} (hfr:A.frames = some (env :: outer)) (hl:s.heap.FunFrames B (env :: outer)) (hf:env.frame = some L) (hB:B.StaysIn s.heap) (hn:B.get? e = none)
   (he:s.heap.get? e = some oe) (hd:oe.data = .fields vs) (h1:vs[1]? = some .none) (c2:vs[2]? = some .none) (hQ:∀ h',Fly B outer e oe.cls oe.dict .none h' → s.heap.UpToSlots h' → Q () { s with heap:=h' }):wpAny M A (leaving env (.ref e)) Q E s:=by
 unfold leaving
 exact Ae (aXZ hfr hl hf hB hn he hd h1 c2 fun h1 F1 u1 => iD (s:={ s with heap:=h1 }) F1 fun h2 F2 u2 => hQ h2 F2.less (u1.trans u2))
theorem aX1 (hfr:A.frames = some (env :: outer)) (hf:env.frame = some L) (F:Fly B (env :: outer) e cls d .none s.heap) (hQ:∀ h',Fly B outer e cls d .none h' → s.heap.UpToSlots h' → Q () { s with heap:=h' }):wpAny M A (leaving env (.ref e)) Q E s:=by
 unfold leaving
 exact Ae (uX hfr hf F fun h1 F1 u1 => iD (s:={ s with heap:=h1 }) F1 fun h2 F2 u2 => hQ h2 F2.less (u1.trans u2))
end
end L2
set_option maxHeartbeats 4000000
namespace L2
open PySem PySem.Spec PyProof.Rows
structure UnB (fs:List Addr) (H H':Hp) (h B h':Heap):Prop where
 keep:∀ b o,h.get? b = some o → H b = none → b ∉ fs → B.get? b = some o
 slot:∀ b o,h.get? b = some o → H b = none → b ∈ fs → ∃ sl,h'.get? b = some { o with slots:=sl }
 free:∀ b o,h.get? b = some o → H b = none → H' b = none
 there:∀ b o,h.get? b = some o → b ∉ fs → ∃ o',B.get? b = some o'
 tups:∀ b xs,H b = some (.tup xs) → H' b = some (.tup xs)
 frzs:∀ b o u,H b = some (.frz o u) → H' b = some (.frz o u)
 tbls:∀ b ps,H b = some (.tbl ps) → ∃ more,H' b = some (.tbl (ps ++ more))
def CXr (P:Program) (w:World):CXT:=fun outer H s E e s' =>
 ∃ (ea:Addr) (cls:Value) (d:Option Addr) (B:Heap) (H':Hp),e = .ref ea ∧ s'.os = s.os ∧ AllBare s'.gens ∧ Fly B outer ea cls d .none s'.heap ∧ HOk P w H' B ∧ UnB (frs outer) H H' s.heap B s'.heap ∧ E cls d H'
theorem HOk.down {P:Program} {w:World} {H:Hp} {h B:Heap} (x:HOk P w H h) (k:∀ b o u,H b = some u → h.get? b = some o → B.get? b = some o):HOk P w H B:=fun a u e =>
 (x a u e).stay (fun b o hb q => by
   rcases hb with z | z
   · subst z; exact k b o u e q
   · exact k b o _ z q) (fun _ q => q) fun _ _ q => q
theorem ObjOk.get {P:Program} {w:World} {H:Hp} {h:Heap} {a:Addr} {o:HO} (x:ObjOk P w H h a o):∃ ob,h.get? a = some ob:=by
 cases o with
 | lst xs => obtain ⟨_,_,_,_,e⟩:=x; exact ⟨_,e⟩
 | tup xs => obtain ⟨_,_,_,ob,e,_⟩:=x; exact ⟨_,e⟩
 | dK kvs => obtain ⟨_,_,_,_,ob,_,_,e,_⟩:=x; exact ⟨_,e⟩
 | dT kvs => obtain ⟨_,_,_,_,ob,_,_,e,_⟩:=x; exact ⟨_,e⟩
 | set S n => obtain ⟨ob,_,_,_,e,_⟩:=x; exact ⟨_,e⟩
 | ins C dx fs => obtain ⟨_,_,_,e,_⟩:=x; exact ⟨_,e⟩
 | own y => exact x
 | xd fs => obtain ⟨_,⟨od,_,_,e,_⟩,_⟩:=x; exact ⟨_,e⟩
 | rng lo hi => obtain ⟨_,_,_,e⟩:=x; exact ⟨_,e⟩
 | frz ob u => exact ⟨_,x.1⟩
 | tbl ps => exact ⟨_,x⟩
 | met f y => exact ⟨_,x⟩
 | ext φ => exact x.2.1
theorem HOk.hole {P:Program} {w:World} {H:Hp} {h:Heap} {a:Addr} (x:HOk P w H h) (e:h.get? a = none):H a = none:=by
 cases q:H a with
 | none => rfl
 | some o =>
   obtain ⟨ob,z⟩:=(x a o q).get
   rw [e] at z
   cases z
theorem gF {env:Env} {outer:List Env} {L b:Addr} (hf:env.frame = some L) (h1:b ≠ L) (h2:b ∉ frs outer):b ∉ frs (env :: outer):=fun hm => by
 obtain ⟨e,he,q⟩:=De.mp hm
 rcases Ba.mp he with z | z
 · subst z
   rw [hf] at q
   exact h1 (Bs q).symm
 · exact h2 (De.mpr ⟨e,z,q⟩)
section
variable {P:Program} {w:World} {K:PySem.W.Frag} {mg:Str → Option Value} {base:Heap} {N:List Str} {qual:Str} {scope:Scope} {f:Addr} {cd:Value} {A:Around} {outer:List Env} {s₀:Shared} {H₀:Hp} {E:XK}
 {pins:List (Addr × Obj)} {σ:St} {H:Hp} {s:Shared}
theorem tZ {ea:Addr} {oe:Obj} {vs:Array Value} (I:Inv (fY (CXr P w) P w K mg base N qual scope f cd A outer s₀ H₀ E) pins σ H s) (he:s.heap.get? ea = some oe) (hd:oe.data = .fields vs) (h1:vs[1]? = some .none) (c2:vs[2]? = some .none) (hn:H ea = none) (h0:s₀.heap.get? ea = none)
   (q:E oe.cls oe.dict H):(fY (CXr P w) P w K mg base N qual scope f cd A outer s₀ H₀ E).xe (.ref ea) s:=by
 have hfr:=I.ok.frames
 have hst:=I.stack
 have hsf:=I.stkFree
 have hbase:=I.base
 have hlo:∀ b o,s₀.heap.get? b = some o → b ≠ s₀.heap.objs.size:=fun b o e => Bj (Aq e)
 have nea:∀ b o,s₀.heap.get? b = some o → b ≠ ea:=fun b o e z => by rw [z,h0] at e; cases e
 have hid:∀ b o,s.heap.get? b = some o → b ≠ ea → b ∉ frs (envOfC qual scope s₀.heap.objs.size f cd :: outer) → (PySem.W.hideAll s.heap (ea :: frs (envOfC qual scope s₀.heap.objs.size f cd :: outer))).get? b = some o:=fun b o e n1 n2 =>
   PySem.W.hideAll_get _ e fun hm => (Ba.mp hm).elim n1 n2
 refine zB (B:=PySem.W.hideAll s.heap (ea :: frs (envOfC qual scope s₀.heap.objs.size f cd :: outer))) hfr (PySem.W.funFrames_hide hst fun env he b hb => Ao _ (De.mpr ⟨env,he,hb⟩)) rfl (fun b o q => Ft _ q)
   (PySem.W.hideAll_none _ An) he hd h1 c2 fun h2 fl up => ?_
 refine ⟨ea,_,_,_,H,rfl,I.os,I.bare,fl,I.hok.down fun b o u e g => hid b o g (fun z => by rw [z,hn] at e; cases e) fun hm => ?_,⟨fun b o e n hb => ?_,fun b o e n hb => ?_,fun b o e n => hbase.free b o e n (by simp [fY]),fun b o e hb => ?_,hbase.tups,hbase.frzs,hbase.tbls⟩,q⟩
 · rw [hsf b hm] at e
   cases e
 · exact hid b o (hbase.keep b o e n hb (by simp [fY])) (nea b o e) (gF rfl (hlo b o e) hb)
 · obtain ⟨sl,q1⟩:=hbase.slot b o e n hb (by simp [fY])
   obtain ⟨_,o2,g2,nf⟩:=I.ok.funs.mem hb
   have e2:s₀.heap.get? b = some o2:=g2
   rw [e] at e2
   cases e2
   obtain ⟨sl2,q2⟩:=up b _ q1 nf
   exact ⟨sl2,q2⟩
 · obtain ⟨o',q1⟩:=hbase.there b o e (by simp [fY])
   exact ⟨o',hid b o' q1 (nea b o e) (gF rfl (hlo b o e) hb)⟩
theorem mY:mJ (CXr P w) (fY (CXr P w) P w K mg base N qual scope f cd A outer s₀ H₀ E) E:=by
 intro pins σ H s e s' I h
 obtain ⟨ea,cls,d,B,H',rfl,os,bare,fl,hok,un,q⟩:=h
 have hbase:=I.base
 have hlo:∀ b o,s₀.heap.get? b = some o → b ≠ s₀.heap.objs.size:=fun b o e => Bj (Aq e)
 refine aX1 I.ok.frames rfl fl fun h2 fl2 up => ?_
 have ns:∀ b o,s₀.heap.get? b = some o → b ∉ frs outer → b ∉ frs (envOfC qual scope s₀.heap.objs.size f cd :: outer):=fun b o e hb => gF rfl (hlo b o e) hb
 have ins:∀ b,b ∈ frs outer → b ∈ frs (envOfC qual scope s₀.heap.objs.size f cd :: outer):=fun b hb => by
   obtain ⟨e,he,q⟩:=De.mp hb
   exact De.mpr ⟨e,Ao _ he,q⟩
 refine ⟨ea,cls,d,B,H',rfl,os.trans I.os,bare,fl2,hok,⟨fun b o e n hb => ?_,fun b o e n hb => ?_,fun b o e n => ?_,fun b o e hb => ?_,fun b xs e => un.tups b xs (hbase.tups b xs e),fun b o u e => un.frzs b o u (hbase.frzs b o u e),fun b ps e => ?_⟩,q⟩
 · exact un.keep b o (hbase.keep b o e n hb (by simp [fY])) (hbase.free b o e n (by simp [fY])) (ns b o e hb)
 · obtain ⟨sl,q1⟩:=hbase.slot b o e n hb (by simp [fY])
   obtain ⟨sl1,q2⟩:=un.slot b _ q1 (hbase.free b o e n (by simp [fY])) (ins b hb)
   obtain ⟨_,o2,g2,nf⟩:=I.ok.funs.mem hb
   have e2:s₀.heap.get? b = some o2:=g2
   rw [e] at e2
   cases e2
   obtain ⟨sl2,q3⟩:=up b _ q2 nf
   exact ⟨sl2,q3⟩
 · obtain ⟨o',q1⟩:=hbase.there b o e (by simp [fY])
   exact un.free b o' q1 (hbase.free b o e n (by simp [fY]))
 · obtain ⟨o',q1⟩:=hbase.there b o e (by simp [fY])
   exact un.there b o' q1 (ns b o e hb)
 · obtain ⟨m1,e1⟩:=hbase.tbls b ps e
   obtain ⟨m2,e2⟩:=un.tbls b _ e1
   exact ⟨m1 ++ m2,by rw [e2,Array.append_assoc]⟩
end
theorem cQK {K:PySem.W.Frag} {h:Heap} {C:Addr} {bmB:List Value} {newId:String} (X:K.In h) (q:PySem.W.excIn K C bmB newId = true) :
   ∃ bm N nm qn bs hd sn sub ab col dd k0 k1 k2 k3 k5 mN,h.get? C = some (excClassObj nm qn C N bs bm hd sn sub ab col dd k0 k1 k2 k3 k5 newId) ∧ h.Ns N mN ∧ mN "__init__" = none ∧ OwnTail h bmB bm:=by
 unfold PySem.W.excIn at q
 split at q
 · rename_i dd c sl ho
   split at q
   · rename_i C1 bm k0 k1 k2 k3 n k5 hm hs
     obtain ⟨⟨⟨⟨⟨q1,q2⟩,q3⟩,q4⟩,q5⟩,q6⟩:((((C1 = C ∧ n = newId) ∧ c.hasDel = false) ∧ PySem.W.tailIn K bmB bm = true) ∧ PySem.W.nsOkIn K c.ns = true) ∧ PySem.W.nsIn K c.ns "__init__" = some none:=by
       simpa only [Bool.and_eq_true,beq_iff_eq,Bool.not_eq_true'] using q
     subst q1 q2
     obtain ⟨nm,bs,mro,ns,qn,hd,sn,sub,ab,col,del⟩:=c
     dsimp only at hm q3 q5 q6
     subst hm q3
     obtain rfl:sl = #[k0,k1,k2,k3,some (.builtin n),k5]:=by
       obtain ⟨l⟩:=sl
       have hs':l = _:=hs
       rw [hs']
     exact ⟨bm,ns,nm,qn,bs,hd,sn,sub,ab,col,dd,k0,k1,k2,k3,k5,_,X _ _ ho,.of_isNs (PySem.W.isNs_of_in X q5),PySem.W.nsMap_none_of_in X q5 q6,PySem.W.tail_of_in X q4⟩
   · cases q
 · cases q
def cJG (X:Cx) (E:XK):Prop:=∀ (pins:List (Addr × Obj)) (σ:St) (H:Hp) (s:Shared) (ea:Addr) (oe:Obj) (vs:Array Value),Inv X pins σ H s → s.heap.get? ea = some oe → oe.data = .fields vs → vs[1]? = some .none → vs[2]? = some .none → H ea = none → X.s₀.heap.get? ea = none →
 E oe.cls oe.dict H → X.xe (.ref ea) s
theorem nX {P:Program} {w:World} {K:PySem.W.Frag} {mg:Str → Option Value} {base:Heap} {N:List Str} {qual:Str} {scope:Scope} {f:Addr} {cd:Value} {A:Around} {outer:List Env} {s₀:Shared} {H₀:Hp} {E:XK} :
   cJG (fY (CXr P w) P w K mg base N qual scope f cd A outer s₀ H₀ E) E:=fun _ _ _ _ _ _ _ I he hd h1 c2 hn h0 q => tZ I he hd h1 c2 hn h0 q
section
variable {X:Cx} {E:XK} {x:Str} {C:Addr} {bmB:List Value} {B newId initId:String} {e:Expr} {es:List Expr} {ta:TA} {np cpos pos:Pos}
def bXE (C:Addr) (E:XK) (ta:TA):TS:=fun _ σ H => ta σ H fun vs H1 => vs.length ≤ sizeLine ∧ E (.ref C) none H1
theorem bQG (hR:cJG X E) (hex:X.ex = []) (hc:X.calm = true) (hg:Gl X x) (hm:X.mg x = some (.ref C)) (hx:PySem.W.excIn X.K C bmB newId = true) (FB:ExcBaseFacts B newId initId bmB) (ha:PA X (e :: es) ta)
   (hd:(x == ("__debug__" : Str)) = false:=by decide) (he:starEach (e :: es) X.env = (false,eval e X.env) :: starEach es X.env:=by rfl) (hpl:(backTo cpos (starEach es X.env)).any (·.1) = false:=by rfl) :
   PS X (.Raise (some (.Call (.Name x np) (e :: es) [] cpos)) none pos) (bXE C E ta):=by
 intro pins s σ H D I h
 obtain ⟨bm,N,nm,q,bs,hdct,sn,sub,ab,col,dd,k0,k1,k2,k3,k5,mN,hC,hN,hni,T⟩:=cQK I.ok.mod.kin hx
 refine wpAny_Raise_call_subT (C:=C) (N:=N) (bm:=bm) (nm:=nm) (q:=q) (bs:=bs) (hdct:=hdct) (sn:=sn) (sub:=sub) (ab:=ab) (col:=col) (dd:=dd) (k0:=k0) (k1:=k1) (k2:=k2) (k3:=k3) (k5:=k5)
   FB (mN:=mN) (T.hasType FB.hasBase) (I.ok.hd hc) (by rw [he]; show (false || (backTo cpos (starEach es X.env)).any (·.1)) = false; rw [hpl]; rfl) hni (iA I hg hm ⟨rfl,?_⟩ hd)
 have h1:=ha cpos pins s σ H _ I h
 rw [he] at h1 ⊢
 refine Calls.evalArgs_plain (thn h1 fun us s2 ⟨vs,H2,I2,r,q2⟩ => ⟨rfl,?_,I2.bk _ _ hC,hN.keeps I2.bk,T.keeps I2.bk,fun h' ea hx => ?_⟩)
 · show us.length ≤ sizeLine
   rw [← r.length]
   exact q2.1
 · obtain ⟨t,g,_,_⟩:=hx.there
   refine hR pins σ H2 { s2 with heap:=h' } ea _ _ (I2.kept (t':=s2.toks) hx.keeps) g rfl rfl rfl (I2.hok.hole hx.new) ?_ q2.2
   cases z:X.s₀.heap.get? ea with
   | none => rfl
   | some o =>
     obtain ⟨o',z'⟩:=I2.base.there ea o z (by rw [hex]; simp)
     rw [hx.new] at z'
     cases z'
end
abbrev Cx.tr (X:Cx) (pins:List (Addr × Obj)) (xe:Value → Shared → Prop):Cx:={ X with pn:=X.pn ++ pins,xe:=xe }
abbrev Cx.hnd (X:Cx) (pins:List (Addr × Obj)) (ea:Addr):Cx:={ X with A:=X.A.mark (some (.ref ea)),calm:=false,pn:=X.pn ++ pins,xe:=fun _ _ => False }
section
variable {X:Cx} {pins pins':List (Addr × Obj)} {σ:St} {H:Hp} {s:Shared} {xe:Value → Shared → Prop} {ea:Addr}
theorem Inv.tr (I:Inv X pins σ H s) (xe:Value → Shared → Prop):Inv (X.tr pins xe) [] σ H s :=
 ⟨⟨I.ok.mod,I.ok.kind,I.ok.glob,I.ok.blt,I.ok.above,I.ok.inj,I.ok.has,I.ok.cab,I.ok.hd,I.ok.frames,I.ok.stk,I.ok.exf,I.ok.bs,I.ok.bsz,I.ok.noex,I.ok.exfs,I.ok.funs,I.ok.frf⟩,I.os,I.bare,I.base,I.loc,I.cell,I.free,I.freeC,
   fun p hp => I.pin p (by rwa [Bk] at hp),I.hok,I.len⟩
theorem Inv.untr (I:Inv (X.tr pins xe) pins' σ H s):Inv X pins σ H s :=
 ⟨⟨I.ok.mod,I.ok.kind,I.ok.glob,I.ok.blt,I.ok.above,I.ok.inj,I.ok.has,I.ok.cab,I.ok.hd,I.ok.frames,I.ok.stk,I.ok.exf,I.ok.bs,I.ok.bsz,I.ok.noex,I.ok.exfs,I.ok.funs,I.ok.frf⟩,I.os,I.bare,I.base,I.loc,I.cell,I.free,I.freeC,
   fun p hp => I.pin p (Bt _ hp),I.hok,I.len⟩
theorem Inv.hnd (I:Inv X pins σ H s) (ea:Addr):Inv (X.hnd pins ea) [] σ H s :=
 ⟨⟨I.ok.mod,I.ok.kind,I.ok.glob,I.ok.blt,I.ok.above,I.ok.inj,I.ok.has,I.ok.cab,(fun z => nomatch z),I.ok.frames,I.ok.stk,I.ok.exf,I.ok.bs,I.ok.bsz,I.ok.noex,I.ok.exfs,I.ok.funs,I.ok.frf⟩,I.os,I.bare,I.base,I.loc,I.cell,I.free,I.freeC,
   fun p hp => I.pin p (by rwa [Bk] at hp),I.hok,I.len⟩
theorem Inv.unhnd (I:Inv (X.hnd pins ea) pins' σ H s) (ok:X.Ok):Inv X pins σ H s :=
 ⟨ok,I.os,I.bare,I.base,I.loc,I.cell,I.free,I.freeC,fun p hp => I.pin p (Bt _ hp),I.hok,I.len⟩
structure Fre (X:Cx) (pins:List (Addr × Obj)) (a:Addr):Prop where
 s0:X.s₀.heap.get? a = none
 loc:a ≠ X.env.locals
 cell:∀ x c,X.env.cells.lookup x = some c → c ≠ a
 pin:∀ p ∈ X.pn ++ pins,p.1 ≠ a
theorem Inv.adopt {a:Addr} {o:HO} (I:Inv X pins σ H s) (f:Fre X pins a) (hn:H a = none) (new:ObjOk X.prog X.w (upd H a o) s.heap a o):Inv X pins σ (upd H a o) s:=by
 have ne:∀ b u,H b = some u → b ≠ a:=fun b u e => bH e hn
 refine ⟨I.ok,I.os,I.bare,⟨I.base.keep,I.base.slot,fun b u e n hx => ?_,I.base.there,fun b xs e => ?_,fun b u v e => ?_,fun b ps e => ?_⟩,I.loc,I.cell,by rw [aI f.loc.symm]; exact I.free,fun x c e => by rw [aI (f.cell x c e)]; exact I.freeC x c e,fun p hp => ?_,fun b u e => ?_,I.len⟩
 · rw [aI (fun z => by rw [z,f.s0] at e; cases e)]
   exact I.base.free b u e n hx
 · have q:=I.base.tups b xs e
   rw [aI (ne b _ q)]; exact q
 · have q:=I.base.frzs b u v e
   rw [aI (ne b _ q)]; exact q
 · obtain ⟨m,q⟩:=I.base.tbls b ps e
   exact ⟨m,by rw [aI (ne b _ q)]; exact q⟩
 · obtain ⟨h1,h2,h3⟩:=I.pin p hp
   exact ⟨h1,by rw [aI (f.pin p hp)]; exact h2,h3⟩
 · by_cases hb:b = a
   · subst hb
     rw [aB] at e
     cases e
     exact new
   · rw [aI hb] at e
     exact (I.hok b u e).stay (fun c v _ q => q) (fun c q => by rw [aI (ne c _ q)]; exact q) fun c xs q => by rw [aI (ne c _ q)]; exact q
theorem Inv.unname {i:Nat} {n:Str} {h':Heap} {m:Str → Option Value} {v:Option Value} {t:Nat} (I:Inv X pins σ H s) (hN:X.N.Nodup) (hi:X.N[i]? = some n) (hm:s.heap.Ns X.env.locals m) (hl:X.env.scope.names.lookup n = some .local)
   (hn:h'.Ns X.env.locals (fun x => if x = n then v else m x)) (sb:Heap.SameBut X.env.locals s.heap h'):Inv X pins (σ.set i none) H { s with heap:=h',toks:=t }:=by
 have k:∀ b o,b ≠ X.env.locals → s.heap.get? b = some o → h'.get? b = some o:=fun b o hb e => (sb.2 b hb).trans e
 have nl:∀ b o,X.s₀.heap.get? b = some o → b ≠ X.env.locals:=fun b o e => Bj (Bd (Aq e) I.ok.above)
 have there:∀ b o,s.heap.get? b = some o → ∃ o',h'.get? b = some o':=fun b o e => by
   by_cases hb:b = X.env.locals
   · obtain ⟨o',_,_,q,_⟩:=hn
     exact ⟨o',by rw [hb]; exact q⟩
   · exact ⟨o,k b o hb e⟩
 obtain ⟨m1,hm1,hl1⟩:=id I.loc
 refine ⟨I.ok,I.os,I.bare,⟨fun b o e n hb hx => k b o (nl b o e) (I.base.keep b o e n hb hx),fun b o e n hb hx => ?_,I.base.free,fun b o e hx => ?_,I.base.tups,I.base.frzs,I.base.tbls⟩,⟨_,hn,fun j y u e1 e2 e3 => ?_⟩,fun x c e => ?_,I.free,I.freeC,fun p hp => ?_,fun b u e => ?_,by rw [Cg]; exact I.len⟩
 · obtain ⟨sl,q⟩:=I.base.slot b o e n hb hx
   exact ⟨sl,k b _ (nl b o e) q⟩
 · obtain ⟨o',q⟩:=I.base.there b o e hx
   exact there b o' q
 · have hji:j ≠ i:=fun z => by
     subst z
     rw [Cu (by rw [I.len]; exact (Ad.mp hi).1)] at e2
     cases e2
   rw [Cs (Ne.symm hji)] at e2
   have hyn:y ≠ n:=fun z => hji (oX hN e1 (by rw [z]; exact hi))
   obtain ⟨u',r,look⟩:=hl1 j y u e1 e2 e3
   have em:m1 = m:=by
     obtain ⟨o1,es1,ep1,g1,d1,_,f1⟩:=hm1
     obtain ⟨o2,es2,ep2,g2,d2,_,f2⟩:=hm
     rw [g1] at g2; cases g2
     rw [d1] at d2; cases d2
     funext z
     rw [← f1 z,f2 z]
   refine ⟨u',r,?_⟩
   rcases look with ⟨z1,z2⟩ | ⟨z1,c,z2,o,z3,z4⟩
   · exact .inl ⟨z1,by show (if y = n then v else m y) = _; rw [if_neg hyn,← em]; exact z2⟩
   · exact .inr ⟨z1,c,z2,o,k c o (I.cne y c z2) z3,z4⟩
 · obtain ⟨v',o,z1,z2⟩:=I.cell x c e
   exact ⟨v',o,k c o (I.cne x c e) z1,z2⟩
 · obtain ⟨h1,h2,h3,h4⟩:=I.pin p hp
   exact ⟨k _ _ h3 h1,h2,h3,h4⟩
 · refine (I.hok b u e).stay (fun c o hc q => k c o (fun z => ?_) q) (fun _ q => q) fun _ _ q => q
   have fr:=I.free
   rcases hc with z1 | z1
   · rw [← z1,z,fr] at e; cases e
   · rw [z,fr] at z1; cases z1
end
def mQ (ea:Addr) (cls:Value) (d:Option Addr):HO:=.ext fun h => ∃ oe vs,h.get? ea = some oe ∧ oe.cls = cls ∧ oe.dict = d ∧ oe.data = .fields vs
theorem Fly.obj {P:Program} {w:World} {B:Heap} {l:List Env} {ea:Addr} {cls fl:Value} {d:Option Addr} {h:Heap} {H:Hp} (F:Fly B l ea cls d fl h):ObjOk P w H h ea (mQ ea cls d):=by
 obtain ⟨oe,vs,T,oT,ts,he,hc,hd,_⟩:=F.on
 exact ⟨⟨oe,vs,he,hc.1,hc.2,hd⟩,⟨oe,he⟩,fun h1 h2 ⟨o,ws,g,q⟩ k => ⟨o,ws,k o g,q⟩⟩
def XS (X:Cx) (pins:List (Addr × Obj)) (R:Value → Option Addr → St → Hp → Prop):Value → Shared → Prop:=fun e s1 =>
 ∃ ea cls d B σ1 H1,e = .ref ea ∧ Fly B X.stack ea cls d .none s1.heap ∧ Fre X pins ea ∧ H1 ea = none ∧ (∀ h2,B.StaysIn h2 → s1.heap.UpToSlots h2 → Inv X pins σ1 H1 { s1 with heap:=h2 }) ∧ R cls d σ1 H1
def aJQ (CX:CXT) (X:Cx) (Es:St → XK):Prop:=∀ (pins:List (Addr × Obj)) (σ:St) (H:Hp) (s:Shared) (e:Value) (s':Shared),Inv X pins σ H s → CX X.stack H s (Es σ) e s' → X.xe e s'
theorem oV {X:Cx} {pins:List (Addr × Obj)} {R:Value → Option Addr → St → Hp → Prop} (hex:X.ex = []):aJQ (CXr X.prog X.w) (X.tr pins (XS X pins R)) (fun σ cls d H1 => R cls d σ H1):=by
 intro pins' σ H s e s1 I' h
 obtain ⟨ea,cls,d,B,H1,rfl,os,bare,F,hok,un,q⟩:=h
 have I:Inv X pins σ H s:=I'.untr
 have F:Fly B X.stack ea cls d .none s1.heap:=F
 have un:UnB (frs X.stack) H H1 s.heap B s1.heap:=un
 have nfs:ea ∉ frs X.stack:=fun hm => by
   obtain ⟨_,o,g,nf⟩:=F.frames.mem hm
   obtain ⟨oe,vs,T,oT,ts,he,hc,hd,_⟩:=F.on
   rw [g] at he; cases he
   exact nf vs hd
 have ne:∀ b o,s.heap.get? b = some o → b ≠ ea:=fun b o g z => by
   subst z
   obtain ⟨o',g'⟩:=un.there b o g nfs
   rw [F.new] at g'
   cases g'
 refine ⟨ea,cls,d,B,σ,H1,rfl,F,⟨?_,?_,fun x c z => ?_,fun p hp => ?_⟩,hok.hole F.new,fun h2 st up => ?_,q⟩
 · cases z:X.s₀.heap.get? ea with
   | none => rfl
   | some o =>
     obtain ⟨o',z'⟩:=I.base.there ea o z (by rw [hex]; simp)
     exact absurd rfl (ne ea o' z')
 · obtain ⟨m,⟨o,_,_,g,_⟩,_⟩:=I.loc
   exact (ne _ o g).symm
 · obtain ⟨v,o,g,_⟩:=I.cell x c z
   exact ne c o g
 · exact ne p.1 p.2 (I.pin p hp).1
 · have slot:∀ b o,s.heap.get? b = some o → b ∈ frs X.stack → ∃ sl,h2.get? b = some { o with slots:=sl }:=fun b o g hb => by
     obtain ⟨sl,g1⟩:=un.slot b o g (I.stkFree b hb) hb
     obtain ⟨_,o2,g2,nf⟩:=I.stack.mem hb
     rw [g] at g2; cases g2
     obtain ⟨sl2,g3⟩:=up b _ g1 nf
     exact ⟨sl2,g3⟩
   refine I.call' (s':={ s1 with heap:=h2 }) (ch:=[]) os ⟨fun b o g n hb _ => st b o (un.keep b o g n hb),fun b o g n hb _ => slot b o g hb,fun b o g n _ => un.free b o g n,fun b o g _ => ?_,un.tups,un.frzs,un.tbls⟩ (hok.kept fun b o g => st b o g) bare fun b hb => absurd hb (by simp)
   by_cases hb:b ∈ frs X.stack
   · obtain ⟨sl,g1⟩:=slot b o g hb
     exact ⟨_,g1⟩
   · obtain ⟨o',g1⟩:=un.there b o g hb
     exact ⟨o',st b o' g1⟩
section
variable {X:Cx} {CX:CXT} {k:Nat} {f:Addr} {fd:FuncData} {ps:List Str} {sp:Sp} {Es:St → XK} {x:Str} {p pos:Pos} {e:Expr} {es:List Expr} {t:TA}
def yF (sp:Sp) (Es:St → XK) (t:TA):TE:=fun σ H Q => t σ H fun vs H1 => sp vs H1 Q (Es σ)
theorem bQR (F:FnOk X.prog X.w X.K X.mg X.base CX k f fd ps sp) (hr:Room k X.A) (hg:Gl X x) (hm:X.mg x = some (.ref f)) (hk:PySem.W.keepIn X.K (.ref f) = true) (hb:Binds X.K fd ps []) (hx:aJQ CX X Es) (ha:PA X (e :: es) t)
   (hdb:(x == ("__debug__" : Str)) = false:=by decide) (he:starEach (e :: es) X.env = (false,eval e X.env) :: starEach es X.env:=by rfl) (hpl:(backTo pos (starEach es X.env)).any (·.1) = false:=by rfl) :
   PE X (.Call (.Name x p) (e :: es) [] pos) (yF sp Es t):=by
 intro pins s σ H Q I h
 refine Dz (iA I hg hm ?_ hdb)
 refine PySem.W.callWith_K (h₀:=X.base) I.ok.mod.kin hk (thn (ha pos pins s σ H _ I h) fun us s1 ⟨vs,H1,I1,r,q⟩ => ⟨I1.kIn,?_⟩) he hpl
 have hl:us.length = ps.length:=by rw [← r.length]; exact F.len _ _ _ _ q
 have hb1:=hb s1 us I1.kIn (by rw [Bk]; exact hl)
 rw [Bk] at hb1
 refine Fu (Eh (F.run X.A X.stack s1 H1 ⟨us,[]⟩ us vs Q (Es σ) hr I1.env0 hb1 r q) fun rs s' hq => ?_)
 cases rs with
 | error e => exact hx pins σ H1 s1 e s' I1 hq
 | ok fl =>
   cases fl with
   | ret u => exact I1.after hq
   | next => exact False.elim hq
   | brk => exact False.elim hq
   | cont => exact False.elim hq
end
def dX6 (K:PySem.W.Frag) (C:Addr) (i:Nat) (mk:(Value → Option Addr → St → Hp → Prop) → TS) (ts:TS):TS:=fun D σ H =>
 mk (fun cls d σ1 H1 => PySem.W.exmOne K cls (.ref C) = some true ∧ ∀ ea,H1 ea = none →
   ts { nx:=fun σ2 H2 => D.nx (σ2.set i none) H2,rt:=D.rt,bk:=fun σ2 H2 => D.bk (σ2.set i none) H2,ct:=fun σ2 H2 => D.ct (σ2.set i none) H2 } (σ1.set i (some (.ref ea))) (upd H1 ea (mQ ea cls d))) D σ H
section
variable {X:Cx} {pins:List (Addr × Obj)}
theorem SP.untr {xe:Value → Shared → Prop} {D:Ends} {f:Flow} {s':Shared} (h:SP (X.tr pins xe) [] D f s'):SP X pins D f s':=by
 cases f with
 | next => obtain ⟨σ',H',I,q⟩:=h; exact ⟨σ',H',I.untr,q⟩
 | brk => obtain ⟨σ',H',I,q⟩:=h; exact ⟨σ',H',I.untr,q⟩
 | cont => obtain ⟨σ',H',I,q⟩:=h; exact ⟨σ',H',I.untr,q⟩
 | ret u => obtain ⟨v,σ',H',I,r,q⟩:=h; exact ⟨v,σ',H',I.untr,r,q⟩
theorem aZ6 {body suite:List Stmt} {b0:Stmt} {x n:Str} {np hp pos:Pos} {i:Nat} {C:Addr} {mk:(Value → Option Addr → St → Hp → Prop) → TS} {ts:TS} (hstk:X.stack = X.env :: X.outer) (hfm:X.env.frame = some X.env.locals) (hex:X.ex = [])
   (hN:X.N.Nodup) (hi:X.N[i]? = some n) (hl:X.env.scope.names.lookup n = some .local) (hg:Gl X x) (hm:X.mg x = some (.ref C)) (hb:∀ pins R,PSs (X.tr pins (XS X pins R)) body (mk R)) (hs:∀ pins ea,PSs (X.hnd pins ea) (b0 :: suite) ts)
   (hd:(x == ("__debug__" : Str)) = false:=by decide):PS X (.Try body [.ExceptHandler (some (.Name x np)) (some n) (b0 :: suite) hp] [] [] pos) (dX6 X.K C i mk ts):=by
 intro pins s σ H D I h
 have hfr:X.A.frames = some (X.env :: X.outer):=by rw [← hstk]; exact I.ok.frames
 have hcls:(X.env.scope.kind == .class || (X.env.scope.kind == .module && X.env.locals != X.env.globals)) = false:=by rw [I.ok.kind]; rfl
 refine wpAny_Try_except (Cf (hb pins _ [] s σ H D (I.tr _) h) (fun f s1 q => ?_) fun e s1 q => ?_)
 · cases f with
   | next =>
     obtain ⟨σ',H',I',q⟩:=q.untr
     exact bO pins s1 σ' H' D I' q
   | brk => exact q.untr
   | cont => exact q.untr
   | ret u => exact q.untr
 · obtain ⟨ea,cls,d,B,σ1,H1,rfl,F,fre,hn,inv,hx,r⟩:=q
   rw [hstk] at F
   refine uX hfr hfm F fun h2 F2 u2 => iD (s:={ s1 with heap:=h2 }) F2 fun h3 F3 u3 => ?_
   have I3:=inv h3 F3.stays (u2.trans u3)
   refine wpAny_handleBy_cons (codeAny_handlers_test (iA (I3.hnd ea) hg hm ?_ hd)) (by intro q; cases q)
   obtain ⟨oe,vs,T,oT,tts,he,hc,_⟩:=id F3.on
   refine PySem.W.exm_one I3.kIn (hc.1 ▸ (PySem.W.Looks.ld he).andThen .now) hx _ _ _ _ (fun _ _ q => q) ?_
   refine codeAny_handlers_suite_as (iD (s:={ s1 with heap:=h3 }) F3 fun h4 F4 u4 => ?_)
   have I4:=(inv h4 F4.stays ((u2.trans u3).trans u4)).adopt (o:=mQ ea cls d) fre hn F4.obj
   refine oK I4 hN hi (.inl hl) (v:=.ref ea) rfl (fun s5 I5 => ?_) (.inr hl)
   refine Cf (hs pins ea [] s5 _ _ _ (I5.hnd ea) (r ea hn)) (fun f s6 q => ?_) fun _ _ z => z.elim
   have go:∀ {σ2:St} {H2:Hp} {Q:Unit → Shared → Prop} {E:Value → Shared → Prop},Inv (X.hnd pins ea) [] σ2 H2 s6 → (∀ s7,Inv X pins (σ2.set i none) H2 s7 → Q () s7) →
       wpAny (model X.prog X.w) X.A (do bindName X.env n .none; unbindBehindTheSuite X.env n hp) Q E s6:=fun {σ2 H2 Q E} I6 k => by
     have I6':=I6.unhnd I.ok
     obtain ⟨m,hm6,_⟩:=id I6'.loc
     exact wpAny_nameGoes_keeps hl hm6 hcls fun h7 v hn7 sb => k _ (I6'.unname hN hi hm6 hl hn7 sb)
   cases f with
   | next =>
     obtain ⟨σ2,H2,I6,q⟩:=q
     exact go I6 fun s7 I7 => ⟨_,H2,I7,q⟩
   | brk =>
     obtain ⟨σ2,H2,I6,q⟩:=q
     exact go I6 fun s7 I7 => ⟨_,H2,I7,q⟩
   | cont =>
     obtain ⟨σ2,H2,I6,q⟩:=q
     exact go I6 fun s7 I7 => ⟨_,H2,I7,q⟩
   | ret u =>
     obtain ⟨v,σ2,H2,I6,rv,q⟩:=q
     exact go I6 fun s7 I7 => ⟨v,_,H2,I7,rv,q⟩
theorem SP.unhnd {ea:Addr} {D:Ends} {f:Flow} {s':Shared} (ok:X.Ok) (h:SP (X.hnd pins ea) [] D f s'):SP X pins D f s':=by
 cases f with
 | next => obtain ⟨σ',H',I,q⟩:=h; exact ⟨σ',H',I.unhnd ok,q⟩
 | brk => obtain ⟨σ',H',I,q⟩:=h; exact ⟨σ',H',I.unhnd ok,q⟩
 | cont => obtain ⟨σ',H',I,q⟩:=h; exact ⟨σ',H',I.unhnd ok,q⟩
 | ret u => obtain ⟨v,σ',H',I,r,q⟩:=h; exact ⟨v,σ',H',I.unhnd ok,r,q⟩
end
end L2
set_option maxHeartbeats 4000000
namespace L2
open PySem PySem.Spec PyProof.Rows PySem.W
structure ExK (K:Frag) (D:Addr):Prop where
 cls:hasDictIn K D = true
 ga:findIn K (.ref D) "__getattribute__" = some (some (.builtin "BaseException.__getattribute__"))
 gh:findIn K (.ref D) "__getattr__" = some none
 ca:findIn K (.ref D) "__class__" = some (some (.builtin "object.__class__"))
 cg:specialIn K (.builtin "object.__class__") "__get__" = some (some (.builtin "getset_descriptor.__get__"))
 ct:takesIn K (.builtin "object.__class__") = some true
 mo:mroIn K D (.type "object") = some true
 mb:PySem.W.subIn K (.ref D) (.type "BaseException") = some true
section
variable {prog:Program} {w:World} {A:Around} {E:Value → Shared → Prop} {s:Shared} {K:Frag} {x D:Addr} {ox:Obj} {od:Option Obj}
theorem aXM {M:Model} {nm:Value} {Q:Unit → Shared → Prop} (Z:ExK K D) (X:K.In s.heap) (I:InstAt s.heap x ox D od) (hq:Q () s):wpAny M A (checkBuiltinCall "BaseException.__getattribute__" ⟨[.ref x,nm],[]⟩) Q E s:=by
 have hk:builtinKind "BaseException.__getattribute__" = some .slot:=by decide +kernel
 have hs:splitId "BaseException.__getattribute__" = some ("BaseException", "__getattribute__"):=by decide +kernel
 have L0:=I.type (M:=M)
 have L1:=looks_subIn (M:=M) X Z.mb
 have ha:=F.args_bexc_ga (.ref x) nm
 simp only [checkBuiltinCall,hk,hs]
 refine Ae ((L0.andThen L1).at ?_)
 rw [if_neg (show ¬ ((!true) = true) by decide)]
 exact wpAny_of_eq ha hq
end
section
variable {K:PySem.W.Frag} {H:Hp} {Q:VK} {ea D tp:Addr} {c:V} {cs:List V} {cv:Value} {cvs:List Value} {b:Bool}
theorem bZ8 {C:Addr} {E:XK} {ta:TA} {D:Ends} {σ:St} (h:ta σ H fun vs H1 => vs.length ≤ sizeLine ∧ E (.ref C) none H1):bXE C E ta D σ H:=h
theorem cQF {sp:Sp} {Es:St → XK} {t:TA} {σ:St} (h:t σ H fun vs H1 => sp vs H1 Q (Es σ)):yF sp Es t σ H Q:=h
end
def tV (P:Program) (w:World) (K:PySem.W.Frag) (mg:Str → Option Value) (base:Heap) (k:Nat) (x:Str) (ps:List Str) (sp:Sp):Prop :=
 ∃ (f:Addr) (fd:FuncData),FnOk P w K mg base (CXr P w) k f fd ps sp ∧ mg x = some (.ref f) ∧ PySem.W.keepIn K (.ref f) = true ∧ Binds K fd ps []
section
variable {X:Cx} {k k':Nat} {ps:List Str} {sp:Sp} {x:Str} {p pos:Pos} {e:Expr} {es:List Expr} {t:TA} {E:XK} {Es:St → XK}
theorem nV (c:tV X.prog X.w X.K X.mg X.base k x ps sp) (hx:mJ (CXr X.prog X.w) X E) (hr:Room k' X.A) (hk:k ≤ k') (hg:Gl X x)
   (ha:PA X (e :: es) t) (hdb:(x == ("__debug__" : Str)) = false:=by decide) (he:starEach (e :: es) X.env = (false,eval e X.env) :: starEach es X.env:=by rfl) (hpl:(backTo pos (starEach es X.env)).any (·.1) = false:=by rfl) :
   PE X (.Call (.Name x p) (e :: es) [] pos) (aQN sp [] E t):=by
 obtain ⟨f,fd,F,hm,hk',hb⟩:=c
 exact aQM F (hr.mono hk) hg hm hk' hb .nil hx ha hdb he hpl
theorem aQV (c:tV X.prog X.w X.K X.mg X.base k x ps sp) (hx:aJQ (CXr X.prog X.w) X Es) (hr:Room k' X.A) (hk:k ≤ k') (hg:Gl X x)
   (ha:PA X (e :: es) t) (hdb:(x == ("__debug__" : Str)) = false:=by decide) (he:starEach (e :: es) X.env = (false,eval e X.env) :: starEach es X.env:=by rfl) (hpl:(backTo pos (starEach es X.env)).any (·.1) = false:=by rfl) :
   PE X (.Call (.Name x p) (e :: es) [] pos) (yF sp Es t):=by
 obtain ⟨f,fd,F,hm,hk',hb⟩:=c
 exact bQR F (hr.mono hk) hg hm hk' hb hx ha hdb he hpl
theorem aZK:mJ (CXr X.prog X.w) X E0:=fun _ _ _ _ _ _ _ h => by
 obtain ⟨_,_,_,_,_,_,_,_,_,_,_,z⟩:=h
 exact z.elim
theorem PS.nox {st:Stmt} {t:TS} (h:PS X.nox st t):PS X st t:=fun pins s σ H D I hw =>
 Cf (h pins s σ H D (I.wish _) hw) (fun _ _ q => q.unwish) fun _ _ z => False.elim z
end
section
variable {P:Program} {w:World} {K:PySem.W.Frag} {mg:Str → Option Value} {base:Heap}
theorem Fun.okX {x qual:Str} {st:Stmt} {f:Addr} {fd:FuncData} {N ps:List Str} {k:Nat} {sp:Sp} (F:Fun K x qual st f fd) (S:FnScope N ps (aG st)) (len:∀ vs H Q E,sp vs H Q E → vs.length = ps.length)
   (hbody:∀ (cdv:Value) (A:Around) (outer:List Env) (s:Shared) (H:Hp) (vs:List V) (Q:VK) (E:XK),Room k (A.deeper (envOfC qual (aG st) s.heap.objs.size f cdv)) → sp vs H Q E →
     ∃ t,PSs (fY (CXr P w) P w K mg base N qual (aG st) f cdv A outer s H E) (aR st) t ∧ t { nx:=fun _ H' => Q .non H',rt:=Q } (lS N vs) H):FnOk P w K mg base (CXr P w) (k + 1) f fd ps sp:=by
 obtain ⟨oc,od,kV,doc,pm,an,cdv,ct,osl,rfl,lk,hcd⟩:=F.ex
 exact cQ3 lk hcd S len fun A outer s H vs Q E hr hsp => hbody cdv A outer s H vs Q E hr hsp
end
theorem dZF {K:PySem.W.Frag} {C:Addr} {i:Nat} {mk:(Value → Option Addr → St → Hp → Prop) → TS} {ts:TS} {D:Ends} {σ:St} {H:Hp}
   (h:mk (fun cls d σ1 H1 => PySem.W.exmOne K cls (.ref C) = some true ∧ ∀ ea,H1 ea = none → ts { nx:=fun σ2 H2 => D.nx (σ2.set i none) H2,rt:=D.rt,bk:=fun σ2 H2 => D.bk (σ2.set i none) H2,ct:=fun σ2 H2 => D.ct (σ2.set i none) H2 } (σ1.set i (some (.ref ea))) (upd H1 ea (mQ ea cls d))) D σ H):dX6 K C i mk ts D σ H:=h
end L2
set_option maxHeartbeats 4000000
namespace L2
open PySem PySem.Spec PyProof.Rows
def Itz (K:PySem.W.Frag) (a b:Addr):It :=
 ⟨fun i H => ∃ xs ys x y,SqL K H a xs ∧ SqL K H b ys ∧ xs[i]? = some x ∧ ys[i]? = some y,fun i H v H' => ∃ p x y,H p = none ∧ v = .ref p ∧ H' = upd H p (.tup [x,y]) ∧ (∀ xs,SqL K H a xs → xs[i]? = some x) ∧ (∀ ys,SqL K H b ys → ys[i]? = some y),
   fun i H => ∃ xs ys,SqL K H a xs ∧ SqL K H b ys ∧ (xs.length ≤ i ∨ ys.length ≤ i)⟩
structure ZipOf (z TI TO i1 i2:Addr):Prop where
 d1:TI ≠ z
 d2:TO ≠ z
 d3:i1 ≠ z
 d4:i2 ≠ z
 d5:TI ≠ TO
 d6:TI ≠ i1
 d7:TI ≠ i2
 d8:TO ≠ i1
 d9:TO ≠ i2
 d0:i1 ≠ i2
theorem iR {h:Heap} {a b:Addr} {o u:Obj} (ha:h.get? a = some o) (hb:h.get? b = some u) {S T:String} (hs:o.cls = .type S) (ht:u.cls = .type T) (n:S ≠ T):a ≠ b:=fun z => by
 subst z
 rw [ha] at hb; cases hb
 rw [hs] at ht; injection ht with ht; exact n ht
theorem qW {h:Heap} {z TI TO i1 i2 a b:Addr} {f0 p q:Value} {k1 k2:Nat} {xs ys:Array Value} (D:ZipOf z TI TO i1 i2) (hz:IsZip h z TI TO f0) (hO:IsPair h TO p q) (h1:h.IsListIter i1 a k1) (h2:h.IsListIter i2 b k2) (ha:h.IsList a xs) (hb:h.IsList b ys):ZipApart z TI TO i1 i2 a b:=by
 obtain ⟨o1,g1,c1,_⟩:=h1
 obtain ⟨o2,g2,c2,_⟩:=h2
 obtain ⟨oa,ga,ca,_⟩:=ha
 obtain ⟨ob,gb,cb,_⟩:=hb
 exact ⟨D.d1,D.d2,D.d3,D.d4,D.d5,D.d6,D.d7,D.d8,D.d9,D.d0,iR ga hz ca rfl (by decide),iR ga hO ca rfl (by decide),iR ga g1 ca c1 (by decide),iR ga g2 ca c2 (by decide),iR gb hz cb rfl (by decide),iR gb hO cb rfl (by decide),iR gb g1 cb c1 (by decide),iR gb g2 cb c2 (by decide)⟩
theorem aJ9 {P:Program} {w:World} {K:PySem.W.Frag} {elts:List Expr} {x1:Nat} {tp:Pos} (a b z TI TO i1 i2:Addr) (D:ZipOf z TI TO i1 i2) :
   Turn P w K (.Tuple elts x1 tp) (Itz K a b) [z,TI,TO,i1,i2] z (fun i h => IsZip h z TI TO .none ∧ IsPair h TI (.ref i1) (.ref i2) ∧ (∃ p q,IsPair h TO p q) ∧ h.IsListIter i1 a i ∧ h.IsListIter i2 b i) where
 mem:=by simp
 obj:=fun i h st c hc => by
   obtain ⟨hz,hI,⟨p,q,hO⟩,⟨o1,g1,_,e1⟩,o2,g2,_,e2⟩:=st
   simp only [List.mem_cons,List.not_mem_nil,or_false] at hc
   rcases hc with z | z | z | z | z <;> subst z
   · exact ⟨_,hz,fun v z => by cases z⟩
   · exact ⟨_,hI,fun v z => by cases z⟩
   · exact ⟨_,hO,fun v z => by cases z⟩
   · exact ⟨o1,g1,fun v z => by rw [e1] at z; cases z⟩
   · exact ⟨o2,g2,fun v z => by rw [e2] at z; cases z⟩
 keep:=fun i h h' st kk => by
   obtain ⟨hz,hI,⟨p,q,hO⟩,g1,g2⟩:=st
   exact ⟨kk z (by simp) _ hz,kk TI (by simp) _ hI,⟨p,q,kk TO (by simp) _ hO⟩,g1.at fun o e => kk i1 (by simp) o e,g2.at fun o e => kk i2 (by simp) o e⟩
 item:=by
   intro X hP hw hK hc i pins s σ H E I hf st hg
   subst hP hw hK
   obtain ⟨xs,ys,x,y,qa,qb,hx,hy⟩:=hg
   obtain ⟨us,ra,pa,_⟩:=I.list qa
   obtain ⟨vs,rb,pb,_⟩:=I.list qb
   obtain ⟨u,hu,ru⟩:=ra.get hx
   obtain ⟨v,hv,rv⟩:=rb.get hy
   obtain ⟨hz,hI,⟨p,q,hO⟩,g1,g2⟩:=st
   have D2:=qW D hz hO g1 g2 pa.isList pb.isList
   have fr:∀ c o,s.heap.get? c = some o → s.heap.objs.size ≠ c:=fun c o e => Fz (Aq e)
   refine wpAny_pyNext_zip_item D2 hz hI hO g1 g2 pa.isList pb.isList (x:=u) (y:=v) (by simpa using hu) (by simpa using hv) fun h1 a1 a2 a3 a4 a5 a6 kk => ?_
   refine ⟨_,rfl,wpAny_letOwnedTupleGo_zip a1 fun h2 z2 sb => ?_⟩
   have up:∀ c o,c ≠ z → h1.get? c = some o → h2.get? c = some o:=fun c o n e => (sb.2 c n).trans e
   have I2:Inv X pins σ (upd H s.heap.objs.size (.tup [x,y])) { s with heap:=h2 }:=by
     refine I.turnLaid (t':=s.toks) (ch:=[z,TI,TO,i1,i2]) hf (fun c o n e => ?_) (Ah _) ⟨bI (by show 2 ≤ _; omega),[u,v],.cons ru (.cons rv .nil),_,up _ _ (fr z _ hz) a5,rfl,_,rfl⟩
     simp only [List.mem_cons,List.not_mem_nil,or_false,not_or] at n
     exact up c o n.1 (kk c o n.1 n.2.2.1 n.2.2.2.1 n.2.2.2.2 e)
   refine ⟨.ref s.heap.objs.size,_,I2,rfl,⟨_,x,y,I.hok.fresh (Ah _),rfl,rfl,fun zs hq => by rw [I.list_inj hq qa]; exact hx,fun zs hq => by rw [I.list_inj hq qb]; exact hy⟩,
     ⟨z2,up _ _ D.d1 (kk _ _ D.d1 D.d5 D.d6 D.d7 hI),⟨_,_,up _ _ D.d2 a2⟩,a3.at fun o e => up _ o D.d3 e,a4.at fun o e => up _ o D.d4 e⟩,fun c hc => ?_⟩
   have hn:=(hf c hc).1
   rw [aI]
   · exact hn
   · obtain ⟨o1,e1,_⟩:=g1
     obtain ⟨o2,e2,_⟩:=g2
     simp only [List.mem_cons,List.not_mem_nil,or_false] at hc
     rcases hc with z | z | z | z | z <;> subst z
     · exact (fr _ _ hz).symm
     · exact (fr _ _ hI).symm
     · exact (fr _ _ hO).symm
     · exact (fr _ _ e1).symm
     · exact (fr _ _ e2).symm
 done:=by
   intro X hP hw hK hc i pins s σ H E I hf st hg
   subst hP hw hK
   obtain ⟨xs,ys,qa,qb,hl⟩:=hg
   obtain ⟨us,ra,pa,_⟩:=I.list qa
   obtain ⟨vs,rb,pb,_⟩:=I.list qb
   have e1:=ra.length
   have e2:=rb.length
   obtain ⟨hz,hI,⟨p,q,hO⟩,g1,g2⟩:=st
   refine wpAny_pyNext_zip_end (I.ok.hd hc) (qW D hz hO g1 g2 pa.isList pb.isList) hz hI hO g1 g2 pa.isList pb.isList ?_ fun h' kk => ⟨rfl,?_⟩
   · rcases hl with z | z
     · exact .inl (by simp; omega)
     · exact .inr (by simp; omega)
   · refine I.turnAll (t':=s.toks) (ch:=[z,TI,TO,i1,i2]) hf fun c o n e => ?_
     simp only [List.mem_cons,List.not_mem_nil,or_false,not_or] at n
     exact kk c o n.1 n.2.2.1 n.2.2.2.1 n.2.2.2.2 e
 self:=fun _ _ _ _ _ st h => wpAny_pyIter_zip st.1 h
theorem aJ0:bootBuiltins "zip" = some (.type "zip"):=by decide +kernel
section
variable {X:Cx} {l1 l2:Expr} {ta:TA} {elts:List Expr} {x1:Nat} {tp p pos:Pos}
def aJI (R:Addr → Addr → Hp → Prop):List V → Hp → Prop:=fun vs H => match vs with | [.ref i,.ref j] => R i j H | _ => False
theorem bZ6 {R:Addr → Addr → Hp → Prop} {vs:List V} {H:Hp} (q:aJI R vs H):∃ i j,vs = [.ref i,.ref j] ∧ R i j H:=by
 unfold aJI at q
 split at q
 · exact ⟨_,_,rfl,q⟩
 · exact q.elim
def dZA (K:PySem.W.Frag) (ta:TA):TI:=fun σ H R => ta σ H (aJI fun a b H1 => onL (rdL H1 a) (onL (rdL H1 b) (R (Itz K a b) H1)))
theorem bXF (hg:Gl X "zip") (hm:X.mg "zip" = none) (ha:PA X [l1,l2] ta) (hs:starEach [l1,l2] X.env = [(false,eval l1 X.env),(false,eval l2 X.env)]:=by rfl) (hs2:starEach [l2] X.env = [(false,eval l2 X.env)]:=by rfl) :
   PI X (.Tuple elts x1 tp) (.Call (.Name "zip" p) [l1,l2] [] pos) (dZA X.K ta):=by
 intro pins s σ H R I h
 refine Call_ (lC I hg hm aJ0 (Dj (thn (ha pos pins s σ H _ I h) fun us s1 ⟨vs,H1,I1,r1,q1⟩ => ?_) (by rw [hs,hs2]) (by rw [hs2]; rfl)))
 obtain ⟨a,b,rfl,q⟩:=bZ6 q1
 obtain ⟨u,u2,rfl,ru,ru2⟩:=aQ5 r1
 cases ru
 cases ru2
 unfold onL at q
 split at q
 · rename_i xs ex
   split at q
   · rename_i ys ey
     obtain ⟨us,ra,pa,_⟩:=I1.list (aW ex)
     obtain ⟨vs,rb,pb,_⟩:=I1.list (aW ey)
     refine call_zip_2 pa.isList pb.isList fun h' hz hI hO g1 g2 hsz hk => ?_
     refine wpAny_pyIter_zip (s:={ s1 with heap:=h' }) hz ⟨_,[s1.heap.objs.size + 4,s1.heap.objs.size + 2,s1.heap.objs.size + 3,s1.heap.objs.size,s1.heap.objs.size + 1],_,_,H1,rfl,I1.kept (t':=s1.toks) hk,
       aJ9 a b _ _ _ _ _ ⟨by simp,by simp,by simp,by simp,by simp,by simp,by simp,by simp,by simp,by simp⟩,⟨hz,hI,⟨_,_,hO⟩,g1,g2⟩,fun c hc => ?_,q⟩
     have z:s1.heap.objs.size ≤ c:=by
       simp only [List.mem_cons,List.not_mem_nil,or_false] at hc
       rcases hc with z | z | z | z | z <;> (rw [z]; first | exact Ah _ | exact Nat.le_add_right _ _)
     exact I1.fpOk z (I1.hok.fresh z)
   · exact q.elim
 · exact q.elim
end
section
variable {K:PySem.W.Frag} {a b:Addr} {xs ys:List V} {g:TG} {tb:TS} {D:Ends} {σ:St} {H:Hp}
theorem bXI (Pv:Nat → St → Hp → Prop) (h0:Pv 0 σ H) (hl:∀ i σ H,i ≤ xs.length → i ≤ ys.length → Pv i σ H → rdL H a = some xs ∧ rdL H b = some ys)
   (hs:∀ i x y σ H p,xs[i]? = some x → ys[i]? = some y → Pv i σ H → H p = none → g (.ref p) σ (upd H p (.tup [x,y])) fun σ2 H2 => tb { D with nx:=Pv (i + 1),ct:=Pv (i + 1),bk:=D.nx } σ2 H2)
   (hd:∀ σ H,Pv (min xs.length ys.length) σ H → D.nx σ H):qF (Itz K a b) g tb D σ H:=by
 refine ⟨fun i m σ H => m = min xs.length ys.length - i ∧ i ≤ min xs.length ys.length ∧ Pv i σ H,⟨min xs.length ys.length,by simp,Nat.zero_le _,h0⟩,?_⟩
 rintro i m σ H ⟨rfl,hi,p⟩
 obtain ⟨hr1,hr2⟩:=hl i σ H (by omega) (by omega) p
 by_cases hlt:i < min xs.length ys.length
 · refine .inr ⟨⟨xs,ys,xs[i]'(by omega),ys[i]'(by omega),aW hr1,aW hr2,Aa _,Aa _⟩,Pv (i + 1),fun σ' H' p' => ⟨min xs.length ys.length - (i + 1),by omega,rfl,hlt,p'⟩,fun x H' y => ?_⟩
   obtain ⟨q,x1,y1,hq,rfl,rfl,hx,hy⟩:=y
   exact hs i x1 y1 σ H q (hx xs (aW hr1)) (hy ys (aW hr2)) p hq
 · have e:i = min xs.length ys.length:=by omega
   subst e
   exact .inl ⟨⟨xs,ys,aW hr1,aW hr2,by omega⟩,hd σ H p⟩
theorem cX2 {ta:TA} {R:It → Hp → Prop} (h:ta σ H (aJI fun a b H1 => onL (rdL H1 a) (onL (rdL H1 b) (R (Itz K a b) H1)))):dZA K ta σ H R:=h
theorem cZD {R:Addr → Addr → Hp → Prop} (h:R a b H):aJI R [.ref a,.ref b] H:=h
end
end L2
set_option maxHeartbeats 4000000
namespace L2
open PySem PySem.Spec PyProof.Rows
section
variable {X:Cx} {o e:Expr} {es:List Expr} {to:TE} {t:TA} {name:Str} {apos cpos:Pos} {T id:String} {r:V → List V → Hp → VK → Prop}
def cQB:V → List V → Hp → VK → Prop:=fun x vs H Q => match x,vs with
 | .ref l,[.ref b] => (match hZ H l,hZ H b with | some xs,some zs => xs.length + zs.length ≤ sizeLine ∧ Q .non (upd H l (.lst (xs ++ zs))) | _,_ => False)
 | _,_ => False
theorem uY:MtR X "list.extend" cQB:=MtR.imp (r:=zP) aXO fun _ _ _ _ q => by
 unfold cQB at q
 split at q
 · split at q
   · exact ⟨_,_,_,_,rfl,rfl,jR (by assumption),jR (by assumption),q.1,q.2⟩
   · exact q.elim
 · exact q.elim
end
section
variable {σ:St} {H:Hp} {Q:VK} {l b:Addr} {xs zs:List V} {y:V} {i:Int} {k:Nat} {to:TE} {T:String} {r:V → List V → Hp → VK → Prop}
theorem cQS (e:hZ H l = some xs) (e':hZ H b = some zs) (c:xs.length + zs.length ≤ sizeLine) (h:Q .non (upd H l (.lst (xs ++ zs)))):cQB (.ref l) [.ref b] H Q:=by unfold cQB; simp only [e,e']; exact ⟨c,h⟩
end
end L2
set_option maxHeartbeats 4000000
namespace L2
open PySem PySem.Spec PyProof.Rows
theorem cJ2 {t u:TS} {D:Ends} {σ:St} {H:Hp} (Pj:St → Hp → Prop) (hj:∀ σ' H',Pj σ' H' → u D σ' H') (h:∀ N:St → Hp → Prop,(∀ σ' H',Pj σ' H' → N σ' H') → t { D with nx:=N } σ H):cJQ t u D σ H:=h (u D) hj
theorem none_of {H H':Hp} {r:Addr} (s:Same H H') (h:H' r = none):H r = none:=by
 cases e:H r with
 | none => rfl
 | some o => rw [s _ _ e] at h; cases h
theorem aY {H H':Hp} {p:Addr} {o:HO} (hp:H p = none) (s:Same H H'):Same H (upd H' p o):=fun b u q => by rw [aI (bH q hp)]; exact s b u q
section
variable {g:TG} {tests:TT} {te:TE} {σ0:St} {Q:VK} {H1:Hp}
theorem gJ {J:It} {n:Nat} (R:Addr → Nat → List V → Hp → Prop) (hl:n < sizeLine) (h0:∀ D,H1 D = none → R D 0 [] (upd H1 D (.lst [])))
   (hgo:∀ D i ys Hc,H1 D = none → R D i ys Hc → i < n → J.go i Hc) (hst:∀ D ys Hc,H1 D = none → R D n ys Hc → J.stop n Hc)
   (hs:∀ D i ys Hc x H' (A:VK) (B:Hp → Prop),H1 D = none → i < n → R D i ys Hc → Hc D = some (.lst ys) → J.yld i Hc x H' →
     (∀ y H4,H4 D = some (.lst ys) → R D (i + 1) (ys ++ [y]) (upd H4 D (.lst (ys ++ [y]))) → A y H4) → (∀ H3,H3 D = some (.lst ys) → R D (i + 1) ys H3 → B H3) →
     g x σ0 H' fun σ2 H2 => Wk σ0 σ2 ∧ tests σ2 H2 fun b H3 => if b = true then te σ2 H3 A else B H3)
   (fin:∀ D ys Hc,H1 D = none → R D n ys Hc → Hc D = some (.lst ys) → ys.length ≤ n → Q (.ref D) Hc):eT g tests te σ0 Q J H1:=by
 intro D hD
 refine ⟨fun i m Hc => m = n - i ∧ i ≤ n ∧ ∃ ys,ys.length ≤ i ∧ Hc D = some (.lst ys) ∧ R D i ys Hc,⟨n,by simp,Nat.zero_le _,[],Nat.le_refl _,aB,h0 D hD⟩,?_⟩
 rintro i m Hc ⟨rfl,hi,ys,hy,hDc,r⟩
 by_cases hlt:i < n
 · refine .inr ⟨hgo D i ys Hc hD r hlt,fun x H' y => hs D i ys Hc x H' _ _ hD hlt r hDc y (fun z H4 e r4 => ?_) (fun H3 e r3 => ?_)⟩
   · exact ⟨ys,e,by omega,n - (i + 1),by omega,rfl,hlt,ys ++ [z],by rw [Aj]; show ys.length + 1 ≤ _; omega,aB,r4⟩
   · exact ⟨n - (i + 1),by omega,rfl,hlt,ys,by omega,e,r3⟩
 · have e:i = n:=by omega
   subst e
   exact .inl ⟨hst D ys Hc hD r,fin D ys Hc hD r hDc hy⟩
def Tups (H1 Hc:Hp) (ps:List Addr) (fs:List (List V)):Prop:=ps.length = fs.length ∧ ∀ (j:Nat) p t,ps[j]? = some p → fs[j]? = some t → H1 p = none ∧ Hc p = some (.tup t)
theorem Tups.keep {H1 Hc Hd:Hp} {ps:List Addr} {fs:List (List V)} (t:Tups H1 Hc ps fs) (s:Same Hc Hd):Tups H1 Hd ps fs:=⟨t.1,fun j p u hp hu => ⟨(t.2 j p u hp hu).1,s _ _ (t.2 j p u hp hu).2⟩⟩
theorem Tups.older {H0 H1 Hc:Hp} {ps:List Addr} {fs:List (List V)} (t:Tups H1 Hc ps fs) (s:Same H0 H1):Tups H0 Hc ps fs:=⟨t.1,fun j p u hp hu => ⟨none_of s (t.2 j p u hp hu).1,(t.2 j p u hp hu).2⟩⟩
theorem Tups.put {H1 Hc:Hp} {ps:List Addr} {fs:List (List V)} {D:Addr} {ys zs:List V} (t:Tups H1 Hc ps fs) (h:Hc D = some (.lst ys)):Tups H1 (upd Hc D (.lst zs)) ps fs:=⟨t.1,fun j p u hp hu => by
 obtain ⟨a,b⟩:=t.2 j p u hp hu
 refine ⟨a,?_⟩
 rw [aI fun z => by rw [z,h] at b; cases b]
 exact b⟩
theorem Tups.app {H1 Hc:Hp} {ps qs:List Addr} {fs gs:List (List V)} (t:Tups H1 Hc ps fs) (u:Tups H1 Hc qs gs):Tups H1 Hc (ps ++ qs) (fs ++ gs):=by
 refine ⟨by rw [Aj,Aj,t.1,u.1],fun j p v hp hv => ?_⟩
 by_cases h:j < ps.length
 · rw [Au h] at hp
   rw [Au (by rw [← t.1]; exact h)] at hv
   exact t.2 j p v hp hv
 · rw [Ay (by omega)] at hp
   rw [Ay (by rw [← t.1]; omega),← t.1] at hv
   exact u.2 _ p v hp hv
theorem Tups.nil {H1 Hc:Hp}:Tups H1 Hc [] []:=⟨rfl,fun j p u hp => by cases hp⟩
theorem Tups.one {H1 Hc:Hp} {p:Addr} {t:List V} (a:H1 p = none) (b:Hc p = some (.tup t)):Tups H1 Hc [p] [t]:=⟨rfl,fun j q u hq hu => by
 cases j with
 | zero => cases hq; cases hu; exact ⟨a,b⟩
 | succ j => cases hq⟩
theorem aZD {n:Nat} {lo:Int} (f:Nat → List V) (hl:n < sizeLine)
   (hs:∀ (i:Nat) Hc (A:VK) (B:Hp → Prop),i < n → Same H1 Hc → (∀ p Hd,Hc p = none → Same Hc Hd → Hd p = some (.tup (f i)) → A (.ref p) Hd) →
     g (.int (lo + i)) σ0 Hc fun σ2 H2 => Wk σ0 σ2 ∧ tests σ2 H2 fun b H3 => if b = true then te σ2 H3 A else B H3)
   (fin:∀ D Hd ps,H1 D = none → Same H1 Hd → Hd D = some (.lst (ps.map V.ref)) → ps.length = n → Tups H1 Hd ps ((List.range n).map f) → Q (.ref D) Hd):eT g tests te σ0 Q (Itr lo n) H1:=by
 refine gJ (n:=n) (fun D i ys Hc => Same H1 Hc ∧ ∃ ps,ys = ps.map V.ref ∧ ps.length = i ∧ Tups H1 Hc ps ((List.range i).map f)) hl (fun D hD => ⟨aE hD _,[],rfl,rfl,.nil⟩) (fun D i ys Hc _ r h => h) (fun D ys Hc _ r => Ah n) ?_ ?_
 · rintro D i ys Hc x H' A B hD hi ⟨sm,ps,rfl,hn,tp⟩ hDc ⟨rfl,rfl⟩ ha hb
   refine hs i H' A B hi sm (fun p Hd hp sd hd => ?_)
   refine ha _ _ (sd _ _ hDc) ⟨aY hD (sm.trans sd),ps ++ [p],by rw [Ak]; rfl,by rw [Aj,hn]; rfl,?_⟩
   rw [Cb,Ak]
   exact ((tp.keep sd).app (.one (none_of sm hp) hd)).put (sd _ _ hDc)
 · rintro D ys Hc hD ⟨sm,ps,rfl,hn,tp⟩ hDc _
   exact fin D Hc ps hD sm hDc hn tp
end
end L2
set_option maxHeartbeats 4000000
namespace L2
open PySem PySem.Spec PyProof.Rows
section
variable {X:Cx} {tg a b c:Expr} {p pos:Pos}
end
section
variable {K:PySem.W.Frag} {c:Addr} {xs:List V} {lo st:Int} {n:Nat} {g:TG} {tb:TS} {D:Ends} {σ:St} {H:Hp} {tA:TA} {R:It → Hp → Prop} {i j k:Int}
end
def Alk (H:Hp):Nat → V → V → Prop
 | 0,x,y => x = y ∧ bW x = true
 | n + 1,x,y => (x = y ∧ bW x = true) ∨ ∃ p q xs ys,x = .ref p ∧ y = .ref q ∧ ((rdL H p = some xs ∧ rdL H q = some ys) ∨ (kC H p = some xs ∧ kC H q = some ys)) ∧ xs.length = ys.length ∧ ∀ (j:Nat) x' y',xs[j]? = some x' → ys[j]? = some y' → Alk H n x' y'
theorem Alk.flat {H:Hp} {n:Nat} {x:V} (h:bW x = true):Alk H n x x:=by
 cases n with
 | zero => exact ⟨rfl,h⟩
 | succ n => exact .inl ⟨rfl,h⟩
theorem Alk.lst {H:Hp} {n:Nat} {p q:Addr} {xs ys:List V} (hp:rdL H p = some xs) (hq:rdL H q = some ys) (hl:xs.length = ys.length) (h:∀ (j:Nat) x y,xs[j]? = some x → ys[j]? = some y → Alk H n x y):Alk H (n + 1) (.ref p) (.ref q):=.inr ⟨p,q,xs,ys,rfl,rfl,.inl ⟨hp,hq⟩,hl,h⟩
theorem Alk.tup {H:Hp} {n:Nat} {p q:Addr} {xs ys:List V} (hp:kC H p = some xs) (hq:kC H q = some ys) (hl:xs.length = ys.length) (h:∀ (j:Nat) x y,xs[j]? = some x → ys[j]? = some y → Alk H n x y):Alk H (n + 1) (.ref p) (.ref q):=.inr ⟨p,q,xs,ys,rfl,rfl,.inr ⟨hp,hq⟩,hl,h⟩
theorem Alk.flats {H:Hp} {n:Nat} {xs:List V} (f:xs.all bW = true):∀ (j:Nat) x y,xs[j]? = some x → xs[j]? = some y → Alk H n x y:=fun j x y hx hy => by
 rw [hx] at hy
 cases hy
 exact .flat (Eu.mp f x (Ai hx))
theorem Alk.tups {H H1 H2:Hp} {n:Nat} {ps qs:List Addr} {fs:List (List V)} (tp:Tups H1 H ps fs) (tq:Tups H2 H qs fs) (f:∀ t ∈ fs,t.all bW = true):∀ (j:Nat) x y,(ps.map V.ref)[j]? = some x → (qs.map V.ref)[j]? = some y → Alk H (n + 1) x y:=fun j x y hx hy => by
 rw [Ag] at hx hy
 cases ep:ps[j]? with
 | none => rw [ep] at hx; cases hx
 | some p =>
   cases eq:qs[j]? with
   | none => rw [eq] at hy; cases hy
   | some q =>
     rw [ep] at hx
     rw [eq] at hy
     cases hx
     cases hy
     have hj:j < fs.length:=by rw [← tp.1]; exact (Ad.mp ep).1
     have a:=(tp.2 j p fs[j] ep (Aa hj)).2
     have b:=(tq.2 j q fs[j] eq (Aa hj)).2
     exact .tup (jY a) (jY b) rfl (.flats (f _ (Br _)))
theorem pH {x:V} (h:bW x = true):eqV x x = true:=by
 cases x <;> first | rfl | (simp [eqV]; done) | (cases h; done)
section
variable {X:Cx}
end
def Lsts (H1 Hc:Hp) (ps:List Addr) (fs:List (List V)):Prop:=ps.length = fs.length ∧ ∀ (j:Nat) p t,ps[j]? = some p → fs[j]? = some t → H1 p = none ∧ Hc p = some (.lst t)
theorem Lsts.keep {H1 Hc Hd:Hp} {ps:List Addr} {fs:List (List V)} (t:Lsts H1 Hc ps fs) (s:Same Hc Hd):Lsts H1 Hd ps fs:=⟨t.1,fun j p u hp hu => ⟨(t.2 j p u hp hu).1,s _ _ (t.2 j p u hp hu).2⟩⟩
theorem Lsts.older {H0 H1 Hc:Hp} {ps:List Addr} {fs:List (List V)} (t:Lsts H1 Hc ps fs) (s:Same H0 H1):Lsts H0 Hc ps fs:=⟨t.1,fun j p u hp hu => ⟨none_of s (t.2 j p u hp hu).1,(t.2 j p u hp hu).2⟩⟩
theorem Lsts.put {H1 Hc:Hp} {ps:List Addr} {fs:List (List V)} {D:Addr} {o:HO} (t:Lsts H1 Hc ps fs) (h:∀ p ∈ ps,p ≠ D):Lsts H1 (upd Hc D o) ps fs:=⟨t.1,fun j p u hp hu => by
 obtain ⟨a,b⟩:=t.2 j p u hp hu
 refine ⟨a,?_⟩
 rw [aI (h p (Ai hp))]
 exact b⟩
theorem Lsts.snoc {H1 Hc:Hp} {ps:List Addr} {fs:List (List V)} {q:Addr} {g:List V} (t:Lsts H1 Hc ps fs) (a:H1 q = none) (b:Hc q = some (.lst g)):Lsts H1 Hc (ps ++ [q]) (fs ++ [g]):=by
 refine ⟨by rw [Aj,Aj,t.1]; rfl,fun j p v hp hv => ?_⟩
 by_cases h:j < ps.length
 · rw [Au h] at hp
   rw [Au (by rw [← t.1]; exact h)] at hv
   exact t.2 j p v hp hv
 · rw [Ay (by omega)] at hp
   rw [Ay (by rw [← t.1]; omega),← t.1] at hv
   cases e:j - ps.length with
   | zero => rw [e] at hp hv; cases hp; cases hv; exact ⟨a,b⟩
   | succ n => rw [e] at hp; cases hp
theorem Lsts.nil {H1 Hc:Hp}:Lsts H1 Hc [] []:=⟨rfl,fun j p u hp => by cases hp⟩
theorem Lsts.mem {H1 Hc:Hp} {ps:List Addr} {fs:List (List V)} (t:Lsts H1 Hc ps fs) {p:Addr} (hp:p ∈ ps):∃ g ∈ fs,H1 p = none ∧ Hc p = some (.lst g):=by
 obtain ⟨j,hj⟩:=Ec.mp hp
 have hl:j < fs.length:=by rw [← t.1]; exact (Ad.mp hj).1
 exact ⟨fs[j],Br _,t.2 j p _ hj (Aa hl)⟩
section
variable {X:Cx}
theorem jE (ns:List Int):∀ n,n ≤ ns.length → preSum (fun i => ns.getD i 0) n = (ns.take n).sum
 | 0,_ => by simp [preSum]
 | n + 1,h => by
   have ih:=jE ns n (by omega)
   have e:ns.take (n + 1) = ns.take n ++ [ns.getD n 0]:=by rw [Aw,Ac,Aa (by omega)]; rfl
   rw [e,List.sum_append,← ih]
   simp [preSum]
theorem aQ8 {ns:List Int} (h:∀ n ∈ ns,0 ≤ n ∧ n ≤ 1000000):0 ≤ ns.sum ∧ ns.sum ≤ 1000000 * (ns.length:Int):=by
 induction ns with
 | nil => simp
 | cons n r ih =>
   obtain ⟨a,b⟩:=h n (An ..)
   obtain ⟨c,d⟩:=ih fun m hm => h m (Ao _ hm)
   rw [Cp,Az]
   constructor
   · omega
   · push_cast; omega
def dXL:List V → Hp → VK → Prop:=fun xs H Q => ∃ (p:Addr) (ns:List Int),xs = [.ref p] ∧ rdL H p = some (ns.map V.int) ∧ (∀ n ∈ ns,0 ≤ n ∧ n ≤ 1000000) ∧ ns.length ≤ 100000 ∧ Q (.int ns.sum) H
theorem dQ0 (hc:X.calm = true):CallR X (.builtin "sum") dXL:=by
 intro pins s σ H xs us Q I r h
 obtain ⟨p,ns,rfl,hp,hb,hn,q⟩:=h
 obtain ⟨u,rfl,ru⟩:=fI r
 cases ru
 obtain ⟨its,rv,pl,hz⟩:=I.list (aW hp)
 have hl:=pl.isList
 have hlt:p < s.heap.objs.size:=by obtain ⟨_,e,_⟩:=hl; exact Aq e
 have hle:its.length = ns.length:=by have:=rv.length; rw [Ab] at this; omega
 refine call_sum_walk (Fe hl ?_)
 refine ⟨s.heap.objs.size,[s.heap.objs.size,p],[s.heap.objs.size],its.toArray.size,_,_,fun i => ns.getD i 0,rfl,Walks.list (A:=X.A.in1) (I.ok.hd hc) _ p (Bj hlt) its.toArray,
   ⟨⟨_,Ax _ rfl,rfl,rfl⟩,hl.push _⟩,fun b hb => ?_,fun i v hv => ?_,fun j hj => ?_,fun h' tk t' hk => ?_⟩
 · rw [show ({ s with heap:=_ }:Shared).heap = _ from rfl]
   simp only [List.mem_cons,List.not_mem_nil,or_false] at hb
   rcases hb with e | e
   · rw [e]; simp [Heap.push]
   · rw [e]; exact Nat.lt_of_lt_of_le hlt (by simp [Heap.push])
 · have hv':its[i]? = some v:=by simpa using hv
   have hi:i < ns.length:=by rw [← hle]; exact (Ad.mp hv').1
   obtain ⟨u,hu,ru⟩:=rv.get (show (ns.map V.int)[i]? = some (.int ns[i]) by rw [Ag,Aa hi]; rfl)
   rw [hv'] at hu
   cases hu
   obtain ⟨t,rfl⟩:=ru
   exact ⟨t,by show Value.int ns[i] t = Value.int (ns.getD i 0) t; rw [Ac,Aa hi]; rfl⟩
 · have hj' : j < ns.length := by have : j < its.length := by simpa using hj
                                  omega
   have e:=jE ns (j + 1) (by omega)
   obtain ⟨a1,a2⟩:=aQ8 (ns:=ns.take (j + 1)) fun m hm => hb m (List.mem_of_mem_take hm)
   rw [Bl] at a2
   have a3:ns.getD j 0 ∈ ns:=by rw [Ac,Aa hj']; exact Br _
   obtain ⟨b1,b2⟩:=hb _ a3
   refine ⟨?_,?_⟩
   · show InLong (ns.getD j 0)
     unfold InLong
     omega
   · rw [e]
     unfold InLong
     omega
 · have e:preSum (fun i => ns.getD i 0) its.toArray.size = ns.sum:=by
     rw [Bo,hle,jE ns _ (Ah _),Bh]
   rw [e]
   exact ⟨.int ns.sum,H,I.kept (LSm.kept_iter hk),⟨_,rfl⟩,q⟩
theorem dQF {p:Addr} {ns:List Int} {H:Hp} {Q:VK} (e:rdL H p = some (ns.map V.int)) (hb:∀ n ∈ ns,0 ≤ n ∧ n ≤ 1000000) (hl:ns.length ≤ 100000) (h:Q (.int ns.sum) H):dXL [.ref p] H Q:=⟨p,ns,rfl,e,hb,hl,h⟩
end
end L2
set_option maxHeartbeats 4000000
namespace L2
open PySem PySem.Spec PyProof.Rows
section
variable {κ:Type} [DecidableEq κ]
def bR (kvs:List (κ × V)) (k:κ):Option V:=(kvs.find? fun kv => decide (kv.1 = k)).map (·.2)
def cP (kvs:List (κ × V)) (k:κ) (v:V):List (κ × V) :=
 if (kvs.any fun kv => decide (kv.1 = k)) = true then kvs.map (fun kv => if kv.1 = k then (kv.1,v) else kv) else kvs ++ [(k,v)]
def cXB (kvs:List (κ × V)) (k:κ):List (κ × V):=kvs.filter fun kv => decide (kv.1 ≠ k)
theorem bZ {p:κ × V} {r:List (κ × V)} {k:κ} (e:p.1 = k):bR (p :: r) k = some p.2:=by simp [bR,List.find?_cons,e]
theorem bU {p:κ × V} {r:List (κ × V)} {k:κ} (e:¬ p.1 = k):bR (p :: r) k = bR r k:=by simp [bR,List.find?_cons,e]
theorem dM (k:κ):∀ kvs:List (κ × V),(kvs.any fun kv => decide (kv.1 = k)) = (bR kvs k).isSome
 | [] => rfl
 | p :: r => by
   rw [Gj]
   by_cases e:p.1 = k
   · simp only [bZ e,decide_eq_true e,Bool.true_or,Option.isSome_some]
   · rw [bU e,Av e,Gk]; exact dM k r
theorem vW (k j:κ) (y:V):∀ kvs:List (κ × V),bR (kvs.map fun kv => if kv.1 = k then (kv.1,y) else kv) j = (bR kvs j).map fun x => if j = k then y else x
 | [] => rfl
 | p :: r => by
   have ih:=vW k j y r
   rw [Ap]
   by_cases h:p.1 = k
   · rw [if_pos h]
     by_cases e:p.1 = j
     · rw [bZ (p:=(p.1,y)) e,bZ e,Du,if_pos (e.symm.trans h)]
     · rw [bU (p:=(p.1,y)) e,bU e,ih]
   · rw [if_neg h]
     by_cases e:p.1 = j
     · rw [bZ (p:=p) e,bZ e,Du,if_neg (fun z => h (e.trans z))]
     · rw [bU (p:=p) e,bU e,ih]
theorem sC (k j:κ) (y:V):∀ kvs:List (κ × V),bR kvs k = none → bR (kvs ++ [(k,y)]) j = if j = k then some y else bR kvs j
 | [],_ => by
   by_cases e:k = j
   · rw [if_pos e.symm]; exact bZ (p:=(k,y)) e
   · rw [if_neg (fun z => e z.symm)]; exact bU (p:=(k,y)) e
 | p :: r,hn => by
   rw [List.cons_append]
   have hk:¬ p.1 = k:=fun z => by rw [bZ z] at hn; cases hn
   rw [bU hk] at hn
   have ih:=sC k j y r hn
   by_cases e:p.1 = j
   · rw [bZ e,bZ e,if_neg (fun z => hk (e.trans z))]
   · rw [bU e,bU e,ih]
theorem aJM (kvs:List (κ × V)) (k j:κ) (y:V):bR (cP kvs k y) j = if j = k then some y else bR kvs j:=by
 unfold cP
 by_cases a:(kvs.any fun kv => decide (kv.1 = k)) = true
 · rw [if_pos a,vW]
   rw [dM] at a
   by_cases e:j = k
   · obtain ⟨x,hx⟩:=Ek.mp a
     rw [if_pos e,e,hx,Du,if_pos rfl]
   · rw [if_neg e]
     cases bR kvs j with
     | none => rfl
     | some x => rw [Du,if_neg e]
 · rw [if_neg a]
   refine sC k j y kvs ?_
   rw [dM] at a
   cases q:bR kvs k with
   | none => rfl
   | some x => rw [q] at a; exact (a rfl).elim
theorem dY (kvs:List (κ × V)) (k:κ) (v:V):(cP kvs k v).length ≤ kvs.length + 1:=by
 unfold cP
 split
 · rw [Ab]; omega
 · rw [Aj,Az,List.length_nil]; omega
theorem gZ {kvs:List (κ × V)} {k:κ} (v:V) (h:bR kvs k = none):cP kvs k v = kvs ++ [(k,v)]:=by
 unfold cP
 rw [dM,h]
 exact if_neg (by decide)
theorem RelO.isSome_eq {o:Option V} {u:Option Value} (r:RelO o u):o.isSome = u.isSome:=by
 cases o with
 | none => cases u with
   | none => rfl
   | some _ => exact (show False from r).elim
 | some _ => cases u with
   | none => exact (show False from r).elim
   | some _ => rfl
theorem RelO.getD {o:Option V} {u:Option Value} {d:V} {d':Value} (r:RelO o u) (rd:RelV d d'):RelV (o.getD d) (u.getD d'):=by
 cases o with
 | none => cases u with
   | none => exact rd
   | some _ => exact (show False from r).elim
 | some _ => cases u with
   | none => exact (show False from r).elim
   | some _ => exact r
theorem KV.val {kvs:List (κ × V)} {vs:List (κ × Value)} (r:KV kvs vs) (k:κ):RelO (bR kvs k) (valueAt vs k):=by
 unfold KV at r
 induction r with
 | nil => exact True.intro
 | @cons p q ps qs h t ih =>
   obtain ⟨h1,h2⟩:=h
   by_cases e:p.1 = k
   · have e':q.1 = k:=h1.symm.trans e
     have b:valueAt (q :: qs) k = some q.2:=by simp [valueAt,List.find?_cons,e']
     rw [bZ e,b]; exact h2
   · have e':¬ q.1 = k:=fun z => e (h1.trans z)
     have b:valueAt (q :: qs) k = valueAt qs k:=by simp [valueAt,List.find?_cons,e']
     rw [bU e,b]; exact ih
theorem KV.any {kvs:List (κ × V)} {vs:List (κ × Value)} (r:KV kvs vs) (k:κ):(kvs.any fun kv => decide (kv.1 = k)) = vs.any fun kv => decide (kv.1 = k):=by
 unfold KV at r
 induction r with
 | nil => rfl
 | cons h t ih => rw [Gj,Gj,ih,h.1]
theorem KV.repl {kvs:List (κ × V)} {vs:List (κ × Value)} (r:KV kvs vs) (k:κ) {y:V} {u:Value} (ry:RelV y u) :
   KV (kvs.map fun kv => if kv.1 = k then (kv.1,y) else kv) (vs.map fun kv => if kv.1 = k then (kv.1,u) else kv):=by
 unfold KV at r ⊢
 induction r with
 | nil => exact .nil
 | @cons p q ps qs h t ih =>
   rw [Ap,Ap]
   refine .cons ?_ ih
   obtain ⟨h1,h2⟩:=h
   by_cases e:p.1 = k
   · rw [if_pos e,if_pos (h1.symm.trans e)]; exact ⟨h1,ry⟩
   · rw [if_neg e,if_neg (fun z => e (h1.trans z))]; exact ⟨h1,h2⟩
theorem KV.put {kvs:List (κ × V)} {vs:List (κ × Value)} (r:KV kvs vs) (k:κ) {y:V} {u:Value} (ry:RelV y u):KV (cP kvs k y) (stored vs k u):=by
 unfold cP stored
 rw [r.any k]
 by_cases e:(vs.any fun kv => decide (kv.1 = k)) = true
 · rw [if_pos e,if_pos e]; exact r.repl k ry
 · rw [if_neg e,if_neg e]; exact Paired.snoc r ⟨rfl,ry⟩
theorem KV.drop {kvs:List (κ × V)} {vs:List (κ × Value)} (r:KV kvs vs) (k:κ):KV (cXB kvs k) (without vs k):=by
 unfold KV at r ⊢
 unfold cXB without
 induction r with
 | nil => exact .nil
 | @cons p q ps qs h t ih =>
   obtain ⟨h1,h2⟩:=h
   rw [Fn,Fn]
   by_cases e:p.1 = k
   · have a:¬ decide (p.1 ≠ k) = true:=by simp [e]
     have b:¬ decide (q.1 ≠ k) = true:=by simp [h1.symm.trans e]
     rw [if_neg a,if_neg b]; exact ih
   · have e':¬ q.1 = k:=fun z => e (h1.trans z)
     have a:decide (p.1 ≠ k) = true:=by simp [e]
     have b:decide (q.1 ≠ k) = true:=by simp [e']
     rw [if_pos a,if_pos b]; exact .cons ⟨h1,h2⟩ ih
theorem KV.keys {kvs:List (κ × V)} {vs:List (κ × Value)} (r:KV kvs vs):kvs.map (·.1) = vs.map (·.1):=by
 unfold KV at r
 induction r with
 | nil => rfl
 | cons h t ih => rw [Ap,Ap,ih,h.1]
theorem KV.length {kvs:List (κ × V)} {vs:List (κ × Value)} (r:KV kvs vs):kvs.length = vs.length:=Paired.length r
end
theorem nF {P:Program} {w:World} {k:Key} {u:Value} (r:RelV (kV k) u):(aZ P w).is k u = true:=by
 cases k with
 | inl i => obtain ⟨t,e⟩:=(show ∃ t,u = Value.int i t from r); subst e; exact wJ P w i t
 | inr x => obtain ⟨t,e⟩:=(show ∃ t,u = Value.str x t from r); subst e; exact vD P w x t
theorem rO {P:Program} {w:World}:∀ {ks:List Key} {us:List Value},Vals (ks.map kV) us → ItemsAre (aZ P w) ks us
 | [],_,r => by rw [Fm] at r; cases r; exact .nil
 | k :: ks,_,r => by
   rw [Ap] at r
   cases r with
   | cons h t => exact .cons (nF h) (rO t)
abbrev KT (H:Hp):List (List Key × V) → List (List Key × Addr × Value) → Prop:=Paired fun p q => p.1 = q.1 ∧ H q.2.1 = some (.tup (p.1.map kV)) ∧ RelV p.2 q.2.2
theorem KT.val {H:Hp} {kvs:List (List Key × V)} {xs:List (List Key × Addr × Value)} (r:KT H kvs xs) (k:List Key):RelO (bR kvs k) ((atKey xs k).map (·.2)):=by
 induction r with
 | nil => exact True.intro
 | @cons p q ps qs h t ih =>
   obtain ⟨h1,_,h2⟩:=h
   by_cases e:p.1 = k
   · have e':q.1 = k:=h1.symm.trans e
     have b:atKey (q :: qs) k = some q.2:=by simp [atKey,List.find?_cons,e']
     rw [bZ e,b]; exact h2
   · have e':¬ q.1 = k:=fun z => e (h1.trans z)
     have b:atKey (q :: qs) k = atKey qs k:=by simp [atKey,List.find?_cons,e']
     rw [bU e,b]; exact ih
theorem KT.repl {H:Hp} {kvs:List (List Key × V)} {xs:List (List Key × Addr × Value)} (r:KT H kvs xs) (k:List Key) {y:V} {u:Value} (ry:RelV y u) :
   KT H (kvs.map fun kv => if kv.1 = k then (kv.1,y) else kv) (xs.map (putAt k u)):=by
 induction r with
 | nil => exact .nil
 | @cons p q ps qs h t ih =>
   rw [Ap,Ap]
   refine .cons ?_ ih
   obtain ⟨h1,h2,h3⟩:=h
   unfold putAt
   by_cases e:p.1 = k
   · rw [if_pos e,if_pos (h1.symm.trans e)]; exact ⟨h1,h2,ry⟩
   · rw [if_neg e,if_neg (fun z => e (h1.trans z))]; exact ⟨h1,h2,h3⟩
theorem KT.put {H:Hp} {kvs:List (List Key × V)} {xs:List (List Key × Addr × Value)} (r:KT H kvs xs) (k:List Key) {b:Addr} {y:V} {u:Value} (hb:H b = some (.tup (k.map kV))) (ry:RelV y u) :
   KT H (cP kvs k y) (storedH xs k b u):=by
 have e:(kvs.any fun kv => decide (kv.1 = k)) = (atKey xs k).isSome:=by
   rw [dM,(r.val k).isSome_eq,Option.isSome_map]
 unfold cP storedH
 rw [e]
 by_cases q:(atKey xs k).isSome = true
 · rw [if_pos q,if_pos q]; exact r.repl k ry
 · rw [if_neg q,if_neg q]; exact Paired.snoc r ⟨rfl,hb,ry⟩
theorem KT.keeps {H H':Hp} {kvs:List (List Key × V)} {xs:List (List Key × Addr × Value)} (r:KT H kvs xs) (ht:∀ b ys,H b = some (.tup ys) → H' b = some (.tup ys)):KT H' kvs xs :=
 Paired.mapP r fun _ _ z => ⟨z.1,ht _ _ z.2.1,z.2.2⟩
section
variable {P:Program} {w:World} {H:Hp} {h:Heap} {a:Addr}
theorem cQ1 {u:HO} (ok:HOk P w H h) (e:Rd H a u):ObjOk P w H h a u:=e.ok ok
theorem iM {kvs:List (Key × V)} (ok:HOk P w H h) (e:Rd H a (.dK kvs)):kvs.length ≤ sizeLine ∧ (a == sysModules) = false ∧ ∃ vs,KV kvs vs ∧ h.DictOf (aZ P w) a vs :=
 show ObjOk P w H h a (.dK kvs) from cQ1 ok e
theorem aJZ {kvs:List (Key × V)} (ok:HOk P w H h) (e:H a = some (.dK kvs)):kvs.length ≤ sizeLine ∧ (a == sysModules) = false ∧ ∃ vs,KV kvs vs ∧ h.DictOf (aZ P w) a vs:=iM ok (.inl e)
theorem lD {ks:List Key} (ok:HOk P w H h) (e:H a = some (.tup (ks.map kV))):(tupleKind (aZ P w)).is h ks a:=by
 obtain ⟨_,its,r,o,h1,h2,n,h3⟩:=(show ObjOk P w H h a (.tup (ks.map kV)) from ok a _ e)
 exact ⟨o,its.toArray,n,h1,h2,h3,by simpa using rO r⟩
theorem nN {kvs:List (List Key × V)} (ok:HOk P w H h) (e:Rd H a (.dT kvs)):kvs.length ≤ sizeLine ∧ (a == sysModules) = false ∧
   ∃ xs,KT H kvs xs ∧ h.DictOfH (tupleKind (aZ P w)) a xs:=by
 obtain ⟨z,y,xs,r,o,es,ep,h1,h2,h3,h4,h5⟩:=(show ObjOk P w H h a (.dT kvs) from cQ1 ok e)
 refine ⟨z,y,xs,r,o,es,ep,h1,h2,h3,h4,fun x hx => ?_,h5⟩
 have all:∀ {l:List (List Key × V)} {m:List (List Key × Addr × Value)},KT H l m → ∀ x ∈ m,(tupleKind (aZ P w)).is h x.1 x.2.1:=by
   intro l m q
   induction q with
   | nil => intro x hx; exact nomatch hx
   | @cons p q ps qs hq t ih =>
     intro x hx
     rcases Ba.mp hx with e | hx
     · subst e
       exact lD ok (by rw [← hq.1]; exact hq.2.1)
     · exact ih x hx
 exact all r x hx
theorem cQ9 {kvs:List (List Key × V)} (ok:HOk P w H h) (e:H a = some (.dT kvs)):kvs.length ≤ sizeLine ∧ (a == sysModules) = false ∧
   ∃ xs,KT H kvs xs ∧ h.DictOfH (tupleKind (aZ P w)) a xs:=nN ok (.inl e)
end
def DGet (H:Hp) (a:Addr) (y:V) (r:Option V):Prop :=
 (∃ kvs k,Rd H a (.dK kvs) ∧ y = kV k ∧ r = bR kvs k) ∨ ∃ kvs k b,Rd H a (.dT kvs) ∧ y = .ref b ∧ H b = some (.tup (k.map kV)) ∧ r = bR kvs k
def DPut (H:Hp) (a:Addr) (y v:V) (H':Hp):Prop :=
 (∃ kvs k,H a = some (.dK kvs) ∧ y = kV k ∧ kvs.length < sizeLine ∧ H' = upd H a (.dK (cP kvs k v))) ∨
 ∃ kvs k b,H a = some (.dT kvs) ∧ y = .ref b ∧ H b = some (.tup (k.map kV)) ∧ kvs.length < sizeLine ∧ H' = upd H a (.dT (cP kvs k v))
theorem DGet.k {H:Hp} {a:Addr} {kvs:List (Key × V)} {k:Key} (e:H a = some (.dK kvs)):DGet H a (kV k) (bR kvs k):=.inl ⟨kvs,k,.inl e,rfl,rfl⟩
theorem DGet.t {H:Hp} {a b:Addr} {kvs:List (List Key × V)} {k:List Key} (e:H a = some (.dT kvs)) (eb:H b = some (.tup (k.map kV))):DGet H a (.ref b) (bR kvs k):=.inr ⟨kvs,k,b,.inl e,rfl,eb,rfl⟩
theorem DPut.k {H:Hp} {a:Addr} {kvs:List (Key × V)} {k:Key} {v:V} (e:H a = some (.dK kvs)) (hl:kvs.length < sizeLine):DPut H a (kV k) v (upd H a (.dK (cP kvs k v))):=.inl ⟨kvs,k,e,rfl,hl,rfl⟩
theorem DPut.t {H:Hp} {a b:Addr} {kvs:List (List Key × V)} {k:List Key} {v:V} (e:H a = some (.dT kvs)) (eb:H b = some (.tup (k.map kV))) (hl:kvs.length < sizeLine) :
   DPut H a (.ref b) v (upd H a (.dT (cP kvs k v))):=.inr ⟨kvs,k,b,e,rfl,eb,hl,rfl⟩
section
variable {X:Cx} {pins:List (Addr × Obj)} {σ:St} {H:Hp} {s:Shared} {a:Addr} {y v:V} {u r:Value} {o:Option V} {A:Around} {E:Value → Shared → Prop}
theorem Inv.big (I:Inv X pins σ H s):sysModules < s.heap.objs.size:=by
 have h:mainGlobals < s.heap.objs.size:=(I.mod.glob.keeps I.bk).lt
 exact Nat.lt_trans (by decide) h
theorem aX2 {Q:Value → Shared → Prop} (hu:A.units + 1 < cLine) (I:Inv X pins σ H s) (g:DGet H a y (some v)) (ry:RelV y u) (h:∀ w' s',Inv X pins σ H s' → RelV v w' → Q w' s') :
   wpAny (model X.prog X.w) A (getItem (.ref a) u) Q E s:=by
 rcases g with ⟨kvs,k,e,ey,l⟩ | ⟨kvs,k,b,e,ey,eb,l⟩
 · subst ey
   obtain ⟨z,hd,vs,rel,dd⟩:=iM I.hok e
   obtain ⟨w',hw,rw'⟩:=RelO.some_of (v:=v) (o:=valueAt vs k) (by rw [l]; exact rel.val k)
   exact wpAny_getItem_of (nF ry) dd.mapOf hw (h w' _ (I.tok _) rw')
 · subst ey
   cases (show u = Value.ref b from ry)
   obtain ⟨z,hd,xs,rel,dd⟩:=nN I.hok e
   obtain ⟨w',hw,rw'⟩:=RelO.some_of (v:=v) (o:=(atKey xs k).map (·.2)) (by rw [l]; exact rel.val k)
   obtain ⟨p,hp,hp2⟩:=Option.map_eq_some_iff.mp hw
   refine wpAny_getItem_heap (Ea hu) (lD I.hok eb) dd hp ?_
   rw [hp2]
   exact h w' _ (I.tok _) rw'
theorem dXK {Q:Value → Shared → Prop} (hu:A.units + 1 < cLine) (I:Inv X pins σ H s) (g:DGet H a y o) (ry:RelV y u) (h:∀ s',Inv X pins σ H s' → Q (.bool o.isSome) s') :
   wpAny (model X.prog X.w) A (compareOp .In u (.ref a)) Q E s:=by
 rcases g with ⟨kvs,k,e,ey,l⟩ | ⟨kvs,k,b,e,ey,eb,l⟩
 · subst ey
   obtain ⟨z,hd,vs,rel,dd⟩:=iM I.hok e
   refine wpAny_in_of (nF ry) hd dd.mapOf ?_
   rw [← (rel.val k).isSome_eq,← l]
   exact h _ (I.tok _)
 · subst ey
   cases (show u = Value.ref b from ry)
   obtain ⟨z,hd,xs,rel,dd⟩:=nN I.hok e
   refine wpAny_in_heap (Ea hu) (lD I.hok eb) hd dd ?_
   have q:=(rel.val k).isSome_eq
   rw [Option.isSome_map] at q
   rw [← q,← l]
   exact h _ (I.tok _)
theorem bZS {Q:Value → Shared → Prop} (hu:A.units + 1 < cLine) (I:Inv X pins σ H s) (g:DGet H a y o) (ry:RelV y u) (h:∀ s',Inv X pins σ H s' → Q (.bool (!o.isSome)) s') :
   wpAny (model X.prog X.w) A (compareOp .NotIn u (.ref a)) Q E s:=by
 rcases g with ⟨kvs,k,e,ey,l⟩ | ⟨kvs,k,b,e,ey,eb,l⟩
 · subst ey
   obtain ⟨z,hd,vs,rel,dd⟩:=iM I.hok e
   refine wpAny_notIn_of (nF ry) hd dd.mapOf ?_
   rw [← (rel.val k).isSome_eq,← l]
   exact h _ (I.tok _)
 · subst ey
   cases (show u = Value.ref b from ry)
   obtain ⟨z,hd,xs,rel,dd⟩:=nN I.hok e
   refine wpAny_notIn_heap (Ea hu) (lD I.hok eb) hd dd ?_
   have q:=(rel.val k).isSome_eq
   rw [Option.isSome_map] at q
   rw [← q,← l]
   exact h _ (I.tok _)
theorem sO {h':Heap} {t':Nat} {ob:HO} (I:Inv X pins σ H s) (mu:Mut (H a)) (hs:Heap.SameBut a s.heap h') (he:∃ q,h'.get? a = some q) (new:ObjOk X.prog X.w (upd H a ob) h' a ob) :
   Inv X pins σ (upd H a ob) { s with heap:=h',toks:=t' } :=
 I.write (x:=a) (e:=a) mu (.inl rfl) (fun b q hb z => (hs.2 b hb).trans z) he new
theorem xJ {P:Program} {w:World} {H':Hp} {h':Heap} {kvs:List (Key × V)} {vs:List (Key × Value)} (z:kvs.length ≤ sizeLine) (hd:(a == sysModules) = false) (rel:KV kvs vs) (dd:h'.DictOf (aZ P w) a vs) :
   ObjOk P w H' h' a (.dK kvs):=⟨z,hd,vs,rel,dd⟩
theorem aX0 {H':Hp} {Q:Unit → Shared → Prop} (hu:A.units + 1 < cLine) (I:Inv X pins σ H s) (g:DPut H a y v H') (ry:RelV y u) (rv:RelV v r) (h:∀ s',Inv X pins σ H' s' → Q () s') :
   wpAny (model X.prog X.w) A (setItem (.ref a) u r) Q E s:=by
 rcases g with ⟨kvs,k,e,ey,l,eH⟩ | ⟨kvs,k,b,e,ey,eb,l,eH⟩
 · subst ey eH
   obtain ⟨z,hd,vs,rel,dd⟩:=aJZ I.hok e
   have hz:vs.length ≤ sizeLine:=by rw [← rel.length]; exact z
   have hl:(cP kvs k v).length ≤ sizeLine:=by have:=dY kvs k v; omega
   refine wpAny_setItem_pairs (hsz:=hz) (nF ry) dd fun h' dd' hs => h _ ?_
   have he:∃ q,h'.get? a = some q:=let ⟨q,_,_,hq,_⟩:=dd'; ⟨q,hq⟩
   exact sO I (by rw [e]; exact True.intro) hs he (xJ hl hd (rel.put k rv) dd')
 · subst ey eH
   cases (show u = Value.ref b from ry)
   obtain ⟨z,hd,xs,rel,dd⟩:=cQ9 I.hok e
   have hz:xs.length ≤ sizeLine:=by rw [← Paired.length rel]; exact z
   have hl:(cP kvs k v).length ≤ sizeLine:=by have:=dY kvs k v; omega
   refine wpAny_setItem_heap (hsz:=hz) (Ea hu) (lD I.hok eb) dd fun h' dd' hs => h _ ?_
   obtain ⟨q,es,ep,hq,h2,h3,h4,_,h5⟩:=dd'
   refine sO I (by rw [e]; exact True.intro) hs ⟨q,hq⟩ ⟨hl,hd,_,(rel.put k eb rv).keeps fun c ys ec => ?_,q,es,ep,hq,h2,h3,h4,h5⟩
   rw [aI (dXH ec e (fun z => nomatch z))]
   exact ec
end
section
variable {X:Cx} {pins:List (Addr × Obj)} {σ:St} {H:Hp} {s:Shared} {a:Addr} {kvs:List (Key × V)} {k:Key} {u:Value} {A:Around} {E:Value → Shared → Prop}
end
def dXX (i:Expr):Prop:=∀ ov iv,subscripted i false ov iv = operate [ov,iv] (getItem ov iv)
theorem bZU {prog:Program} {w:World} {A:Around} {E:Value → Shared → Prop} {s:Shared} {env:Env} {value slice:Expr} {pos:Pos} {T id:String} {Q:Value → Shared → Prop}
   (hl:typeLookup (.type T) "__getitem__" = pure (some (.builtin id))) (hs:dXX slice)
   (h:wpAny (model prog w) A (eval value env) (fun o s₁ => wpAny (model prog w) A (eval slice env) (fun i s₂ => s₂.TypeIs o T ∧ wpAny (model prog w) A (getItem o i) Q E s₂) E s₁) E s) :
   wpAny (model prog w) A (eval (.Subscript value slice pos) env) Q E s:=by
 refine Subscript_ (Cf h (fun o s₁ h₁ => Cf h₁ (fun i s₂ h₂ => ?_) fun _ _ x => x) fun _ _ x => x)
 obtain ⟨hT,h₂⟩:=h₂
 unfold subscriptTail
 refine Ae ?_
 rw [getitemInPython_of_ne hT.not_modules]
 refine Ae (wpAny_specialOf hT hl ?_)
 have fin:wpAny (model prog w) A (subscripted slice false o i) (fun r s₃ => wpAny (model prog w) A (letTemporaryGo value o r >>= fun _ => pure r) Q E s₃) E s₂:=by
   rw [hs o i]
   exact wpAny_operating (Cf h₂ (fun r s₃ h₃ => Ae (wpAny_letTemporaryGo (Am h₃))) fun _ _ x => x)
 first
   | exact Am (Ae fin)
   | exact Ae (Am (Ae fin))
   | exact Ae fin
theorem wZ {X:Cx} {pins:List (Addr × Obj)} {σ:St} {H:Hp} {s:Shared} {a:Addr} {y:V} {o:Option V} (I:Inv X pins σ H s) (g:DGet H a y o):s.TypeIs (.ref a) "dict" := by
 rcases g with ⟨kvs,k,e,_,_⟩ | ⟨kvs,k,b,e,_,_,_⟩
 · obtain ⟨_,_,vs,_,dd⟩:=iM I.hok e
   exact dd.typeIs
 · obtain ⟨_,_,xs,_,dd⟩:=nN I.hok e
   exact dd.typeIs
def cQY (td ty:TE):TE:=fun σ H Q => td σ H fun x H1 => ty σ H1 fun y H2 => ∃ a v,x = .ref a ∧ DGet H2 a y (some v) ∧ Q v H2
def cQN (td ty tv:TE):TS:=fun D σ H => tv σ H fun v H1 => td σ H1 fun x H2 => ty σ H2 fun y H3 => ∃ a H4,x = .ref a ∧ DPut H3 a y v H4 ∧ D.nx σ H4
section
variable {X:Cx} {o i e value:Expr} {pos pos' tpos:Pos} {td ty tv:TE}
theorem bP (hu:X.A.units + 1 < cLine) (ho:PE X o td) (hi:PE X i ty) (hs:dXX i):PE X (.Subscript o i pos) (cQY td ty):=by
 intro pins s σ H Q I h
 refine bZU PySem.F.slot_dict_getitem.lookup hs (thn (ho pins s σ H _ I h) fun u s1 ⟨x,H1,I1,rx,q1⟩ => thn (hi pins s1 σ H1 _ I1 q1) fun iv s2 ⟨y,H2,I2,ry,a,v,ex,g,q2⟩ => ?_)
 subst ex
 obtain rfl:u = Value.ref a:=rx
 exact ⟨wZ I2 g,aX2 hu I2 g ry fun w' s3 I3 rw' => ⟨v,H2,I3,rw',q2⟩⟩
theorem cX (hu:X.A.units + 1 < cLine) (ho:PE X o td) (hi:PE X i ty) (hv:PE X value tv) (hs:swapsWith value (some (.Subscript o i pos')) pos.line X.env = pure false) :
   PS X (.Assign [.Subscript o i pos'] value pos) (cQN td ty tv):=by
 intro pins s σ H D I h
 refine wpAny_Assign_Subscript (thn (hv pins s σ H _ I h) fun r s1 ⟨v,H1,I1,rv,q1⟩ => thn (ho pins s1 σ H1 _ I1 q1) fun u s2 ⟨x,H2,I2,rx,q2⟩ => thn (hi pins s2 σ H2 _ I2 q2) fun iv s3 ⟨y,H3,I3,ry,a,H4,ex,g,q3⟩ => ?_) hs
 subst ex
 obtain rfl:u = Value.ref a:=rx
 exact aX0 hu I3 g ry rv fun s4 I4 => ⟨σ,H4,I4,q3⟩
end
theorem wW {P:Program} {w:World} {H:Hp} (h:Heap) (hb:sysModules < h.objs.size):ObjOk P w H (h.push { cls:=.type "dict",data:=.dict #[] }) h.objs.size (.dK []) :=
 ⟨Ct _,En.mpr (Ne.symm (Bj hb)),[],.nil,Heap.DictOf.new h⟩
theorem bQ1 {P:Program} {w:World} {H:Hp} (h:Heap) (hb:sysModules < h.objs.size):ObjOk P w H (h.push { cls:=.type "dict",data:=.dict #[] }) h.objs.size (.dT []) :=
 ⟨Ct _,En.mpr (Ne.symm (Bj hb)),[],.nil,_,#[],0,Ax _ rfl,⟨rfl,rfl,rfl⟩,rfl,rfl,List.nodup_nil⟩
def bQ9:TE:=fun _ H Q => ∀ p,H p = none → Q (.ref p) (upd H p (.dK []))
def aJN:TE:=fun _ H Q => ∀ p,H p = none → Q (.ref p) (upd H p (.dT []))
section
variable {X:Cx} {pos:Pos}
theorem lU:PE X (.Dict [] [] pos) bQ9:=fun pins s σ H Q I h =>
 wpAny_Dict_empty ⟨.ref s.heap.objs.size,_,I.laid (a:=s.heap.objs.size) (o:=.dK []) (t':=s.toks) (fun _ _ q => Af _ q) (Ah _) (wW s.heap I.big),rfl,h _ (I.hok.fresh (Ah _))⟩
theorem oH:PE X (.Dict [] [] pos) aJN:=fun pins s σ H Q I h =>
 wpAny_Dict_empty ⟨.ref s.heap.objs.size,_,I.laid (a:=s.heap.objs.size) (o:=.dT []) (t':=s.toks) (fun _ _ q => Af _ q) (Ah _) (bQ1 s.heap I.big),rfl,h _ (I.hok.fresh (Ah _))⟩
end
def kW:List (TE × TE) → St → Hp → (List (V × V) → Hp → Prop) → Prop
 | [],_,H,Q => Q [] H
 | (tk,tv) :: r,σ,H,Q => tk σ H fun x H1 => tv σ H1 fun y H2 => kW r σ H2 fun ps H3 => Q ((x,y) :: ps) H3
abbrev VV:List (V × V) → List (Value × Value) → Prop:=Paired fun p q => RelV p.1 q.1 ∧ RelV p.2 q.2
def PPs (X:Cx) (pos:Pos) (keys:List (Option Expr)) (values:List Expr) (trs:List (TE × TE)):Prop :=
 ∀ (pins:List (Addr × Obj)) (s:Shared) (σ:St) (H:Hp) (Q:List (V × V) → Hp → Prop),Inv X pins σ H s → kW trs σ H Q →
   wpAny (model X.prog X.w) X.A (evalPairs (pairTrees keys values X.env pos)) (fun vs s' => ∃ ps H',Inv X pins σ H' s' ∧ VV ps vs ∧ Q ps H') X.xe s
theorem bZZ {X:Cx} {pos:Pos}:PPs X pos [] [] []:=fun pins s σ H Q I h => pairTrees_nil_walk ⟨[],H,I,.nil,h⟩
theorem oQ {X:Cx} {pos:Pos} {k v:Expr} {ks:List (Option Expr)} {vs:List Expr} {tk tv:TE} {trs:List (TE × TE)} (hk:PE X k tk) (hv:PE X v tv) (hr:PPs X pos ks vs trs) :
   PPs X pos (some k :: ks) (v :: vs) ((tk,tv) :: trs):=fun pins s σ H Q I h =>
 pairTrees_cons_walk (thn (hk pins s σ H _ I h) fun u s1 ⟨x,H1,I1,rx,q1⟩ => thn (hv pins s1 σ H1 _ I1 q1) fun w2 s2 ⟨y,H2,I2,ry,q2⟩ =>
   thn (hr pins s2 σ H2 _ I2 q2) fun ws s3 ⟨ps,H3,I3,rel,q3⟩ => ⟨(x,y) :: ps,H3,I3,.cons ⟨rx,ry⟩ rel,q3⟩)
def mP (kvs more:List (Key × V)):List (Key × V):=more.foldl (fun acc kv => cP acc kv.1 kv.2) kvs
theorem KV.merge:∀ {more:List (Key × V)} {rs:List (Key × Value)} {kvs:List (Key × V)} {vs:List (Key × Value)},KV more rs → KV kvs vs → KV (mP kvs more) (merged vs rs):=by
 intro more rs kvs vs r
 unfold KV at r
 induction r generalizing kvs vs with
 | nil => intro q; exact q
 | @cons p q ps qs h t ih =>
   intro r0
   have e:KV (cP kvs p.1 p.2) (stored vs q.1 q.2):=by
     have:=r0.put p.1 h.2
     rw [← h.1]; exact this
   exact ih e
theorem kI:∀ (more kvs:List (Key × V)),(mP kvs more).length ≤ kvs.length + more.length
 | [],kvs => by show kvs.length ≤ kvs.length + 0; omega
 | p :: r,kvs => by
   have h1:=kI r (cP kvs p.1 p.2)
   have h2:=dY kvs p.1 p.2
   show (mP (cP kvs p.1 p.2) r).length ≤ _
   rw [Az]; omega
theorem oB {P:Program} {w:World}:∀ {kvs:List (Key × V)} {ws:List (Value × Value)},VV (kvs.map fun kv => (kV kv.1,kv.2)) ws → ∃ rs,Carries (aZ P w) ws rs ∧ KV kvs rs
 | [],_,r => by rw [Fm] at r; cases r; exact ⟨[],True.intro,.nil⟩
 | p :: kvs,_,r => by
   rw [Ap] at r
   cases r with
   | @cons a b as bs h t =>
     obtain ⟨rs,c,q⟩:=oB (P:=P) (w:=w) t
     obtain ⟨b1,b2⟩:=b
     exact ⟨(p.1,b2) :: rs,⟨nF h.1,rfl,c⟩,.cons ⟨rfl,h.2⟩ q⟩
def cJ8 (trs:List (TE × TE)):TE:=fun σ H Q => ∀ p,H p = none → kW trs σ (upd H p (.dK [])) fun ps H2 => H2 p = some (.dK []) ∧ ∃ kvs:List (Key × V),ps = kvs.map (fun kv => (kV kv.1,kv.2)) ∧ kvs.length ≤ 15 ∧ Q (.ref p) (upd H2 p (.dK (mP [] kvs)))
theorem bJV {X:Cx} {pos:Pos} {keys:List (Option Expr)} {values:List Expr} {trs:List (TE × TE)} (h:PPs X pos keys values trs) (hall:keys.all (·.isSome) = true) (hl:keys.length = values.length) (h0:keys ≠ [])
   (h15:keys.length ≤ 15):PE X (.Dict keys values pos) (cJ8 trs):=by
 intro pins s σ H Q I q
 have hn:=I.hok.fresh (Ah s.heap.objs.size)
 have I1:=I.laid (a:=s.heap.objs.size) (o:=.dK []) (h':=s.heap.push { cls:=.type "dict",data:=.dict #[] }) (t':=s.toks) (fun _ _ q => Af _ q) (Ah _) (wW s.heap I.big)
 refine wpAny_Dict_walk (knd:=aZ X.prog X.w) hall hl h0 h15 (thn (h pins _ σ _ _ I1 (q _ hn)) fun ws s2 ⟨ps,H2,I2,rel,e,kvs,ep,lk,q2⟩ => ?_)
 subst ep
 obtain ⟨rs,c,rk⟩:=oB (P:=X.prog) (w:=X.w) rel
 obtain ⟨z,hd,vs0,r0,dd⟩:=aJZ I2.hok e
 cases r0
 refine ⟨rs,c,dd,fun h' dd' hs => ⟨.ref s.heap.objs.size,_,?_,rfl,q2⟩⟩
 have hz:(mP [] kvs).length ≤ sizeLine:=by
   have h1:=kI kvs []
   rw [List.length_nil] at h1
   rw [Gp]; omega
 have he:∃ q,h'.get? s.heap.objs.size = some q:=let ⟨q,_,_,hq,_⟩:=dd'; ⟨q,hq⟩
 exact sO I2 (by rw [e]; exact True.intro) hs he (xJ hz hd (rk.merge .nil) dd')
def IsD (H:Hp) (a:Addr):Prop:=(∃ kvs,Rd H a (.dK kvs)) ∨ ∃ kvs,Rd H a (.dT kvs)
theorem cZH {X:Cx} {pins:List (Addr × Obj)} {σ:St} {H:Hp} {s:Shared} {a:Addr} (I:Inv X pins σ H s) (d:IsD H a) :
   s.TypeIs (.ref a) "dict" ∧ (∀ b,Value.ref a = .ref b → ∃ ob,s.heap.get? b = some ob ∧ ob.dict = none) ∧ (a == sysModules) = false:=by
 rcases d with ⟨kvs,e⟩ | ⟨kvs,e⟩
 · obtain ⟨_,hd,vs,_,dd⟩:=iM I.hok e
   refine ⟨dd.typeIs,fun b q => ?_,hd⟩
   cases q
   obtain ⟨ob,_,_,h1,h2,_⟩:=dd
   exact ⟨ob,h1,h2.2.1⟩
 · obtain ⟨_,hd,xs,_,dd⟩:=nN I.hok e
   refine ⟨dd.typeIs,fun b q => ?_,hd⟩
   cases q
   obtain ⟨ob,_,_,h1,h2,_⟩:=dd
   exact ⟨ob,h1,h2.2.1⟩
section
variable {X:Cx} {pins:List (Addr × Obj)} {σ:St} {H:Hp} {s:Shared} {a:Addr} {y d:V} {u r:Value} {o:Option V} {A:Around} {E:Value → Shared → Prop}
theorem cJ0 {Q:Value → Shared → Prop} (hu:A.units + 1 < cLine) (I:Inv X pins σ H s) (g:DGet H a y o) (ry:RelV y u) (h:∀ w' s',Inv X pins σ H s' → RelV (o.getD .non) w' → Q w' s') :
   wpAny (model X.prog X.w) A (call (.builtin "dict.get") [.ref a,u]) Q E s:=by
 rcases g with ⟨kvs,k,e,ey,l⟩ | ⟨kvs,k,b,e,ey,eb,l⟩
 · subst ey
   obtain ⟨z,hd,vs,rel,dd⟩:=iM I.hok e
   refine Ge Bv dd.typeIs Ey (PySem.F.args_dict_get_2 _ _) (meets_dict_get (aZ X.prog X.w) a (nF ry) hd) ⟨_,dd.mapOf,h _ _ (I.tok _) ?_⟩
   rw [l]
   exact (rel.val k).getD rfl
 · subst ey
   cases (show u = Value.ref b from ry)
   obtain ⟨z,hd,xs,rel,dd⟩:=nN I.hok e
   refine Ge Bv dd.typeIs Ey (PySem.F.args_dict_get_2 _ _) (meetsH_dict_get (tupleKind (aZ X.prog X.w)) a b hd) ⟨Ea hu,k,xs,lD I.hok eb,dd,h _ _ (I.tok _) ?_⟩
   rw [l]
   exact (rel.val k).getD rfl
theorem cJD {Q:Value → Shared → Prop} (hu:A.units + 1 < cLine) (I:Inv X pins σ H s) (g:DGet H a y o) (ry:RelV y u) (rd:RelV d r) (h:∀ w' s',Inv X pins σ H s' → RelV (o.getD d) w' → Q w' s') :
   wpAny (model X.prog X.w) A (call (.builtin "dict.get") [.ref a,u,r]) Q E s:=by
 rcases g with ⟨kvs,k,e,ey,l⟩ | ⟨kvs,k,b,e,ey,eb,l⟩
 · subst ey
   obtain ⟨z,hd,vs,rel,dd⟩:=iM I.hok e
   refine Ge Bv dd.typeIs Ey (PySem.F.args_dict_get_3 _ _ _) (meets_dict_get_default (aZ X.prog X.w) a (nF ry) hd r) ⟨_,dd.mapOf,h _ _ (I.tok _) ?_⟩
   rw [l]
   exact (rel.val k).getD rd
 · subst ey
   cases (show u = Value.ref b from ry)
   obtain ⟨z,hd,xs,rel,dd⟩:=nN I.hok e
   refine Ge Bv dd.typeIs Ey (PySem.F.args_dict_get_3 _ _ _) (meetsH_dict_get_default (tupleKind (aZ X.prog X.w)) a b hd r) ⟨Ea hu,k,xs,lD I.hok eb,dd,h _ _ (I.tok _) ?_⟩
   rw [l]
   exact (rel.val k).getD rd
end
section
variable {X:Cx} {o e f:Expr} {apos cpos:Pos} {td ty tx:TE}
end
section
variable {X:Cx} {pins:List (Addr × Obj)} {σ:St} {H:Hp} {s:Shared} {a:Addr} {kvs:List (Key × V)} {A:Around} {E:Value → Shared → Prop}
theorem bQO {Q:Value → Shared → Prop} (I:Inv X pins σ H s) (e:Rd H a (.dK kvs)) (h:∀ p s',H p = none → Inv X pins σ (upd H p (.dK kvs)) s' → Q (.ref p) s'):wpAny (model X.prog X.w) A (call (.type "dict") [.ref a]) Q E s:=by
 obtain ⟨z,hd,vs,rel,dd⟩:=iM I.hok e
 refine kt_call_dict hd dd (by rw [← rel.length]; exact z) fun h' dd' hs => ?_
 refine h _ _ (I.hok.fresh (Ah _)) (I.laid (a:=s.heap.objs.size) (o:=.dK kvs) (t':=s.toks) (fun b q hq => ?_) (Ah _) (xJ z (En.mpr (Ne.symm (Bj I.big))) rel dd'))
 exact (hs.2 b (Bj (Aq hq))).trans (Af _ hq)
end
section
variable {X:Cx} {pins:List (Addr × Obj)} {σ:St} {H:Hp} {s:Shared} {a:Addr} {y:V} {u:Value} {A:Around} {E:Value → Shared → Prop}
end
end L2
set_option maxHeartbeats 4000000
namespace L2
open PySem PySem.Spec PyProof.Rows
section
variable {X:Cx} {pins:List (Addr × Obj)} {σ:St} {H:Hp} {s:Shared}
theorem Inv.re {H':Hp} (I:Inv X pins σ H s) (hn:∀ b,H b = none → H' b = none) (tups:∀ b xs,X.H₀ b = some (.tup xs) → H' b = some (.tup xs)) (frzs:∀ b o u,X.H₀ b = some (.frz o u) → H' b = some (.frz o u))
   (tbls:∀ b ps,X.H₀ b = some (.tbl ps) → ∃ more,H' b = some (.tbl (ps ++ more))) (hok:HOk X.prog X.w H' s.heap):Inv X pins σ H' s :=
 ⟨I.ok,I.os,I.bare,⟨I.base.keep,I.base.slot,fun b o e n hx => hn b (I.base.free b o e n hx),I.base.there,tups,frzs,tbls⟩,I.loc,I.cell,hn _ I.free,fun x c e => hn c (I.freeC x c e),fun p hp => by
   obtain ⟨a,b,c,d,e⟩:=I.pin p hp
   exact ⟨a,hn _ b,c,d,e⟩,hok,I.len⟩
def dXO:HO → Bool
 | .dK _ => true
 | .dT _ => true
 | _ => false
theorem Inv.freeze {a:Addr} {u:HO} {o:Obj} (I:Inv X pins σ H s) (ha:H a = some u) (hu:dXO u = true) (ho:s.heap.get? a = some o):Inv X pins σ (upd H a (.frz o u)) s:=by
 have ne:∀ c v,H c = some v → dXO v = false → c ≠ a:=fun c v q n z => by rw [z,ha] at q; cases q; rw [n] at hu; cases hu
 have own:∀ c y,H c = some (.own y) → upd H a (.frz o u) c = some (.own y):=fun c y q => by rw [aI (ne c _ q rfl)]; exact q
 have tup:∀ c xs,H c = some (.tup xs) → upd H a (.frz o u) c = some (.tup xs):=fun c xs q => by rw [aI (ne c _ q rfl)]; exact q
 refine I.re (fun b q => by rw [aI (fun z => by rw [z,ha] at q; cases q)]; exact q) (fun b xs q => tup b xs (I.base.tups b xs q)) (fun b o' v q => ?_) (fun b ps q => ?_) (fun b v q => ?_)
 · have:=I.base.frzs b o' v q
   rw [aI (ne b _ this rfl)]
   exact this
 · obtain ⟨m,e⟩:=I.base.tbls b ps q
   exact ⟨m,by rw [aI (ne b _ e rfl)]; exact e⟩
 · by_cases hb:b = a
   · subst hb
     rw [aB] at q
     cases q
     exact (show s.heap.get? b = some o ∧ ObjOk X.prog X.w (upd H b (.frz o u)) s.heap b u from ⟨ho,(I.hok b _ ha).stay (fun _ _ _ q => q) (fun c => own c b) tup⟩)
   · rw [aI hb] at q
     exact (I.hok b v q).stay (fun _ _ _ q => q) (fun c => own c b) tup
def unf (Hs H:Hp):Hp:=fun b => match H b with
 | some (.frz o u) => (match Hs b with | some (.frz _ _) => some (.frz o u) | _ => some u)
 | x => x
theorem dI {Hs H:Hp} {b:Addr} {u:HO} (h:H b = some u) (n:∀ o v,u ≠ .frz o v):unf Hs H b = some u:=by
 unfold unf
 rw [h]
 cases u <;> first | rfl | exact absurd rfl (n _ _)
theorem wQ {Hs H:Hp} {b:Addr} (h:H b = none):unf Hs H b = none:=by unfold unf; rw [h]
theorem nS {Hs H:Hp} {b:Addr} {o:Obj} {u:HO} (h:H b = some (.frz o u)) (n:∀ o v,Hs b ≠ some (.frz o v)):unf Hs H b = some u:=by
 unfold unf
 rw [h]
 dsimp only
 split
 · rename_i e
   exact absurd e (n _ _)
 · rfl
theorem jL {Hs H:Hp} {b:Addr} {o o':Obj} {u u':HO} (h:H b = some (.frz o u)) (n:Hs b = some (.frz o' u')):unf Hs H b = some (.frz o u):=by
 unfold unf
 rw [h]
 dsimp only
 rw [n]
theorem Inv.unfreeze {Hs:Hp} (I:Inv X pins σ H s) (h0:∀ b o u,X.H₀ b = some (.frz o u) → Hs b = some (.frz o u)):Inv X pins σ (unf Hs H) s:=by
 have own:∀ c y,H c = some (.own y) → unf Hs H c = some (.own y):=fun c y q => dI q fun _ _ z => by cases z
 have tup:∀ c xs,H c = some (.tup xs) → unf Hs H c = some (.tup xs):=fun c xs q => dI q fun _ _ z => by cases z
 refine I.re (fun b q => wQ q) (fun b xs q => tup b xs (I.base.tups b xs q)) (fun b o u q => jL (I.base.frzs b o u q) (h0 b o u q)) (fun b ps q => ?_) (fun b u q => ?_)
 · obtain ⟨m,e⟩:=I.base.tbls b ps q
   exact ⟨m,dI e fun _ _ z => by cases z⟩
 · cases e:H b with
   | none => rw [wQ e] at q; cases q
   | some v =>
     have ok:=I.hok b v e
     by_cases hf:∃ o v',v = .frz o v'
     · obtain ⟨o,v',rfl⟩:=hf
       have ok2:s.heap.get? b = some o ∧ ObjOk X.prog X.w H s.heap b v':=ok
       by_cases hs:∃ o' u',Hs b = some (.frz o' u')
       · obtain ⟨o',u',hs⟩:=hs
         rw [jL e hs] at q
         cases q
         exact ok.stay (fun _ _ _ q => q) (fun c => own c b) tup
       · rw [nS e fun o v z => hs ⟨o,v,z⟩] at q
         cases q
         exact ok2.2.stay (fun _ _ _ q => q) (fun c => own c b) tup
     · rw [dI e fun o v' z => hf ⟨o,v',z⟩] at q
       cases q
       exact ok.stay (fun _ _ _ q => q) (fun c => own c b) tup
def aQ9 (Hs:Hp) (D:Ends):Ends:=⟨fun σ H => D.nx σ (unf Hs H),fun v H => D.rt v (unf Hs H),fun σ H => D.bk σ (unf Hs H),fun σ H => D.ct σ (unf Hs H)⟩
end
section
variable {X:Cx} {e:Expr} {st:Stmt}
def dQ6 (t:TE):TE:=fun σ H Q => t σ H fun v H' => Q v (unf H H')
def cXC (t:TS):TS:=fun D σ H => t (aQ9 H D) σ H
theorem bX7 {t:TE} (h:PE X e t):PE X e (dQ6 t):=fun pins s σ H Q I q => thn (h pins s σ H _ I q) fun v s' ⟨x,H',I',r,q'⟩ => ⟨x,unf H H',I'.unfreeze fun b o u e => I.base.frzs b o u e,r,q'⟩
theorem sM {t:TS} (h:PS X st t):PS X st (cXC t):=fun pins s σ H D I q => thn (h pins s σ H _ I q) fun f s' q' => by
 cases f with
 | next => obtain ⟨σ',H',I',r⟩:=q'; exact ⟨σ',unf H H',I'.unfreeze fun b o u e => I.base.frzs b o u e,r⟩
 | brk => obtain ⟨σ',H',I',r⟩:=q'; exact ⟨σ',unf H H',I'.unfreeze fun b o u e => I.base.frzs b o u e,r⟩
 | cont => obtain ⟨σ',H',I',r⟩:=q'; exact ⟨σ',unf H H',I'.unfreeze fun b o u e => I.base.frzs b o u e,r⟩
 | ret u => obtain ⟨v,σ',H',I',rv,r⟩:=q'; exact ⟨v,σ',unf H H',I'.unfreeze fun b o u e => I.base.frzs b o u e,rv,r⟩
theorem dQ1 {t:TE} {σ:St} {H:Hp} {Q:VK} (h:t σ H fun v H' => Q v (unf H H')):dQ6 t σ H Q:=h
theorem cZX {t:TS} {D:Ends} {σ:St} {H:Hp} (h:t (aQ9 H D) σ H):cXC t D σ H:=h
end
theorem pX {Hs H:Hp} {a:Addr} {o:Obj} {u:HO} (ha:Hs a = some u) (hu:∀ o v,u ≠ .frz o v) (h:Same (upd Hs a (.frz o u)) H):Same Hs (unf Hs H):=fun b v q => by
 by_cases e:b = a
 · subst e
   rw [ha] at q
   cases q
   exact nS (h _ _ aB) fun o v z => by rw [ha] at z; cases z; exact hu _ _ rfl
 · have:=h b v (by rw [aI e]; exact q)
   by_cases hf:∃ o v',v = .frz o v'
   · obtain ⟨o',v',rfl⟩:=hf
     exact jL this q
   · exact dI this fun o v' z => hf ⟨o,v',z⟩
theorem aXB {Hs H:Hp} (h:Same Hs H):Same Hs (unf Hs H):=fun b v q => by
 have:=h b v q
 by_cases hf:∃ o v',v = .frz o v'
 · obtain ⟨o',v',rfl⟩:=hf
   exact jL this q
 · exact dI this fun o v' z => hf ⟨o,v',z⟩
theorem pR {α β:Type} {R:α → β → Prop} {xs:List α} {ys:List β} (r:Paired R xs ys):∀ {i:Nat} {x:α},xs[i]? = some x → ∃ y,ys[i]? = some y ∧ R x y:=by
 induction r with
 | nil => intro i x h; cases h
 | cons h t ih =>
   intro i x hx
   cases i with
   | zero => cases hx; exact ⟨_,rfl,h⟩
   | succ i => exact ih (i:=i) hx
theorem dX5 {P:Program} {w:World} {k:Key} {u:Value} (h:(aZ P w).is k u = true):RelV (kV k) u:=by
 rcases bN h with ⟨i,t,rfl,rfl⟩ | ⟨x,t,rfl,rfl⟩
 · exact ⟨t,rfl⟩
 · exact ⟨t,rfl⟩
def Itd (a:Addr) (o:Obj) (kvs:List (Key × V)):It:=⟨fun i H => H a = some (.frz o (.dK kvs)) ∧ i < kvs.length,fun i H x H' => H' = H ∧ ∃ kv,kvs[i]? = some kv ∧ x = kV kv.1,fun i H => H a = some (.frz o (.dK kvs)) ∧ kvs.length = i⟩
def dZ6 (a:Addr) (o:Obj) (kvs:List (Key × V)):It:=⟨fun i H => H a = some (.frz o (.dK kvs)) ∧ i < kvs.length,fun i H x H' => ∃ p kv,H p = none ∧ x = .ref p ∧ H' = upd H p (.tup [kV kv.1,kv.2]) ∧ kvs[i]? = some kv,fun i H => H a = some (.frz o (.dK kvs)) ∧ kvs.length = i⟩
theorem yE {X:Cx} {pins:List (Addr × Obj)} {σ:St} {H:Hp} {s:Shared} {a:Addr} {o:Obj} {kvs:List (Key × V)} {ep:Nat} (I:Inv X pins σ H s) (ha:H a = some (.frz o (.dK kvs))) (hep:∃ es,o.data = .dict es ep) :
   kvs.length ≤ sizeLine ∧ (a == sysModules) = false ∧ ∃ vs,KV kvs vs ∧ s.heap.DictAt (aZ X.prog X.w) a vs ep:=by
 have ok:s.heap.get? a = some o ∧ (kvs.length ≤ sizeLine ∧ (a == sysModules) = false ∧ ∃ vs,KV kvs vs ∧ s.heap.DictOf (aZ X.prog X.w) a vs):=I.hok a _ ha
 obtain ⟨e,z,hd,vs,rel,o',es',ep',ho',hx,hdat,r⟩:=ok
 rw [e] at ho'
 cases ho'
 obtain ⟨es,hes⟩:=hep
 have q:=hdat
 rw [hes] at q
 cases q
 exact ⟨z,hd,vs,rel,o,_,e,hx,hdat,r⟩
theorem aXJ {P:Program} {w:World} {K:PySem.W.Frag} {tg:Expr} (a it:Addr) (o:Obj) (kvs:List (Key × V)) (ep:Nat) (hep:∃ es,o.data = .dict es ep):Turn P w K tg (Itd a o kvs) [it] it (fun i h => h.IsKeyIter it a i kvs.length ep) where
 mem:=by simp
 obj:=fun i h st b hb => by
   have e:b = it:=by simpa using hb
   subst e
   obtain ⟨o,e,c,d⟩:=st
   exact ⟨o,e,fun v z => by rw [d] at z; cases z⟩
 keep:=fun i h h' st k => let ⟨o,ho,r⟩:=st; ⟨o,k it (by simp) o ho,r⟩
 item:=by
   intro X hP hw hK hc i pins s σ H E I hf st hg
   subst hP hw hK
   obtain ⟨ha,hi⟩:=hg
   obtain ⟨z,hd,vs,rel,dd⟩:=yE I ha hep
   have hlv:=rel.length
   obtain ⟨f0,f1,f2,f3,f4,f5⟩:=hf it (by simp)
   obtain ⟨⟨k,v⟩,hx,hk1,_⟩:=pR rel (Aa hi)
   refine wpAny_pyNext_dict_item (knd:=aZ X.prog X.w) (by rw [← hlv]; exact st) dd hx fun key h' hk st' sb => ?_
   have I1:Inv X pins σ H { s with heap:=h' }:=I.turned (t':=s.toks) (fun b o hb e => (sb.2 b hb).trans e) f0 f1 f3 f4 f5
   obtain ⟨oi,e,c,d⟩:=id st'
   refine ⟨key,rfl,rQ (s:={ s with heap:=h' }) e c d (by decide) ⟨kV k,H,I1,dX5 hk,⟨rfl,kvs[i],Aa hi,by rw [hk1]⟩,?_,fun b hb => (hf b hb).1⟩⟩
   rw [hlv]
   exact st'
 done:=by
   intro X hP hw hK hc i pins s σ H E I hf st hg
   subst hP hw hK
   obtain ⟨ha,hi⟩:=hg
   obtain ⟨z,hd,vs,rel,dd⟩:=yE I ha hep
   have hlv:=rel.length
   obtain ⟨f0,f1,f2,f3,f4,f5⟩:=hf it (by simp)
   exact wpAny_pyNext_dict_end (knd:=aZ X.prog X.w) (I.ok.hd hc) (by rw [← hlv]; exact st) dd (List.getElem?_eq_none (by omega)) fun h' eb => ⟨rfl,I.turned (t':=s.toks) (fun b o hb e => eb b o hb e) f0 f1 f3 f4 f5⟩
 self:=fun _ _ _ _ _ st h => wpAny_pyIter_keyiter st h
section
variable {X:Cx} {tg:Expr}
theorem aJE {pins:List (Addr × Obj)} {σ:St} {H:Hp} {s:Shared} {a:Addr} {kvs:List (Key × V)} (I:Inv X pins σ H s) (ha:H a = some (.dK kvs)):∃ o es ep,s.heap.get? a = some o ∧ o.data = .dict es ep:=by
 obtain ⟨_,_,vs,_,o,es,ep,ho,_,hd,_⟩:=aJZ I.hok ha
 exact ⟨o,es,ep,ho,hd⟩
theorem bJY {pins:List (Addr × Obj)} {σ:St} {H:Hp} {s:Shared} {a:Addr} {o:Obj} {kvs:List (Key × V)} (I:Inv X pins σ H s) (ha:H a = some (.frz o (.dK kvs))):∃ ep,∃ es,o.data = .dict es ep:=by
 have ok:s.heap.get? a = some o ∧ (kvs.length ≤ sizeLine ∧ (a == sysModules) = false ∧ ∃ vs,KV kvs vs ∧ s.heap.DictOf (aZ X.prog X.w) a vs):=I.hok a _ ha
 obtain ⟨e,_,_,vs,_,o',es,ep,ho,_,hd,_⟩:=ok
 rw [e] at ho
 cases ho
 exact ⟨ep,es,hd⟩
def tJ (H:Hp) (a:Addr) (R:Obj → List (Key × V) → Hp → Prop):Prop:=(∃ kvs,H a = some (.dK kvs) ∧ ∀ o,R o kvs (upd H a (.frz o (.dK kvs)))) ∨ ∃ o kvs,H a = some (.frz o (.dK kvs)) ∧ R o kvs H
theorem walk_at {pins:List (Addr × Obj)} {σ:St} {H:Hp} {s:Shared} {a:Addr} {R:Obj → List (Key × V) → Hp → Prop} (I:Inv X pins σ H s) (h:tJ H a R) :
   ∃ o kvs H' ep,Inv X pins σ H' s ∧ H' a = some (.frz o (.dK kvs)) ∧ (∃ es,o.data = .dict es ep) ∧ R o kvs H':=by
 rcases h with ⟨kvs,ha,q⟩ | ⟨o,kvs,ha,q⟩
 · obtain ⟨o,es,ep,ho,hd⟩:=aJE I ha
   exact ⟨o,kvs,_,ep,I.freeze ha rfl ho,aB,⟨es,hd⟩,q o⟩
 · obtain ⟨ep,es,hd⟩:=bJY I ha
   exact ⟨o,kvs,H,ep,I,ha,⟨es,hd⟩,q⟩
def cQ5 (tl:TE):TI:=fun σ H R => tl σ H (gB fun a H1 => tJ H1 a fun o kvs H2 => R (Itd a o kvs) H2)
theorem zZ {l:Expr} {tl:TE} (hl:PE X l tl):PI X tg l (cQ5 tl):=by
 intro pins s σ H R I h
 refine thn (hl pins s σ H _ I h) fun v s1 ⟨x,H1,I1,r1,q1⟩ => ?_
 unfold gB at q1
 split at q1
 · cases r1
   rename_i a0 _
   obtain ⟨o,kvs,H2,ep,I2,ha,hep,q⟩:=walk_at I1 q1
   obtain ⟨z,hd,vs,rel,dd⟩:=yE I2 ha hep
   refine wpAny_pyIter_dict (knd:=aZ X.prog X.w) hd dd ?_
   refine ⟨s1.heap.objs.size,[s1.heap.objs.size],_,_,H2,rfl,I2.kept (t':=s1.toks) fun b o e => Af _ e,aXJ a0 _ o kvs ep hep,⟨_,Ax _ rfl,rfl,by rw [rel.length]; rfl⟩,fun b hb => ?_,q⟩
   have e:b = s1.heap.objs.size:=by simpa using hb
   subst e
   exact I2.fpOk (Ah _) (I2.hok.fresh (Ah _))
 · exact q1.elim
def isD (H:Hp) (p:Addr):Bool:=match H p with
 | some (.dK _) => true
 | some (.dT _) => true
 | some (.frz _ (.dK _)) => true
 | some (.frz _ (.dT _)) => true
 | _ => false
theorem cJJ {H:Hp} {p:Addr} (h:isD H p = true):IsD H p:=by
 unfold isD at h
 split at h
 · exact .inl ⟨_,.inl (by assumption)⟩
 · exact .inr ⟨_,.inl (by assumption)⟩
 · exact .inl ⟨_,.inr ⟨_,by assumption⟩⟩
 · exact .inr ⟨_,.inr ⟨_,by assumption⟩⟩
 · cases h
theorem mZ {H:Hp} {p:Addr} {kvs:List (Key × V)} (h:H p = some (.dK kvs)):isD H p = true:=by unfold isD; rw [h]
theorem bZE {H:Hp} {p:Addr} {o:Obj} {kvs:List (Key × V)} (h:H p = some (.frz o (.dK kvs))):isD H p = true:=by unfold isD; rw [h]
end
section
variable {a:Addr} {o:Obj} {kvs:List (Key × V)} {g:TG} {tb:TS} {D:Ends} {σ:St} {H:Hp} {R:It → Hp → Prop} {tl:TE}
theorem dX9 (Pv:Nat → St → Hp → Prop) (h0:Pv 0 σ H) (hl:∀ i σ H,i ≤ kvs.length → Pv i σ H → H a = some (.frz o (.dK kvs)))
   (hs:∀ i kv σ H p,kvs[i]? = some kv → Pv i σ H → H p = none → g (.ref p) σ (upd H p (.tup [kV kv.1,kv.2])) fun σ2 H2 => tb { D with nx:=Pv (i + 1),ct:=Pv (i + 1),bk:=D.nx } σ2 H2) (hd:∀ σ H,Pv kvs.length σ H → D.nx σ H):qF (dZ6 a o kvs) g tb D σ H:=by
 refine ⟨fun i m σ H => m = kvs.length - i ∧ i ≤ kvs.length ∧ Pv i σ H,⟨kvs.length,by simp,Nat.zero_le _,h0⟩,?_⟩
 rintro i m σ H ⟨rfl,hi,p⟩
 have hr:=hl i σ H hi p
 by_cases hlt:i < kvs.length
 · refine .inr ⟨⟨hr,hlt⟩,Pv (i + 1),fun σ' H' p' => ⟨kvs.length - (i + 1),by omega,rfl,hlt,p'⟩,fun x H' y => ?_⟩
   obtain ⟨q,kv,hq,rfl,rfl,hx⟩:=y
   exact hs i kv σ H q hx p hq
 · have e:i = kvs.length:=by omega
   subst e
   exact .inl ⟨⟨hr,rfl⟩,hd σ H p⟩
theorem bJQ (Pv:Nat → St → Hp → Prop) (h0:Pv 0 σ H) (hl:∀ i σ H,i ≤ kvs.length → Pv i σ H → H a = some (.frz o (.dK kvs)))
   (hs:∀ i kv σ H,kvs[i]? = some kv → Pv i σ H → g (kV kv.1) σ H fun σ2 H2 => tb { D with nx:=Pv (i + 1),ct:=Pv (i + 1),bk:=D.nx } σ2 H2) (hd:∀ σ H,Pv kvs.length σ H → D.nx σ H):qF (Itd a o kvs) g tb D σ H:=by
 refine ⟨fun i m σ H => m = kvs.length - i ∧ i ≤ kvs.length ∧ Pv i σ H,⟨kvs.length,by simp,Nat.zero_le _,h0⟩,?_⟩
 rintro i m σ H ⟨rfl,hi,p⟩
 have hr:=hl i σ H hi p
 by_cases hlt:i < kvs.length
 · refine .inr ⟨⟨hr,hlt⟩,Pv (i + 1),fun σ' H' p' => ⟨kvs.length - (i + 1),by omega,rfl,hlt,p'⟩,fun x H' y => ?_⟩
   obtain ⟨rfl,kv,hx,rfl⟩:=y
   exact hs i kv σ _ hx p
 · have e:i = kvs.length:=by omega
   subst e
   exact .inl ⟨⟨hr,rfl⟩,hd σ H p⟩
theorem cQL (h:tl σ H (gB fun a H1 => tJ H1 a fun o kvs H2 => R (Itd a o kvs) H2)):cQ5 tl σ H R:=h
theorem aJH {Rw:Obj → List (Key × V) → Hp → Prop} (e:H a = some (.dK kvs)) (h:∀ o,Rw o kvs (upd H a (.frz o (.dK kvs)))):tJ H a Rw:=.inl ⟨kvs,e,h⟩
end
section
variable {X:Cx} {o e:Expr} {es:List Expr} {to:TE} {t:TA} {name:Str} {apos cpos:Pos} {id:String} {r:V → List V → Hp → VK → Prop}
def aZX (r:V → List V → Hp → VK → Prop) (to:TE) (t:TA):TE:=fun σ H Q => to σ H (gB fun p H1 => isD H1 p = true ∧ t σ H1 fun xs H2 => r (.ref p) xs H2 Q)
theorem fF (slot:Slot "dict" name id) (hty:typeOf (.builtin id) = pure (.type "method_descriptor")) (hm:MtR X id r) (ho:PE X o to) (ha:PA X (e :: es) t)
   (hbase:attributeBase o name X.env (eval o X.env) = eval o X.env:=by rfl)
   (hfew:((backTo cpos (starEach (e :: es) X.env)).all (fun x => !x.1) && (backToKw cpos (keywordEach [] X.env)).all (fun x => x.1.isSome)
     && decide ((e :: es).length + ([]:List Keyword).length + (if ([]:List Keyword).isEmpty then 0 else 1) < 30)) = true:=by rfl)
   (hline:(apos.endLine == cpos.line) = true:=by rfl) (hs:starEach (e :: es) X.env = (false,eval e X.env) :: starEach es X.env:=by rfl) (hplain:(backTo cpos (starEach es X.env)).any (·.1) = false:=by rfl) :
   PE X (.Call (.Attribute o name apos) (e :: es) [] cpos) (aZX r to t):=by
 intro pins s σ H Q I h
 refine wpAny_Call_method_late hbase hfew hline rfl (thn (ho pins s σ H _ I h) fun v s1 ⟨x,H1,I1,r1,q⟩ => ?_)
 unfold gB at q
 split at q
 · obtain ⟨hd,q1⟩:=q
   obtain ⟨h1,h2,_⟩:=cZH I1 (cJJ hd)
   cases _root_.id r1
   refine ⟨"dict",_,PySem.F.plainAttrs_dict,slot,hty,h1,h2,?_⟩
   have hA:=ha cpos pins s1 σ H1 _ I1 q1
   rw [hs] at hA ⊢
   refine Calls.callWith_builtin (by show (false || (backTo cpos (starEach es X.env)).any (·.1)) = false; rw [hplain] <;> rfl) (Calls.evalArgs_plain ?_)
   exact thn hA fun us s2 ⟨vs,H2,I2,r2,q2⟩ => hm pins s2 σ H2 _ vs _ us Q I2 r1 r2 q2
 · exact q.elim
def dQ4:V → List V → Hp → VK → Prop:=fun x vs H Q => ∃ a y z o,x = .ref a ∧ vs = [y,z] ∧ DGet H a y o ∧ Q (o.getD z) H
theorem rL (hu:X.A.units + 1 < cLine):MtR X "dict.get" dQ4:=by
 intro pins s σ H x vs v us Q I rx rv h
 obtain ⟨a,y,z,ov,rfl,rfl,g,q⟩:=h
 cases rx
 obtain ⟨u,w',rfl,ru,rw'⟩:=aQ5 rv
 exact cJD hu I g ru rw' fun w1 s1 I1 r1 => ⟨_,H,I1,r1,q⟩
def aQL:List V → Hp → VK → Prop:=fun xs H Q => ∃ a kvs,xs = [.ref a] ∧ Rd H a (.dK kvs) ∧ ∀ p,H p = none → Q (.ref p) (upd H p (.dK kvs))
theorem bZA:CallR X (.type "dict") aQL:=by
 intro pins s σ H xs us Q I r h
 obtain ⟨a,kvs,rfl,ha,q⟩:=h
 obtain ⟨u,rfl,ru⟩:=fI r
 cases ru
 exact bQO I ha fun p s1 hp I1 => ⟨.ref p,_,I1,rfl,q p hp⟩
def cZN (x y:V) (H:Hp) (Q:VK):Prop:=∃ a v,x = .ref a ∧ DGet H a y (some v) ∧ Q v H
def aZZ (D:Ends) (σ:St) (x y v:V) (H:Hp):Prop:=∃ a H4,x = .ref a ∧ DPut H a y v H4 ∧ D.nx σ H4
end
section
variable {σ:St} {H:Hp} {Q:VK} {D:Ends} {a:Addr} {kvs:List (Key × V)} {z:Str} {v w:V} {to td ty tv:TE} {t:TA} {r:V → List V → Hp → VK → Prop}
theorem bZ2 (h:to σ H (gB fun p H1 => isD H1 p = true ∧ t σ H1 fun xs H2 => r (.ref p) xs H2 Q)):aZX r to t σ H Q:=h
theorem cJ5 {P:Prop} (e:isD H a = true) (h:P):isD H a = true ∧ P:=⟨e,h⟩
theorem rG (e:Rd H a (.dK kvs)) (h:Q ((bR kvs (Sum.inr z)).getD w) H):dQ4 (.ref a) [.str z,w] H Q:=⟨a,.str z,w,_,rfl,rfl,.inl ⟨kvs,.inr z,e,rfl,rfl⟩,h⟩
theorem aJL (e:Rd H a (.dK kvs)) (h:∀ p,H p = none → Q (.ref p) (upd H p (.dK kvs))):aQL [.ref a] H Q:=⟨a,kvs,rfl,e,h⟩
theorem cXY (h:∀ p,H p = none → Q (.ref p) (upd H p (.dK []))):bQ9 σ H Q:=h
theorem dQL (h:td σ H fun x H1 => ty σ H1 fun y H2 => cZN x y H2 Q):cQY td ty σ H Q:=h
theorem cK (e:Rd H a (.dK kvs)) (l:bR kvs (Sum.inr z) = some v) (h:Q v H):cZN (.ref a) (.str z) H Q:=⟨a,v,rfl,.inl ⟨kvs,.inr z,e,rfl,l.symm⟩,h⟩
theorem cZJ (h:tv σ H fun v H1 => td σ H1 fun x H2 => ty σ H2 fun y H3 => aZZ D σ x y v H3):cQN td ty tv D σ H:=h
theorem dR (e:H a = some (.dK kvs)) (l:kvs.length < sizeLine) (h:D.nx σ (upd H a (.dK (cP kvs (Sum.inr z) v)))):aZZ D σ (.ref a) (.str z) v H:=⟨a,_,rfl,.inl ⟨kvs,.inr z,e,rfl,l,rfl⟩,h⟩
end
end L2
set_option maxHeartbeats 4000000
namespace L2
open PySem PySem.Spec PyProof.Rows
open PySem.AutoSeq1 (wpAny_loadPart')
open PySem.MeetsSeq PySem.MeetsSeq2 PySem.MeetsSeq3
def EqW (P:Program) (w:World) (A:Around) (s:Shared) (u v:Value):Prop:=∀ (E:Value → Shared → Prop) (Q:Bool → Shared → Prop),Q true s → wpAny (model P w) A (eqBool u v) Q E s
theorem aZL {P:Program} {w:World} (l b:Addr) (xs ys:Array Value) (n n2:Nat) (dd dd2:Option Addr) (sl sl2:Array (Option Value)) (hsz:xs.size = ys.size) (k:Nat) :
   ∀ i:Nat,xs.size - i = k → MeetsIn P w (Builtin.«list.__eq__.loop» ⟨[.ref l,.ref b,rawInt i,rawInt 2],[]⟩)
     (fun A R s => s.heap.get? l = some ⟨.type "list",dd,.seq xs n,sl⟩ ∧ s.heap.get? b = some ⟨.type "list",dd2,.seq ys n2,sl2⟩ ∧ (∀ j (h1:j < xs.size) (h2:j < ys.size),EqW P w A.in1 s xs[j] ys[j]) ∧ R (.ok (.ret (.bool true))) s):=by
 induction k with
 | zero =>
   intro i hk A R s h
   obtain ⟨hp,g,d,tk,os⟩:=s
   obtain ⟨ha,hq,he,h⟩:=h
   wp_walk using (Bu ha),(Bu hq)
   have n1:xs[((i:Nat):Int).toNat]? = none:=by simp; omega
   have n2':ys[((i:Nat):Int).toNat]? = none:=by simp; omega
   rw [n1,n2']
   wp_walk using (Bu ha),(Bu hq)
   show R (.ok (.ret (.bool (xs.size == ys.size)))) _
   rw [hsz,beq_self_eq_true]
   exact h
 | succ k ih =>
   intro i hk A R s h
   obtain ⟨hp,g,d,tk,os⟩:=s
   obtain ⟨ha,hq,he,h⟩:=h
   wp_walk using (Bu ha),(Bu hq)
   have l1:i < xs.size:=by omega
   have l2:i < ys.size:=by omega
   have n1:xs[((i:Nat):Int).toNat]? = some xs[i]:=by simp [l1]
   have n2':ys[((i:Nat):Int).toNat]? = some ys[i]:=by simp [l2]
   have hc:((i:Int) + 1) = ((i + 1:Nat):Int):=by push_cast; rfl
   rw [n1,n2']
   refine Ae (he i l1 l2 _ _ ?_)
   wp_walk
   rw [hc]
   refine ⟨Gm plain_eq_loop _,Ef entry_eq_loop ?_⟩
   rw [Ej plain_eq_loop _]
   exact ih (i + 1) (by omega) A R _ ⟨ha,hq,he,h⟩
theorem aXF {P:Program} {w:World} (l b:Addr) (xs ys:Array Value) (n n2:Nat) (dd dd2:Option Addr) (sl sl2:Array (Option Value)) (hsz:xs.size = ys.size) (k:Nat) :
   ∀ i:Nat,xs.size - i = k → MeetsIn P w (Builtin.«list.__eq__.loop» ⟨[.ref l,.ref b,rawInt i,rawInt 3],[]⟩)
     (fun A R s => s.heap.get? l = some ⟨.type "list",dd,.seq xs n,sl⟩ ∧ s.heap.get? b = some ⟨.type "list",dd2,.seq ys n2,sl2⟩ ∧ (∀ j (h1:j < xs.size) (h2:j < ys.size),EqW P w A.in1 s xs[j] ys[j]) ∧ R (.ok (.ret (.bool false))) s):=by
 induction k with
 | zero =>
   intro i hk A R s h
   obtain ⟨hp,g,d,tk,os⟩:=s
   obtain ⟨ha,hq,he,h⟩:=h
   wp_walk using (Bu ha),(Bu hq)
   have n1:xs[((i:Nat):Int).toNat]? = none:=by simp; omega
   have n2':ys[((i:Nat):Int).toNat]? = none:=by simp; omega
   rw [n1,n2']
   wp_walk using (Bu ha),(Bu hq)
   show R (.ok (.ret (.bool (xs.size != ys.size)))) _
   rw [hsz,bne_self_eq_false]
   exact h
 | succ k ih =>
   intro i hk A R s h
   obtain ⟨hp,g,d,tk,os⟩:=s
   obtain ⟨ha,hq,he,h⟩:=h
   wp_walk using (Bu ha),(Bu hq)
   have l1:i < xs.size:=by omega
   have l2:i < ys.size:=by omega
   have n1:xs[((i:Nat):Int).toNat]? = some xs[i]:=by simp [l1]
   have n2':ys[((i:Nat):Int).toNat]? = some ys[i]:=by simp [l2]
   have hc:((i:Int) + 1) = ((i + 1:Nat):Int):=by push_cast; rfl
   rw [n1,n2']
   refine Ae (he i l1 l2 _ _ ?_)
   wp_walk
   rw [hc]
   refine ⟨Gm plain_eq_loop _,Ef entry_eq_loop ?_⟩
   rw [Ej plain_eq_loop _]
   exact ih (i + 1) (by omega) A R _ ⟨ha,hq,he,h⟩
section
variable {P:Program} {w:World} {A:Around} {E:Value → Shared → Prop} {s:Shared} {l b:Addr} {xs ys:Array Value}
theorem cJC {Q:Value → Shared → Prop} (hl:s.heap.IsList l xs) (hb:s.heap.IsList b ys) (hsz:xs.size = ys.size) (hu:A.units < cLine) (he:∀ j (h1:j < xs.size) (h2:j < ys.size),EqW P w A.in1 s xs[j] ys[j]) (h:Q (.bool true) s) :
   wpAny (model P w) A (richCompare .Eq (.ref l) (.ref b)) Q E s:=by
 obtain ⟨⟨cls,dd,data,sl⟩,ho,hc,n,hd⟩:=id hl
 obtain ⟨⟨cls2,dd2,data2,sl2⟩,ho2,hc2,n2,hd2⟩:=id hb
 obtain rfl:cls = .type "list" := hc
 obtain rfl:data = .seq xs n:=hd
 obtain rfl:cls2 = .type "list" := hc2
 obtain rfl:data2 = .seq ys n2:=hd2
 have g:MeetsIn P w (Builtin.«list.__eq__» ⟨[.ref l,.ref b],[]⟩) (fun A R s => s.heap.get? l = some ⟨.type "list",dd,.seq xs n,sl⟩ ∧ s.heap.get? b = some ⟨.type "list",dd2,.seq ys n2,sl2⟩ ∧ (∀ j (h1:j < xs.size) (h2:j < ys.size),EqW P w A.in1 s xs[j] ys[j]) ∧ R (.ok (.ret (.bool true))) s):=by
   intro A R s h
   obtain ⟨hp,g,d,tk,os⟩:=s
   obtain ⟨ha,hq,he,h⟩:=h
   have f3:=AutoSeq1.sub_list_list
   have hne:¬ (xs.size != ys.size) = true:=by simp [hsz]
   wp_walk using (Bu ha),(Bu hq)
   refine ⟨Gm plain_eq_loop _,Ef entry_eq_loop ?_⟩
   rw [Ej plain_eq_loop _]
   exact aZL l b xs ys n n2 dd dd2 sl sl2 hsz _ 0 rfl A R _ ⟨ha,hq,he,h⟩
 exact wpAny_richCompare_same_room (op:=.Eq) ⟨_,ho,rfl⟩ ⟨_,ho2,rfl⟩ PySem.F.slot_list_eq (Ge PySem.F.slot_list_eq ⟨_,ho,rfl⟩ PySem.F.entry_list_eq (PySem.F.args_list_eq_2 _ _) g ⟨ho,ho2,he,show Value.bool true ≠ Value.notImplemented ∧ Q (.bool true) s from ⟨(fun x => nomatch x),h⟩⟩) hu
theorem cXP {Q:Value → Shared → Prop} (hl:s.heap.IsList l xs) (hb:s.heap.IsList b ys) (hsz:xs.size = ys.size) (hu:A.units < cLine) (he:∀ j (h1:j < xs.size) (h2:j < ys.size),EqW P w A.in1 s xs[j] ys[j]) (h:Q (.bool false) s) :
   wpAny (model P w) A (richCompare .NotEq (.ref l) (.ref b)) Q E s:=by
 obtain ⟨⟨cls,dd,data,sl⟩,ho,hc,n,hd⟩:=id hl
 obtain ⟨⟨cls2,dd2,data2,sl2⟩,ho2,hc2,n2,hd2⟩:=id hb
 obtain rfl:cls = .type "list" := hc
 obtain rfl:data = .seq xs n:=hd
 obtain rfl:cls2 = .type "list" := hc2
 obtain rfl:data2 = .seq ys n2:=hd2
 have g:MeetsIn P w (Builtin.«list.__ne__» ⟨[.ref l,.ref b],[]⟩) (fun A R s => s.heap.get? l = some ⟨.type "list",dd,.seq xs n,sl⟩ ∧ s.heap.get? b = some ⟨.type "list",dd2,.seq ys n2,sl2⟩ ∧ (∀ j (h1:j < xs.size) (h2:j < ys.size),EqW P w A.in1 s xs[j] ys[j]) ∧ R (.ok (.ret (.bool false))) s):=by
   intro A R s h
   obtain ⟨hp,g,d,tk,os⟩:=s
   obtain ⟨ha,hq,he,h⟩:=h
   have f3:=AutoSeq1.sub_list_list
   have hne:¬ (xs.size != ys.size) = true:=by simp [hsz]
   wp_walk using (Bu ha),(Bu hq)
   refine ⟨Gm plain_eq_loop _,Ef entry_eq_loop ?_⟩
   rw [Ej plain_eq_loop _]
   exact aXF l b xs ys n n2 dd dd2 sl sl2 hsz _ 0 rfl A R _ ⟨ha,hq,he,h⟩
 exact wpAny_richCompare_same_room (op:=.NotEq) ⟨_,ho,rfl⟩ ⟨_,ho2,rfl⟩ PySem.F.slot_list_ne (Ge PySem.F.slot_list_ne ⟨_,ho,rfl⟩ PySem.F.entry_list_ne (PySem.F.args_list_ne_2 _ _) g ⟨ho,ho2,he,show Value.bool false ≠ Value.notImplemented ∧ Q (.bool false) s from ⟨(fun x => nomatch x),h⟩⟩) hu
theorem EqW.same (u:Value):EqW P w A s u u:=fun E Q hq => SeqAt.EqAt.same u P w E Q hq
theorem EqW.refs (hne:l ≠ b) (h:∀ (E:Value → Shared → Prop) (Q:Value → Shared → Prop),Q (.bool true) s → wpAny (model P w) A (richCompare .Eq (.ref l) (.ref b)) Q E s):EqW P w A s (.ref l) (.ref b):=fun E Q hq => by
 unfold eqBool
 refine Cy (wpAny_ite_split (fun hab => absurd (by have:=eq_of_beq hab; injection this) hne) (fun _ => ?_))
 exact Ae (h E _ (Eg hq))
end
def DEq (kvs kws:List (Key × V)):Prop:=kvs.length = kws.length ∧ ∀ kv ∈ kvs,bW kv.2 = true ∧ bR kws kv.1 = some kv.2
theorem aQJ {A:Around} {s:Shared} {kws:List (Key × V)} {ws:List (Key × Value)} (rw':KV kws ws) {kvs:List (Key × V)} {vs:List (Key × Value)} (r:KV kvs vs) (h:∀ kv ∈ kvs,bW kv.2 = true ∧ bR kws kv.1 = some kv.2):PySem.W.KeqHits A s ws vs true:=by
 unfold KV at r
 induction r with
 | nil => exact .nil
 | @cons kv vv _ _ hk t ih =>
   obtain ⟨k,v⟩:=kv
   obtain ⟨k',u⟩:=vv
   obtain ⟨e,ru⟩:=hk
   cases e
   obtain ⟨f,hv⟩:=h (k,v) (An ..)
   have ro:=rw'.val k
   rw [hv] at ro
   cases ey:valueAt ws k with
   | none => rw [ey] at ro; exact (show False from ro).elim
   | some y =>
     rw [ey] at ro
     have eq:=pV (A:=A) (s:=s) ru (show RelV v y from ro) f f
     rw [pH f] at eq
     exact .hit (e:=true) (b:=true) ey eq (ih fun kv hkv => h kv (Ao _ hkv))
theorem bZR {X:Cx} {pins:List (Addr × Obj)} {σ:St} {H:Hp} {s:Shared} (I:Inv X pins σ H s) {A:Around} {p q:Addr} {kvs kws:List (Key × V)} (hp:Rd H p (.dK kvs)) (hq:Rd H q (.dK kws)) (d:DEq kvs kws) (hu:A.units < cLine) (E:Value → Shared → Prop) (Q:Value → Shared → Prop) :
   (Q (.bool true) s → wpAny (model X.prog X.w) A (richCompare .Eq (.ref p) (.ref q)) Q E s) ∧ (Q (.bool false) s → wpAny (model X.prog X.w) A (richCompare .NotEq (.ref p) (.ref q)) Q E s):=by
 obtain ⟨z1,d1,vs,r1,dd1⟩:=iM I.hok hp
 obtain ⟨z2,d2,ws,r2,dd2⟩:=iM I.hok hq
 have hl:(vs.length == ws.length) = true:=beq_iff_eq.mpr (by rw [← r1.length,← r2.length]; exact d.1)
 refine ⟨fun h => PySem.W.keq_eq (r:=true) d1 d2 dd1 dd2 hu (fun _ => aQJ r2 r1 d.2) (by rw [hl]; exact h),fun h => PySem.W.keq_ne (r:=true) d1 d2 dd1 dd2 hu (fun _ => aQJ r2 r1 d.2) (by rw [hl]; exact h)⟩
def Alw (H:Hp):Nat → V → V → Prop
 | 0,x,y => x = y ∧ bW x = true
 | n + 1,x,y => (x = y ∧ bW x = true) ∨ ∃ p q,x = .ref p ∧ y = .ref q ∧ ((∃ xs ys,rdL H p = some xs ∧ rdL H q = some ys ∧ xs.length = ys.length ∧ ∀ (j:Nat) x' y',xs[j]? = some x' → ys[j]? = some y' → Alw H n x' y') ∨ ∃ kvs kws,Rd H p (.dK kvs) ∧ Rd H q (.dK kws) ∧ DEq kvs kws)
theorem Alw.flat {H:Hp} {n:Nat} {x:V} (h:bW x = true):Alw H n x x:=by
 cases n with
 | zero => exact ⟨rfl,h⟩
 | succ n => exact .inl ⟨rfl,h⟩
theorem Alw.lst {H:Hp} {n:Nat} {p q:Addr} {xs ys:List V} (hp:rdL H p = some xs) (hq:rdL H q = some ys) (hl:xs.length = ys.length) (h:∀ (j:Nat) x y,xs[j]? = some x → ys[j]? = some y → Alw H n x y):Alw H (n + 1) (.ref p) (.ref q):=.inr ⟨p,q,rfl,rfl,.inl ⟨xs,ys,hp,hq,hl,h⟩⟩
theorem Alw.dic {H:Hp} {n:Nat} {p q:Addr} {kvs kws:List (Key × V)} (hp:Rd H p (.dK kvs)) (hq:Rd H q (.dK kws)) (d:DEq kvs kws):Alw H (n + 1) (.ref p) (.ref q):=.inr ⟨p,q,rfl,rfl,.inr ⟨kvs,kws,hp,hq,d⟩⟩
theorem Alw.flats {H:Hp} {n:Nat} {xs:List V} (f:xs.all bW = true):∀ (j:Nat) x y,xs[j]? = some x → xs[j]? = some y → Alw H n x y:=fun j x y hx hy => by
 rw [hx] at hy
 cases hy
 exact .flat (Eu.mp f x (Ai hx))
theorem xW {X:Cx} {pins:List (Addr × Obj)} {σ:St} {H:Hp} {s:Shared} (I:Inv X pins σ H s) {n:Nat} {A:Around} (ih:∀ x y u v,Alw H n x y → RelV x u → RelV y v → EqW X.prog X.w A.in1 s u v) {p q:Addr} (h:Alw H (n + 1) (.ref p) (.ref q)) (hu:A.units < cLine) (E:Value → Shared → Prop) (Q:Value → Shared → Prop) :
   (Q (.bool true) s → wpAny (model X.prog X.w) A (richCompare .Eq (.ref p) (.ref q)) Q E s) ∧ (Q (.bool false) s → wpAny (model X.prog X.w) A (richCompare .NotEq (.ref p) (.ref q)) Q E s):=by
 rcases h with ⟨_,f⟩ | ⟨p',q',e1,e2,hpq⟩
 · cases f
 · cases e1
   cases e2
   rcases hpq with ⟨xs,ys,hp,hq,hl,h⟩ | ⟨kvs,kws,hp,hq,d⟩
   · obtain ⟨its,r1,l1,_⟩:=I.list (aW hp)
     obtain ⟨its2,r2,l2,_⟩:=I.list (aW hq)
     have e1:=r1.length
     have e2:=r2.length
     have he:∀ j (h1:j < its.toArray.size) (h2:j < its2.toArray.size),EqW X.prog X.w A.in1 s its.toArray[j] its2.toArray[j]:=fun j h1 h2 => by
       have h1':j < its.length:=by simpa using h1
       have h2':j < its2.length:=by simpa using h2
       obtain ⟨u',hu',ru'⟩:=r1.get (Aa (show j < xs.length by omega))
       obtain ⟨v',hv',rv'⟩:=r2.get (Aa (show j < ys.length by omega))
       rw [Aa h1'] at hu'
       rw [Aa h2'] at hv'
       cases hu'
       cases hv'
       simpa using ih _ _ _ _ (h j _ _ (List.getElem?_eq_getElem _) (List.getElem?_eq_getElem _)) ru' rv'
     have hs:its.toArray.size = its2.toArray.size:=by simp only [List.size_toArray]; omega
     exact ⟨fun q => cJC l1.isList l2.isList hs hu he q,fun q => cXP l1.isList l2.isList hs hu he q⟩
   · exact bZR I hp hq d hu E Q
theorem bXW {X:Cx} {pins:List (Addr × Obj)} {σ:St} {H:Hp} {s:Shared} (I:Inv X pins σ H s):∀ (n:Nat) (A:Around) (x y:V) (u v:Value),Alw H n x y → RelV x u → RelV y v → A.units + n < cLine → EqW X.prog X.w A s u v:=by
 intro n
 induction n with
 | zero =>
   intro A x y u v h ru rv hu
   obtain ⟨rfl,f⟩:=h
   have:=pV (A:=A) (s:=s) ru rv f f
   rw [pH f] at this
   exact fun E Q hq => this X.prog X.w E Q hq
 | succ n ih =>
   intro A x y u v h ru rv hu
   rcases id h with ⟨rfl,f⟩ | ⟨p,q,rfl,rfl,hpq⟩
   · have:=pV (A:=A) (s:=s) ru rv f f
     rw [pH f] at this
     exact fun E Q hq => this X.prog X.w E Q hq
   · cases ru
     cases rv
     by_cases e:p = q
     · subst e
       exact .same _
     exact .refs e fun E Q hq => (xW I (fun x y u v hx hu' hv' => ih A.in1 x y u v hx hu' hv' (by show A.units + 1 + n < cLine; omega)) h (by omega) E Q).1 hq
section
variable {X:Cx}
def cJS (neg:Bool):R2:=fun x y H Q => ∃ n p q,n ≤ 50 ∧ x = .ref p ∧ y = .ref q ∧ Alw H (n + 1) x y ∧ Q (.bl (!neg)) H
theorem dJA (hu:X.A.units + 64 < cLine):OpR X (compareOp .Eq) (cJS false):=by
 intro pins s σ H x y v u Q I rx ry h
 obtain ⟨n,p,q,hn,rfl,rfl,al,k⟩:=h
 cases rx
 cases ry
 exact (xW I (fun x y u v hx hu' hv' => bXW I n X.A.in1 x y u v hx hu' hv' (by show X.A.units + 1 + n < cLine; omega)) al (by omega) _ _).1 ⟨.bl true,H,I,rfl,k⟩
theorem dQO (hu:X.A.units + 64 < cLine):OpR X (compareOp .NotEq) (cJS true):=by
 intro pins s σ H x y v u Q I rx ry h
 obtain ⟨n,p,q,hn,rfl,rfl,al,k⟩:=h
 cases rx
 cases ry
 exact (xW I (fun x y u v hx hu' hv' => bXW I n X.A.in1 x y u v hx hu' hv' (by show X.A.units + 1 + n < cLine; omega)) al (by omega) _ _).2 ⟨.bl false,H,I,rfl,k⟩
theorem dXM {neg:Bool} {p q:Addr} {H:Hp} {Q:VK} (n:Nat) (al:Alw H (n + 1) (.ref p) (.ref q)) (h:Q (.bl (!neg)) H) (hn:n ≤ 50:=by omega):cJS neg (.ref p) (.ref q) H Q:=⟨n,p,q,hn,rfl,rfl,al,h⟩
end
section
variable {X:Cx} {e:Expr} {te:TE} {p2 pos pu pc:Pos} {j:Nat}
end
theorem Room.u1 {k:Nat} {A:Around} (r:Room k A):A.units + 1 < cLine:=by have:=r.un; omega
section
variable {X:Cx} {pu pc:Pos} {j:Nat}
end
theorem dXQ {Hs H:Hp} {D:Ends} {σ:St} (h:D.nx σ (unf Hs H)):(aQ9 Hs D).nx σ H:=h
end L2
set_option maxHeartbeats 4000000
namespace L2
open PySem PySem.Spec PyProof.Rows
open PySem.AutoSeq1 (wpAny_loadPart')
section
variable {prog:Program} {w:World} {A:Around} {E:Value → Shared → Prop} {s:Shared}
end
section
variable {X:Cx}
theorem aQZ:∀ {xs:List V} {us:List Value},us.length = xs.length → (∀ (j:Nat) x u,xs[j]? = some x → us[j]? = some u → RelV x u) → Vals xs us
 | [],[],_,_ => .nil
 | x :: r,u :: t,hl,h => .cons (h 0 x u rfl rfl) (aQZ (by simpa using hl) fun j x' u' a b => h (j + 1) x' u' (by simpa using a) (by simpa using b))
 | [],_ :: _,hl,_ => absurd hl (by simp)
 | _ :: _,[],hl,_ => absurd hl (by simp)
end
end L2
set_option maxHeartbeats 4000000
namespace L2
open PySem PySem.Spec PyProof.Rows PySem.W
section
variable {prog:Program} {w:World} {A:Around} {E:Value → Shared → Prop} {s:Shared} {K:Frag} {x D:Addr} {ox:Obj} {od:Option Obj}
theorem bZ1 {name:Str} {v:Value} {expr:Bool} {Q:Value → Shared → Prop} (Z:ExK K D) (X:K.In s.heap) (I:InstAt s.heap x ox D od) (hf:findObj K D od name = some (.value v)) (hh:handedIn v = true) (h:Q v { s with toks:=s.toks + 1 }) :
   wpAny (model prog w) A (getAttr (.ref x) name expr) Q E s:=by
 obtain ⟨hp,g,d,t,os⟩:=s
 have L0:=I.type (M:=model prog w)
 have L1:=looks_findIn (M:=model prog w) X Z.ga
 have L2:=looks_findIn (M:=model prog w) X Z.gh
 have L3:=looks_find (M:=model prog w) X I hf
 unfold getAttr getAttrBy
 refine Ae (wpAny_mkText (Cy (Ae (L0.at (Ae (L1.at ?_))))))
 have ne:(Value.builtin "BaseException.__getattribute__" == Value.builtin "object.__getattribute__") = false:=by decide +kernel
 have fb:=F.excAttr_ValueError.ga.bind (.ref x)
 dsimp only
 rw [ne,Bool.and_false,if_neg Al]
 unfold getAttrByItsOwn hookBefore
 rw [if_pos (show onTheHeap (Value.ref D) = true from rfl)]
 refine Ae (L2.at (Ae (wpAny_attempt (Cy ?_))))
 unfold callGetattribute boundAndCalled
 rw [if_neg (by rw [show onTheHeap (Value.builtin "BaseException.__getattribute__") = false from rfl,Bool.and_false]; exact Al)]
 refine Ae (wpAny_of_eq fb ?_)
 refine Fu (Dr F.excAttr_ValueError.ga.plain F.entry_bexc_ga (aXM Z X I ?_))
 unfold Builtin.«object.__getattribute__»
 refine Ae (Am (Ae (Am (Ae (L0.at (Ae (L3.at ?_)))))))
 refine Am ?_
 exact handed_on hh h
theorem bXG {e t0:Addr} {oe:Obj} {vs:Array Value} {rest:List Value} {Q:Value → Shared → Prop} (Z:ExK K D) (X:K.In s.heap) (I:InstAt s.heap e oe D od) (hb:PySem.W.subIn K (.ref D) (.type "ValueError") = some true) (hd:oe.data = .fields vs) (h0:vs[0]? = some (.ref t0)) (hr:rest.length ≤ sizeLine)
   (h:Q .none { s with heap:=(s.heap.push { cls:=.type "tuple",data:=.seq rest.toArray }).update e (Obj.mapFields (·.setIfInBounds 0 (.ref s.heap.objs.size))) }) :
   wpAny (model prog w) A (call (.builtin "ValueError.__init__") (.ref e :: rest)) Q E s:=by
 have he:=I.at_
 obtain ⟨cd,hc,_⟩:=any_some Z.cls
 have FB:=Fj
 have L0:=I.type (M:=model prog w)
 have L1:=looks_subIn (M:=model prog w) X hb
 refine Fu (Dr FB.init.plain FB.initEntry ?_)
 have ck:∀ (Q:Unit → Shared → Prop) (E:Value → Shared → Prop) (B:Around),Q () s → wpAny (model prog w) B (checkBuiltinCall "ValueError.__init__" ⟨.ref e :: rest,[]⟩) Q E s:=fun Q E B hq => by
   simp only [checkBuiltinCall,FB.initKind,FB.initSplit,FB.initRow]
   refine Ae ((L0.andThen L1).at ?_)
   have hst:=FB.noStar
   have sg:∀ (a b:String) (n:Nat),Bind.check ⟨.positional, "*", "ValueError",.self,[⟨"args",.varPos,false⟩]⟩ a b n (List.map (fun x => x.fst) ({ pos:=Value.ref e :: rest }:Args).kw) = pure ():=fun a b n => check_star_args _ _ _ _ _ _
   repeat (first | wp_step)
   rw [I.cls]
   refine Ae ((looks_clsIn X hc).at (Am ?_))
   repeat (first | wp_step)
   refine wpAny_onRaise ?_
   rw [sg]
   exact Am hq
 refine ck _ _ _ ?_
 have hs0:0 < vs.size:=(Cm.mp h0).1
 have hg:=Af (h:=s.heap) { cls:=.type "tuple",data:=.seq rest.toArray } he
 unfold Builtin.«BaseException.__init__» newTuple Builtin.BaseException.bexcPut
 dsimp only
 rw [if_neg (by simp)]
 refine Ae (Gc (Ae (Ae (Ei hg hd h0 (Ae (Gd hg hd hs0 (wpAny_letGo (Am h))))))) (by show rest.toArray.size ≤ sizeLine; rw [Bo]; exact hr))
def yO (K:Frag) (D:Addr):Option (List Value):=(clsIn K D).map (·.mro)
theorem wF {T dx:Addr} {name:Str} {v:Value} {h1:Heap} {m:Str → Option Value} {ns:List Str} {Q:Unit → Shared → Prop} (Z:ExK K D) (X:K.In s.heap) (I:InstAt s.heap x ox D od)
   (hs:findIn K (.ref D) "__setattr__" = some (some (.builtin "object.__setattr__"))) (hm:yO K D = some [.ref D,.ref T,.type "ValueError",.type "Exception",.type "BaseException",.type "object"]) (hna:findIn K (.ref D) name = some none)
   (hi:∀ (B:Around) (Q':Option Addr → Shared → Prop) (E':Value → Shared → Prop),Q' (some dx) { s with heap:=h1,toks:=s.toks + 1 } → wpAny (model prog w) B (instanceDict x true) Q' E' { s with toks:=s.toks + 1 })
   (hn:h1.Ns1 dx m) (hw:Within m ns) (hz:ns.length < sizeLine)
   (h:∀ h' tk',h'.Ns1 dx (fun y => if y = name then some v else m y) → Heap.SameBut dx h1 h' → Q () { s with heap:=h',toks:=tk' }) :
   wpAny (model prog w) A (setAttr (.ref x) name v) Q E s:=by
 obtain ⟨cd,hc,hd'⟩:=any_some Z.cls
 have hmr:cd.mro = [.ref D,.ref T,.type "ValueError",.type "Exception",.type "BaseException",.type "object"]:=by
   unfold yO at hm
   rw [hc] at hm
   exact Bs hm
 have SF:=PySem.F.store_ValueError
 have sub:Looks (model prog w) s.heap (isInstance (.ref x) (.type "object")) true:=I.type.andThen (looks_mroIn X Z.mo)
 have hmm:Looks (model prog w) s.heap (mroOf (.ref D)) cd.mro:=(looks_clsIn X hc).andThen .now
 have hx:=I.at_
 refine set_plain X I hs ?_
 refine Dr SF.slot.plain SF.entry (@check_slot (model prog w) _ _ { s with toks:=s.toks + 1 } "object.__setattr__" "object" "__setattr__" (.ref x) [.str name s.toks,v] [] _ SF.kind SF.split sub (SF.args (.ref x) (.str name s.toks) v) ?_)
 rw [osa_eq,refuse_eq]
 refine Ae (Ae (I.type.here (s:={ s with toks:=s.toks + 1 }) (Ae (hmm.here (s:={ s with toks:=s.toks + 1 }) ?_))))
 rw [hmr,refuseLoop_ref,refuseLoop_ref,SF.passes]
 refine Am (Ae (I.type.here (s:={ s with toks:=s.toks + 1 }) (Ae ((looks_findIn X hna).here (s:={ s with toks:=s.toks + 1 }) (Ae (Am ?_))))))
 show wpAny (model prog w) A.in1 (Builtin.ObjectAttr.storeInOwnDict (Value.ref x) (Value.ref D) (Value.str name s.toks) name v false) _ _ _
 unfold Builtin.ObjectAttr.storeInOwnDict
 refine Ae (Am ?_)
 rw [if_neg (show ¬ ((Value.ref D == Value.type "module") = true) by simp)]
 unfold Builtin.ObjectAttr.ownDictForStores
 refine Ae (hi _ _ _ ?_)
 show wpAny (model prog w) A.in1 (Builtin.ObjectAttr.storeInDict dx (Value.str name s.toks) name v) _ _ _
 unfold Builtin.ObjectAttr.storeInDict Builtin.ObjectAttr.newKeyGuard
 refine Ae (Am (Ae (wpAny_nsSet1 hn fun h' hn' sb => ?_)))
 obtain ⟨oD,esD,epD,hoD,hdD,hcD⟩:=hn'.count (Within.cons name v hw)
 refine Ae (wpAny_lookBehind hoD (by rw [hdD]; exact pastItsLine_dict (Bb hcD (by rw [Az]; omega))) ?_)
 exact Am (h h' _ hn' sb)
theorem aJ3 {T:Addr} {name:Str} {v:Value} {vs:Array Value} {Q:Unit → Shared → Prop} (Z:ExK K D) (X:K.In s.heap) (I:InstAt s.heap x ox D none) (hda:ox.data = .fields vs) (hdn:ox.dict = none)
   (hs:findIn K (.ref D) "__setattr__" = some (some (.builtin "object.__setattr__"))) (hm:yO K D = some [.ref D,.ref T,.type "ValueError",.type "Exception",.type "BaseException",.type "object"]) (hna:findIn K (.ref D) name = some none)
   (h:∀ h' tk',h'.get? x = some { ox with dict:=some s.heap.objs.size } → h'.Ns1 s.heap.objs.size (fun y => if y = name then some v else none) → (∀ b o,b ≠ x → s.heap.get? b = some o → h'.get? b = some o) → Q () { s with heap:=h',toks:=tk' }) :
   wpAny (model prog w) A (setAttr (.ref x) name v) Q E s:=by
 obtain ⟨cd,hc,hd'⟩:=any_some Z.cls
 have hx:=I.at_
 have hx1:(s.heap.push { cls:=.type "dict",data:=.dict #[] }).get? x = some ox:=Af _ hx
 have hxs:x ≠ s.heap.objs.size:=Bj (Aq hx)
 have hgd:((s.heap.push { cls:=.type "dict",data:=.dict #[] }).update x fun o => { o with dict:=some s.heap.objs.size }).get? s.heap.objs.size = some { cls:=.type "dict",data:=.dict #[] } :=
   (Heap.get?_update_ne _ _ _ _ hxs.symm).trans (Heap.get?_push_at rfl rfl)
 have hnd:((s.heap.push { cls:=.type "dict",data:=.dict #[] }).update x fun o => { o with dict:=some s.heap.objs.size }).Ns s.heap.objs.size (fun _ => none) :=
   ⟨_,#[],_,hgd,rfl,fun e he => absurd he (by simp),fun _ => rfl⟩
 have hxu:((s.heap.push { cls:=.type "dict",data:=.dict #[] }).update x fun o => { o with dict:=some s.heap.objs.size }).get? x = some { ox with dict:=some s.heap.objs.size }:=by
   refine Heap.get?_update_self _ hx1 ?_
   obtain ⟨a,b,c,d⟩:=ox
   cases hda
   rfl
 refine wF Z X I hs hm hna (fun B Q' E' q => ?_) (Heap.Ns1.of_empty hnd) Within.nil (by rw [List.length_nil,Gp]; omega) fun h' tk' n sb => h h' tk' ((sb.2 x hxs).trans hxu) n fun b o hb e =>
   (sb.2 b (Bj (Aq e))).trans ((Heap.get?_update_ne _ _ _ _ hb).trans (Af _ e))
 unfold instanceDict
 refine Ae (wpAny_loadPart hx ?_)
 rw [I.cls]
 refine Ae ((looks_clsIn X hc).here (s:={ s with toks:=s.toks + 1 }) ?_)
 rw [hd',hdn,hda,if_neg (show ¬ ((!true) = true) by decide)]
 dsimp only
 rw [if_neg (show ¬ ((!true || !typeHasDict (Value.ref D)) = true) by simp [typeHasDict])]
 exact Ae (wpAny_alloc' (Ae (wpAny_update' hx1 (Am q))))
theorem bQM {T dx:Addr} {name:Str} {v:Value} {m:Str → Option Value} {ns:List Str} {odx:Obj} {Q:Unit → Shared → Prop} (Z:ExK K D) (X:K.In s.heap) (I:InstAt s.heap x ox D (some odx)) (hdn:ox.dict = some dx)
   (hs:findIn K (.ref D) "__setattr__" = some (some (.builtin "object.__setattr__"))) (hm:yO K D = some [.ref D,.ref T,.type "ValueError",.type "Exception",.type "BaseException",.type "object"]) (hna:findIn K (.ref D) name = some none)
   (hn:s.heap.Ns1 dx m) (hw:Within m ns) (hz:ns.length < sizeLine)
   (h:∀ h' tk',h'.Ns1 dx (fun y => if y = name then some v else m y) → Heap.SameBut dx s.heap h' → Q () { s with heap:=h',toks:=tk' }) :
   wpAny (model prog w) A (setAttr (.ref x) name v) Q E s:=by
 obtain ⟨cd,hc,hd'⟩:=any_some Z.cls
 refine wF Z X I hs hm hna (fun B Q' E' q => ?_) hn hw hz h
 unfold instanceDict
 refine Ae (wpAny_loadPart I.at_ ?_)
 rw [I.cls]
 refine Ae ((looks_clsIn X hc).here (s:={ s with toks:=s.toks + 1 }) ?_)
 rw [hd',hdn,if_neg (show ¬ ((!true) = true) by decide)]
 exact Am q
end
end L2
set_option maxHeartbeats 4000000
namespace L2
open PySem PySem.Spec PyProof.Rows PySem.W
def eJ (ea C:Addr) (d:Option Addr):HO:=.ext fun h => ∃ oe vs t0,h.get? ea = some oe ∧ oe.cls = .ref C ∧ oe.dict = d ∧ oe.data = .fields vs ∧ vs[1]? = some .none ∧ vs[0]? = some (.ref t0) ∧ vs[2]? = some .none
def xdO (dx:Addr) (fs:List (Str × V)):HO:=.ext fun h => ∃ mA,h.Ns1 dx mA ∧ (∀ f,RelO (fs.lookup f) (mA f)) ∧ Within mA (fs.map (·.1))
theorem sV {P:Program} {w:World} {H:Hp} {h:Heap} {ea C:Addr} {d:Option Addr} {oe:Obj} {vs:Array Value} {t0:Addr} (g:h.get? ea = some oe) (c:oe.cls = .ref C) (di:oe.dict = d) (da:oe.data = .fields vs) (h1:vs[1]? = some .none) (h0:vs[0]? = some (.ref t0)) (c2:vs[2]? = some .none) :
   ObjOk P w H h ea (eJ ea C d):=⟨⟨oe,vs,t0,g,c,di,da,h1,h0,c2⟩,⟨oe,g⟩,fun _ _ ⟨o,ws,t,g,q⟩ k => ⟨o,ws,t,k o g,q⟩⟩
theorem aJ6 {P:Program} {w:World} {H:Hp} {h:Heap} {dx:Addr} {fs:List (Str × V)} {mA:Str → Option Value} (n:h.Ns1 dx mA) (r:∀ f,RelO (fs.lookup f) (mA f)) (wi:Within mA (fs.map (·.1))):ObjOk P w H h dx (xdO dx fs):=by
 refine ⟨⟨mA,n,r,wi⟩,?_,fun _ _ ⟨m,⟨o,es,ep,g,q⟩,r⟩ k => ⟨m,⟨o,es,ep,k o g,q⟩,r⟩⟩
 obtain ⟨o,es,ep,g,_⟩:=n
 exact ⟨o,g⟩
structure XcK (K:Frag) (C T:Addr):Prop where
 ex:ExK K C
 sa:findIn K (.ref C) "__setattr__" = some (some (.builtin "object.__setattr__"))
 mro:yO K C = some [.ref C,.ref T,.type "ValueError",.type "Exception",.type "BaseException",.type "object"]
 vb:PySem.W.subIn K (.ref C) (.type "ValueError") = some true
def bQT (K:Frag) (C T:Addr):Bool:=(clsIn K C).any fun c => match c.mro with
 | [.ref a,.ref b,.type x,.type y,.type z,.type u] => a == C && b == T && x == "ValueError" && y == "Exception" && z == "BaseException" && u == "object"
 | _ => false
theorem aQ1 {K:Frag} {C T:Addr} (h:bQT K C T = true):yO K C = some [.ref C,.ref T,.type "ValueError",.type "Exception",.type "BaseException",.type "object"]:=by
 obtain ⟨c,hc,h⟩:=any_some h
 unfold yO
 rw [hc]
 split at h
 · rename_i hm
   simp only [Bool.and_eq_true,beq_iff_eq] at h
   obtain ⟨⟨⟨⟨⟨rfl,rfl⟩,rfl⟩,rfl⟩,rfl⟩,rfl⟩:=h
   exact Dq some hm
 · cases h
theorem jS {P:Program} {w:World} {H:Hp} {h:Heap} {ea D:Addr} {d:Option Addr} {oe:Obj} {vs:Array Value} (hok:HOk P w H h) (g:h.get? ea = some oe) (hc:oe.cls = .ref D) (hdi:oe.dict = d) (hda:oe.data = .fields vs) (hd:∀ dx,d = some dx → ∃ o,H dx = some o) :
   ∃ od,InstAt h ea oe D od:=by
 have no:notCls oe = true:=by
   obtain ⟨c,di,da,sl⟩:=oe
   cases hda
   rfl
 cases d with
 | none => exact ⟨none,g,hc,no,by rw [hdi]; trivial⟩
 | some dx =>
   obtain ⟨o,z⟩:=hd dx rfl
   obtain ⟨ob,g2⟩:=(hok dx o z).get
   exact ⟨some ob,g,hc,no,by rw [hdi]; exact g2⟩
theorem cZZ {H:Hp} {a:Addr} {o:HO} (e:H a = some o):upd H a o = H:=by
 funext b
 unfold upd
 split
 · rename_i z; rw [z,e]
 · rfl
def xQ (K:Frag):List V → Hp → VK → Prop:=fun vs H Q => ∃ ea rest C T d,vs = .ref ea :: rest ∧ rest.length ≤ sizeLine ∧ H ea = some (eJ ea C d) ∧ (∀ dx,d = some dx → ∃ o,H dx = some o) ∧ XcK K C T ∧ Q .non H
def aJF (K:Frag) (t:TA):TE:=fun σ H Q => t σ H fun vs H1 => xQ K vs H1 Q
theorem bJU {X:Cx}:CallR X (.builtin "ValueError.__init__") (xQ X.K):=by
 intro pins s σ H xs us Q I r h
 obtain ⟨ea,rest,C,T,d,rfl,hl,he,hd,Z,q⟩:=h
 cases r with
 | @cons _ _ _ l2 r0 rr =>
   cases r0
   obtain ⟨oe,vs,t0,g,hc,hdi,hda,h1,h0,c2⟩:=(I.hok ea _ he).1
   obtain ⟨od,hI⟩:=jS I.hok g hc hdi hda hd
   refine bXG Z.ex I.kIn hI Z.vb hda h0 (by rw [← rr.length]; exact hl) ?_
   have g2:=Af (h:=s.heap) { cls:=.type "tuple",data:=.seq l2.toArray } g
   have hs0:0 < vs.size:=(Cm.mp h0).1
   have dm:=Fw hda (·.setIfInBounds 0 (Value.ref s.heap.objs.size))
   refine ⟨.non,H,?_,rfl,q⟩
   have I2:=I.write (x:=ea) (e:=ea) (o:=eJ ea C d) (t':=s.toks) (by rw [he]; exact True.intro) (.inl rfl) (fun b u hb z => (By _ (Obj.mapFields (·.setIfInBounds 0 (Value.ref s.heap.objs.size))) (Ne.symm hb)).trans (Af _ z))
     ⟨_,Heap.get?_update_self _ g2 (Obj.isFreed_of_fields dm)⟩ (sV (Heap.get?_update_self _ g2 (Obj.isFreed_of_fields dm)) (by rw [Obj.cls_mapFields]; exact hc) (by rw [vN]; exact hdi) dm (by rw [Array.getElem?_setIfInBounds]; simp [h1]) (t0:=s.heap.objs.size) (by simp [hs0]) ((Array.getElem?_setIfInBounds_ne (by decide)).trans c2))
   rw [cZZ he] at I2
   exact I2
section
variable {X:Cx} {x:Str} {T:Addr} {mc:Value} {e:Expr} {es:List Expr} {t:TA} {np apos pos:Pos}
theorem wH {pl:Sem Bool} (hg:Gl X x) (hm:X.mg x = some (.ref T)) (h1:specialIn X.K (.ref T) "__getattribute__" = some (some (.builtin "type.__getattribute__"))) (h2:readsIn X.K T mc = true)
   (h3:findCls X.K (.ref T) mc "__init__" = some (.val (.builtin "ValueError.__init__"))) (ha:PA X (e :: es) t) (hdb:(x == ("__debug__" : Str)) = false:=by decide)
   (hst:starEach (e :: es) X.env = (false,eval e X.env) :: starEach es X.env:=by rfl) (hpl:(backTo pos (starEach es X.env)).any (·.1) = false:=by rfl)
   (ht:eval (.Call (.Attribute (.Name x np) "__init__" apos) (e :: es) [] pos) X.env = (do
     let ov ← eval (.Name x np) X.env
     standAt apos.atName
     let (f,first) ← holding [ov] (getMethod ov "__init__" pl)
     callWith pos f first (backTo pos (starEach (e :: es) X.env)) (backToKw pos (keywordEach [] X.env))):=by rfl) :
   PE X (.Call (.Attribute (.Name x np) "__init__" apos) (e :: es) [] pos) (aJF X.K t):=by
 intro pins s σ H Q I h
 refine PySem.W.methodCall_KW (pl:=pl) (iA I hg hm ?_ hdb) ht
 refine method_cls I.kIn h1 (cls_value I.kIn h2 h3 rfl ?_)
 exact PyProof.Rows.callWith_builtin1 (thn (ha pos pins _ σ H _ (I.tok _) h) fun us s1 ⟨vs,H1,I1,r1,q1⟩ => bJU pins s1 σ H1 vs us Q I1 r1 q1) hst hpl
end
theorem Inv.freAt {X:Cx} {pins:List (Addr × Obj)} {σ:St} {H:Hp} {s:Shared} {a:Addr} (I:Inv X pins σ H s) (h:s.heap.objs.size ≤ a):Fre X pins a where
 s0:=Fi (Bb I.sz h)
 loc:=fun z => absurd (Bd I.lt h) (by rw [z]; exact Dk _)
 cell:=fun x c e z => by
   obtain ⟨_,o,g,_⟩:=I.cell x c e
   exact absurd (Bd (Aq g) h) (by rw [z]; exact Dk _)
 pin:=fun p hp z => absurd (Bd (Aq (I.pin p hp).1) h) (by rw [z]; exact Dk _)
def cQU (K:Frag) (ta tv:TE) (f:Str):TS:=fun D σ H => tv σ H fun y H1 => ta σ H1 fun x H2 => ∃ ea C T,x = .ref ea ∧ XcK K C T ∧ findIn K (.ref C) f = some none ∧
 ((H2 ea = some (eJ ea C none) ∧ ∀ dx,H2 dx = none → D.nx σ (upd (upd H2 ea (eJ ea C (some dx))) dx (xdO dx [(f,y)]))) ∨
  (∃ dx fs,H2 ea = some (eJ ea C (some dx)) ∧ H2 dx = some (xdO dx fs) ∧ fs.length < 100 ∧ D.nx σ (upd H2 dx (xdO dx ((f,y) :: fs)))))
theorem rY {f g:Str} {y:V} {fs:List (Str × V)}:List.lookup g ((f,y) :: fs) = if g = f then some y else fs.lookup g:=by
 rw [Dm]
 by_cases z:g = f
 · rw [if_pos z,z]; simp
 · rw [if_neg z]
   have:(g == f) = false:=by simpa using z
   rw [this]
theorem tX {X:Cx} {o value:Expr} {f:Str} {pos pos':Pos} {ta tv:TE} (ha:PE X o ta) (hv:PE X value tv) (hs:swapsWith value (some (.Attribute o f pos')) pos.line X.env = pure false):PS X (.Assign [.Attribute o f pos'] value pos) (cQU X.K ta tv f):=by
 intro pins s σ H D I h
 refine plainObj_wpAny_Assign_Attribute (thn (hv pins s σ H _ I h) fun u s1 ⟨y,H1,I1,ry,q⟩ => thn (ha pins s1 σ H1 _ I1 q) fun ov s2 ⟨x,H2,I2,rx,ea,C,T,ex,Z,hn,q2⟩ => ?_) hs
 subst ex
 obtain rfl:ov = Value.ref ea:=rx
 rcases q2 with ⟨he,q3⟩ | ⟨dx,fs,he,hdx,hl,q3⟩
 · obtain ⟨oe,vs,t0,g,hc,hdi,hda,h1,h0,c2⟩:=(I2.hok ea _ he).1
   obtain ⟨od,hI⟩:=jS I2.hok g hc hdi hda (fun _ z => nomatch z)
   have hod:od = none:=by
     have z:=hI.dict
     rw [hdi] at z
     cases od with
     | none => rfl
     | some o => exact z.elim
   subst hod
   refine aJ3 Z.ex I2.kIn hI hda hdi Z.sa Z.mro hn fun h' tk' gx ns kp => ?_
   have fr:=I2.freAt (Ah _)
   have hfree:H2 s2.heap.objs.size = none:=I2.hok.fresh (Ah _)
   have ne:s2.heap.objs.size ≠ ea:=fun z => by rw [z,he] at hfree; cases hfree
   have I3:=I2.write (x:=ea) (e:=ea) (o:=eJ ea C (some s2.heap.objs.size)) (h':=h') (t':=tk') (by rw [he]; exact True.intro) (.inl rfl) kp ⟨_,gx⟩ (sV gx hc rfl hda h1 h0 c2)
   have I4:=I3.adopt (a:=s2.heap.objs.size) (o:=xdO s2.heap.objs.size [(f,y)]) fr (by rw [aI ne]; exact hfree) (aJ6 ns (fun g => by
     rw [rY]
     split
     · exact ry
     · exact True.intro) (fun g hg => by
     by_cases z:g = f
     · rw [z]; exact As.mpr rfl
     · exact absurd (show (if g = f then some u else none) = none by rw [if_neg z]) hg))
   exact ⟨σ,_,I4,q3 _ hfree⟩
 · obtain ⟨oe,vs,t0,g,hc,hdi,hda,h1,h0,c2⟩:=(I2.hok ea _ he).1
   obtain ⟨mA,n,r,wi⟩:=(I2.hok dx _ hdx).1
   obtain ⟨od,hI⟩:=jS I2.hok g hc hdi hda (fun z e => by cases e; exact ⟨_,hdx⟩)
   have hod:∃ o,od = some o:=by
     have z:=hI.dict
     rw [hdi] at z
     cases od with
     | none => exact z.elim
     | some o => exact ⟨o,rfl⟩
   obtain ⟨o,rfl⟩:=hod
   refine bQM Z.ex I2.kIn hI hdi Z.sa Z.mro hn n wi (by rw [Ab,Gp]; omega) fun h' tk' ns sb => ?_
   have hd':∃ o,h'.get? dx = some o:=let ⟨o,_,_,e',_⟩:=ns; ⟨o,e'⟩
   have I3:=I2.write (x:=dx) (e:=dx) (o:=xdO dx ((f,y) :: fs)) (h':=h') (t':=tk') (by rw [hdx]; exact True.intro) (.inl rfl) (fun b q hb z => (sb.2 b hb).trans z) hd' (aJ6 ns (fun g => by
     rw [rY]
     split
     · exact ry
     · exact r g) (fun g hg => by
     by_cases z:g = f
     · rw [z]; exact An
     · refine Ao _ (wi g fun z2 => hg ?_)
       show (if g = f then some u else mA g) = none
       rw [if_neg z]; exact z2))
   exact ⟨σ,_,I3,q3⟩
def aJA (K:Frag) (ta:TE) (f:Str):TE:=fun σ H Q => ta σ H fun x H1 => ∃ ea C dx fs v,x = .ref ea ∧ (H1 ea = some (mQ ea (.ref C) (some dx)) ∨ H1 ea = some (eJ ea C (some dx))) ∧ H1 dx = some (xdO dx fs) ∧ ExK K C ∧ findIn K (.ref C) f = some none ∧ fs.lookup f = some v ∧ Q v H1
theorem bZB {v:V} {u:Value} (r:RelV v u):handedIn u = true:=by
 cases v <;> first | (obtain ⟨_,rfl⟩:=(show ∃ t,u = _ from r); rfl) | (cases r; rfl)
theorem bJB {X:Cx} {e:Expr} {f:Str} {pos:Pos} {ta:TE} (he:PE X e ta) (hb:attributeBase e f X.env (eval e X.env) = eval e X.env):PE X (.Attribute e f pos) (aJA X.K ta f):=by
 intro pins s σ H Q I h
 refine bJG hb (thn (he pins s σ H _ I h) fun u s1 ⟨x,H1,I1,rx,ea,C,dx,fs,v,ex,e1,e2,Z,n,l,q⟩ => ?_)
 subst ex
 obtain rfl:u = Value.ref ea:=rx
 obtain ⟨oe,vs,g,hc,hdi,hda⟩:∃ oe vs,s1.heap.get? ea = some oe ∧ oe.cls = .ref C ∧ oe.dict = some dx ∧ oe.data = .fields vs:=by
   rcases e1 with e1 | e1
   · exact (I1.hok ea _ e1).1
   · obtain ⟨oe,vs,t0,g,hc,hdi,hda,_⟩:=(I1.hok ea _ e1).1
     exact ⟨oe,vs,g,hc,hdi,hda⟩
 obtain ⟨⟨mA,ns,r,wi⟩,_⟩:=I1.hok dx _ e2
 obtain ⟨od,hI⟩:=jS I1.hok g hc hdi hda (fun z e => by cases e; exact ⟨_,e2⟩)
 obtain ⟨o,go,lo⟩:=qZ ns
 have hod:od = some o:=by
   have z:=hI.dict
   rw [hdi] at z
   cases od with
   | none => exact z.elim
   | some o' =>
     have z:s1.heap.get? dx = some o':=z
     rw [go] at z
     exact z.symm
 subst hod
 have rl:=r f
 rw [l] at rl
 cases hu:mA f with
 | none => rw [hu] at rl; exact rl.elim
 | some u =>
   rw [hu] at rl
   exact bZ1 Z I1.kIn hI (findObj_own Z.cls n rfl (by rw [lo,hu])) (bZB rl) ⟨v,H1,I1.tok _,rl,q⟩
end L2
set_option maxHeartbeats 4000000
namespace L2
open PySem PySem.Spec PyProof.Rows PySem.W
def sS (K:Frag) (C:Addr) (bmB:List Value) (newId:String):Bool :=
 match K.lookup C with
 | some ⟨.type t,_,.cls c,sl⟩ => t == "type" && !c.hasDel && nsOkIn K c.ns &&
   (match c.mro with | .ref C1 :: bm => C1 == C && tailIn K bmB bm | _ => false) && (match sl.toList with | [_,_,_,_,some (.builtin n),_] => n == newId | _ => false)
 | _ => false
theorem cZW {K:Frag} {h:Heap} {C:Addr} {bmB:List Value} {newId:String} (X:K.In h) (q:sS K C bmB newId = true) :
   ∃ bm N nm qn bs hd sn sub ab col dd k0 k1 k2 k3 k5,h.get? C = some (excClassObj nm qn C N bs bm hd sn sub ab col dd k0 k1 k2 k3 k5 newId) ∧ OwnTail h bmB bm:=by
 unfold sS at q
 split at q
 · rename_i t dd c sl ho
   simp only [Bool.and_eq_true,beq_iff_eq,Bool.not_eq_true'] at q
   obtain ⟨⟨⟨⟨rfl,q1⟩,q2⟩,q3⟩,q4⟩:=q
   split at q3
   · rename_i C1 bm hm
     obtain ⟨rfl,q5⟩:C1 = C ∧ tailIn K bmB bm = true:=by simpa only [Bool.and_eq_true,beq_iff_eq] using q3
     split at q4
     · rename_i k0 k1 k2 k3 n k5 hs
       obtain rfl:n = newId:=by simpa using q4
       obtain ⟨nm,bs,mro,ns,qn,hd,sn,sub,ab,col,del⟩:=c
       dsimp only at hm q1 q2
       subst hm q1
       obtain ⟨l⟩:=sl
       cases (show l = _ from hs)
       exact ⟨bm,ns,nm,qn,bs,hd,sn,sub,ab,col,dd,k0,k1,k2,k3,k5,X _ _ ho,tail_of_in X q5⟩
     · cases q4
   · cases q3
 · cases q
section
variable {prog:Program} {w:World} {A:Around} {E:Value → Shared → Prop} {s:Shared} {K:Frag} {C f:Addr} {bmB:List Value} {B newId initId:String}
theorem aQ7 {rest:List Value} {Q:Fin → Shared → Prop} (FB:ExcBaseFacts B newId initId bmB) (X:K.In s.heap) (hx:sS K C bmB newId = true) (hi:findIn K (.ref C) "__init__" = some (some (.ref f))) (hf:typeIn K (.ref f) = some (.type "function")) (hr:rest.length ≤ sizeLine)
   (hq:∀ h' e,Heap.MadeExcOf s.heap h' e (.ref C) rest → wpAny (model prog w) A (call (.ref f) (.ref e :: rest)) (fun r s' => r = .none ∧ Q (.done (.ret (.ref e))) s') E { s with heap:=h' }) :
   wpAny (model prog w) A (Builtin.«type.__call__» ⟨.ref C :: rest,[]⟩) Q E s:=by
 obtain ⟨h,g,d,t,os⟩:=s
 obtain ⟨bm,N,nm,qn,bs,hd,sn,sub,ab,col,dd,k0,k1,k2,k3,k5,hC,Tl⟩:=cZW X hx
 repeat (first | with_reducible refine wpAny_madeBy_exc hC ?_ | with_reducible refine Ff hC ?_ | wp_step)
 refine codeAny_call_builtin_code (Fv _ FB.quiet) (wpAny_check_new_subT FB Tl hC (codeAny_exc_new_subT FB Tl hC ?_ hr))
 show wpAny _ _ _ _ _ _
 generalize hh1:(h.push { cls:=.type "tuple",data:=.seq rest.toArray }).push { cls:=.ref C,data:=.fields #[.ref h.objs.size,.none,.none,.none,.bool false,.none] } = h1
 have kp:∀ b o,h.get? b = some o → h1.get? b = some o:=fun b o e => by rw [← hh1]; exact Af _ (Af _ e)
 have dJ:h1.get? (h.objs.size + 1) = some { cls:=.ref C,data:=.fields #[.ref h.objs.size,.none,.none,.none,.bool false,.none] }:=by rw [← hh1]; heap_get
 have X1:=X.keeps kp
 have hC1:=kp _ _ hC
 have hcC:(Value.ref C :: bm).contains (.ref C) = true:=by simp
 unfold isInstance
 repeat (first | (with_reducible refine wpAny_isSubtype_exc hC1 ?_; rw [hcC]) | with_reducible refine Ff dJ ?_ | wp_step)
 show wpAny _ _ (typeLookup (.ref C) _) _ _ _
 refine (looks_findIn X1 hi).here (s:=⟨h1,g,d,t,os⟩) (Cy (Ae ?_))
 unfold bindSpecial
 refine Ae ((looks_typeIn X1 hf).here (s:=⟨h1,g,d,t,os⟩) ?_)
 rw [if_pos (by decide)]
 refine Am (Ae (Cf (hq h1 (h.objs.size + 1) ⟨kp,Fi (Nat.le_succ _),h.objs.size,dJ,Fi (Ah _),?_⟩) (fun r s' hr => ?_) fun _ _ z => z))
 · rw [← hh1]
   exact Af _ (Heap.get?_push_at rfl rfl)
 · obtain ⟨rfl,z⟩:=hr
   wp_walk
   exact z
theorem bXS {rest:List Value} {Q:Value → Shared → Prop} (FB:ExcBaseFacts B newId initId bmB) (X:K.In s.heap) (hx:sS K C bmB newId = true) (hi:findIn K (.ref C) "__init__" = some (some (.ref f))) (hf:typeIn K (.ref f) = some (.type "function")) (hr:rest.length ≤ sizeLine)
   (hq:∀ h' e,Heap.MadeExcOf s.heap h' e (.ref C) rest → wpAny (model prog w) (A.under (.builtin "type.__call__" ⟨.ref C :: rest,[]⟩)) (call (.ref f) (.ref e :: rest)) (fun r s' => r = .none ∧ Q (.ref e) s') E { s with heap:=h' }) :
   wpAny (model prog w) A (call (.ref C) rest) Q E s:=by
 have X0:=X
 obtain ⟨h,g,d,t,os⟩:=s
 obtain ⟨bm,N,nm,qn,bs,hd,sn,sub,ab,col,dd,k0,k1,k2,k3,k5,hC,Tl⟩:=cZW X hx
 have c1:=tc_lookup
 have c2:=tc_bind (.ref C)
 have c3:(⟨h,g,d,t,os⟩:Shared).TypeIs (.ref C) "type" := ⟨_,hC,rfl⟩
 refine Fu (codeAny_of_tree ?_)
 show wpAny _ _ (callAny (.ref C) _) _ _ _
 repeat (any_goals (first | with_reducible refine Ff hC ?_ | assumption | wp_step))
 exact ⟨rfl,codeAny_call_builtin_at (Fv _ (by decide +kernel)) entry_typeCall (wpAny_check_type_call_sub hC (aQ7 FB X0 hx hi hf hr fun h' e hm => hq h' e hm))⟩
theorem aZR {env:Env} {x:Sem Value} {Q:Flow → Shared → Prop} (hh:A.handled = none)
   (h:wpAny (model prog w) A x (fun v s1 => ∃ e oe vs bm N nm qn bs hd sn sub ab col dd k0 k1 k2 k3 k5,v = .ref e ∧ s1.heap.get? C = some (excClassObj nm qn C N bs bm hd sn sub ab col dd k0 k1 k2 k3 k5 newId) ∧ bm.contains (.type "BaseException") = true ∧
     s1.heap.get? e = some oe ∧ oe.cls = .ref C ∧ oe.data = .fields vs ∧ vs[1]? = some .none ∧ E (.ref e) s1) E s):wpAny (model prog w) A (raiseStmt env (some x) none) Q E s:=by
 unfold raiseStmt
 refine Ae (Cf h (fun v s1 q => ?_) fun _ _ z => z)
 obtain ⟨e,oe,vs,bm,N,nm,qn,bs,hd,sn,sub,ab,col,dd,k0,k1,k2,k3,k5,rfl,hC,hb,he,hc,hda,h1,hE⟩:=q
 obtain ⟨hp,g,d,tk,os⟩:=s1
 obtain ⟨oc,odi,oda,osl⟩:=oe
 dsimp only at hc hda
 subst hc hda
 have hcB:(Value.ref C :: bm).contains (.type "BaseException") = true:=by rw [List.contains_cons,hb,Bool.or_true]
 repeat (first | with_reducible refine Ff hC ?_ | with_reducible refine Ff he ?_ | (with_reducible refine wpAny_isSubtype_exc hC ?_; rw [hcB]) | wp_step)
 rw [h1]
 refine Am ?_
 rw [if_neg (show ¬ ((Value.none != Value.none) = true) by decide)]
 exact Am (wpAny_raiseNew_none hh hE)
end
def del (H:Hp) (a:Addr):Hp:=fun b => if b = a then none else H b
theorem dL {H:Hp} {a b:Addr} (h:b ≠ a):del H a b = H b:=if_neg h
theorem wX {H:Hp} {a:Addr}:del H a a = none:=if_pos rfl
section
variable {X:Cx} {pins:List (Addr × Obj)} {σ:St} {H:Hp} {s:Shared}
theorem Inv.drop {ea:Addr} {φ:Heap → Prop} (I:Inv X pins σ H s) (e:H ea = some (.ext φ)):Inv X pins σ (del H ea) s:=by
 have ne:∀ b u,H b = some u → (∀ ψ,u ≠ .ext ψ) → b ≠ ea:=fun b u q n z => by
   rw [z,e] at q
   cases q
   exact n φ rfl
 refine I.re (fun b n => ?_) (fun b xs q => ?_) (fun b o u q => ?_) (fun b ps q => ?_) fun b o q => ?_
 · unfold del
   split
   · rfl
   · exact n
 · have q1:=I.base.tups b xs q
   rw [dL (ne b _ q1 fun _ z => nomatch z)]
   exact q1
 · have q1:=I.base.frzs b o u q
   rw [dL (ne b _ q1 fun _ z => nomatch z)]
   exact q1
 · obtain ⟨m,q1⟩:=I.base.tbls b ps q
   exact ⟨m,by rw [dL (ne b _ q1 fun _ z => nomatch z)]; exact q1⟩
 · have hb:b ≠ ea:=fun z => by rw [z,wX] at q; cases q
   rw [dL hb] at q
   exact (I.hok b o q).stay (fun _ _ _ z => z) (fun c z => by rw [dL (ne c _ z fun _ z => nomatch z)]; exact z) fun c xs z => by rw [dL (ne c _ z fun _ z => nomatch z)]; exact z
theorem Inv.freNew {a:Addr} (I:Inv X pins σ H s) (hex:X.ex = []) (h:s.heap.get? a = none):Fre X pins a where
 s0:=by
   cases z:X.s₀.heap.get? a with
   | none => rfl
   | some o =>
     obtain ⟨o',z'⟩:=I.base.there a o z (by rw [hex]; simp)
     rw [h] at z'
     cases z'
 loc:=fun z => by
   obtain ⟨m,⟨o,_,_,g,_⟩,_⟩:=I.loc
   rw [← z,h] at g
   cases g
 cell:=fun x c e z => by
   obtain ⟨_,o,g,_⟩:=I.cell x c e
   rw [z,h] at g
   cases g
 pin:=fun p hp z => by
   have g:=(I.pin p hp).1
   rw [z,h] at g
   cases g
end
def xM (P:Program) (w:World) (K:PySem.W.Frag) (mg:Str → Option Value) (base:Heap) (k:Nat) (C:Addr) (ps:List Str) (sp:Sp):Prop :=
 ∃ (f:Addr) (fd:FuncData),FnOk P w K mg base CX0 k f fd ps sp ∧ findIn K (.ref C) "__init__" = some (some (.ref f)) ∧ typeIn K (.ref f) = some (.type "function") ∧ Binds K fd ps []
structure XmK (K:Frag) (C:Addr):Prop where
 obj:sS K C [.type "ValueError",.type "Exception",.type "BaseException",.type "object"] "ValueError.__new__" = true
 kp:keepIn K (.ref C) = true
def zL (C:Addr) (sp:Sp) (E:XK) (ta:TA):TS:=fun _ σ H => ta σ H fun vs H1 => vs.length ≤ sizeLine ∧ ∀ ea,H1 ea = none → sp (.ref ea :: vs) (upd H1 ea (eJ ea C none)) (fun v H2 => v = .non ∧ ∃ d,H2 ea = some (eJ ea C d) ∧ E (.ref C) d (del H2 ea)) E0
section
variable {X:Cx} {E:XK} {x:Str} {C:Addr} {e:Expr} {es:List Expr} {ta:TA} {np cpos pos:Pos} {k:Nat} {ps:List Str} {sp:Sp}
theorem aXN {pins:List (Addr × Obj)} {σ:St} {H1:Hp} {s1:Shared} {vs:List V} {us:List Value} {G:Addr → VK} {R:Value → Shared → Prop} (hex:X.ex = []) (M:XmK X.K C) (c:xM X.prog X.w X.K X.mg X.base k C ps sp) (hr:Room (k + 1) X.A) (I1:Inv X pins σ H1 s1) (r:Vals vs us)
   (hl:vs.length ≤ sizeLine) (q:∀ ea,H1 ea = none → sp (.ref ea :: vs) (upd H1 ea (eJ ea C none)) (G ea) E0)
   (hR:∀ ea H2 s2,X.s₀.heap.get? ea = none → Inv X pins σ H2 s2 → (G ea) .non H2 → R (.ref ea) s2) (hG:∀ ea v H2,G ea v H2 → v = .non):wpAny (model X.prog X.w) X.A (call (.ref C) us) R X.xe s1:=by
 obtain ⟨f,fd,F,hi,hf,hb⟩:=c
 refine bXS Fj I1.kIn M.obj hi hf (by rw [← r.length]; exact hl) fun h' ea hm => ?_
 obtain ⟨t,g,_,_⟩:=hm.there
 have hole:H1 ea = none:=I1.hok.hole hm.new
 have fr:=I1.freNew hex hm.new
 have I2:=(I1.kept (t':=s1.toks) hm.keeps).adopt (o:=eJ ea C none) fr hole (sV g rfl rfl rfl rfl rfl rfl)
 have r2:Vals (V.ref ea :: vs) (Value.ref ea :: us):=.cons rfl r
 have hq:=q ea hole
 have hl2:((Value.ref ea :: us) ++ []).length = ps.length:=by rw [Bk,← r2.length]; exact F.len _ _ _ _ hq
 have hbb:=hb { s1 with heap:=h' } (Value.ref ea :: us) I2.kIn hl2
 rw [Bk] at hbb
 refine Fu (Eh (F.run _ X.stack { s1 with heap:=h' } _ ⟨Value.ref ea :: us,[]⟩ (Value.ref ea :: us) (V.ref ea :: vs) _ E0 (hr.make C us []) (I2.env0.make C us []) hbb r2 hq) fun rr s' hq' => ?_)
 cases rr with
 | error e => exact False.elim hq'
 | ok fl =>
   cases fl with
   | ret u =>
     obtain ⟨v,H',I3,rv,q3⟩:=I2.after hq'
     have ev:=hG ea v H' q3
     subst ev
     exact ⟨rv,hR ea H' s' fr.s0 I3 q3⟩
   | next => exact False.elim hq'
   | brk => exact False.elim hq'
   | cont => exact False.elim hq'
theorem mC {k':Nat} (hR:cJG X E) (hex:X.ex = []) (hc:X.calm = true) (hg:Gl X x) (hm:X.mg x = some (.ref C)) (M:XmK X.K C) (c:xM X.prog X.w X.K X.mg X.base k C ps sp) (hr:Room k' X.A) (hkk:k + 1 ≤ k') (ha:PA X (e :: es) ta)
   (hd:(x == ("__debug__" : Str)) = false:=by decide) (he:starEach (e :: es) X.env = (false,eval e X.env) :: starEach es X.env:=by rfl) (hpl:(backTo cpos (starEach es X.env)).any (·.1) = false:=by rfl) :
   PS X (.Raise (some (.Call (.Name x np) (e :: es) [] cpos)) none pos) (zL C sp E ta):=by
 intro pins s σ H D I h
 rw [arm_exec_Raise]
 simp only [evalOpt,Option.map]
 refine Ae (Fb (aZR (C:=C) (newId := "ValueError.__new__") (I.ok.hd hc) ?_))
 refine Ae (Cf (Q:=fun v s1 => ∃ e oe vs bm N nm qn bs hd sn sub ab col dd k0 k1 k2 k3 k5,v = .ref e ∧ s1.heap.get? C = some (excClassObj nm qn C N bs bm hd sn sub ab col dd k0 k1 k2 k3 k5 "ValueError.__new__") ∧ bm.contains (.type "BaseException") = true ∧
     s1.heap.get? e = some oe ∧ oe.cls = .ref C ∧ oe.data = .fields vs ∧ vs[1]? = some .none ∧ X.xe (.ref e) s1) ?_ (fun v s3 h3 => Ae (Fb (Am h3))) fun _ _ z => z)
 refine Dz (iA I hg hm ?_ hd)
 refine PySem.W.callWith_K (h₀:=X.base) I.ok.mod.kin M.kp (thn (ha cpos pins s σ H _ I h) fun us s1 ⟨vs,H1,I1,r,hl,q⟩ => ⟨I1.kIn,?_⟩) he hpl
 refine aXN hex M c (hr.mono hkk) I1 r hl q (fun ea H' s' s0 I3 q3 => ?_) fun ea v H2 z => z.1
 obtain ⟨_,d,e2,q3⟩:=q3
 obtain ⟨oe,ws,t0,g2,hc2,hdi,hda,h1,h0,c2⟩:=(I3.hok ea _ e2).1
 obtain ⟨bm,N,nm,qn,bs,hdct,sn,sub,ab,col,dd,k0,k1,k2,k3,k5,hC,Tl⟩:=cZW I3.kIn M.obj
 refine ⟨ea,oe,ws,bm,N,nm,qn,bs,hdct,sn,sub,ab,col,dd,k0,k1,k2,k3,k5,rfl,hC,Tl.hasType PySem.F.excBase_ValueError.hasBase,g2,hc2,hda,h1,?_⟩
 exact hR pins σ (del H' ea) s' ea oe ws (I3.drop e2) g2 hda h1 c2 wX s0 (by rw [hc2,hdi]; exact q3)
end
def cQ2 (st:Stmt) (j:Nat):Stmt :=
 match st with
 | .ClassDef _ _ _ body _ _ _ _ _ _ _ => body.getD j (.Pass ⟨0,0,0,0⟩)
 | s => s
section
variable {g:TG} {tests:TT} {te:TE} {σ0:St} {Q:VK} {H1:Hp}
end
section
variable {K:PySem.W.Frag} {H:Hp} {Q:VK} {ea C D T dx tp:Addr} {c:V} {cs:List V} {cv:Value} {cvs:List Value} {b:Bool} {d:Option Addr} {σ:St} {D':Ends} {sp:Sp} {E:XK} {ta:TA} {te tv:TE} {f:Str}
theorem bZK (h:ta σ H fun vs H1 => xQ K vs H1 Q):aJF K ta σ H Q:=h
theorem bXH (h:ta σ H fun vs H1 => vs.length ≤ sizeLine ∧ ∀ ea,H1 ea = none → sp (.ref ea :: vs) (upd H1 ea (eJ ea C none)) (fun v H2 => v = .non ∧ ∃ d,H2 ea = some (eJ ea C d) ∧ E (.ref C) d (del H2 ea)) E0):zL C sp E ta D' σ H:=h
theorem cZL (h:te σ H fun x H1 => ∃ ea C dx fs v,x = .ref ea ∧ (H1 ea = some (mQ ea (.ref C) (some dx)) ∨ H1 ea = some (eJ ea C (some dx))) ∧ H1 dx = some (xdO dx fs) ∧ ExK K C ∧ PySem.W.findIn K (.ref C) f = some none ∧ fs.lookup f = some v ∧ Q v H1):aJA K te f σ H Q:=h
theorem cZ6 (h:tv σ H fun y H1 => te σ H1 fun x H2 => ∃ ea C T,x = .ref ea ∧ XcK K C T ∧ PySem.W.findIn K (.ref C) f = some none ∧
 ((H2 ea = some (eJ ea C none) ∧ ∀ dx,H2 dx = none → D'.nx σ (upd (upd H2 ea (eJ ea C (some dx))) dx (xdO dx [(f,y)]))) ∨
  (∃ dx fs,H2 ea = some (eJ ea C (some dx)) ∧ H2 dx = some (xdO dx fs) ∧ fs.length < 100 ∧ D'.nx σ (upd H2 dx (xdO dx ((f,y) :: fs)))))):cQU K te tv f D' σ H:=h
end
end L2
set_option maxHeartbeats 4000000
namespace L2
open PySem PySem.Spec PyProof.Rows
section
variable {P:Program} {w:World} {K:PySem.W.Frag} {mg:Str → Option Value} {base:Heap}
end
section
variable {X:Cx} {pn:List (Addr × Obj)} {ea:Addr} {k k':Nat} {ps:List Str} {sp:Sp} {x:Str} {p pos:Pos} {e:Expr} {es:List Expr} {t:TA}
end
theorem lZ {X:Cx} {K:PySem.W.Frag} {e:Expr} {f:Str} {pos:Pos} {ta:TE} (h:X.K = K) (he:PE X e ta) (hb:attributeBase e f X.env (eval e X.env) = eval e X.env):PE X (.Attribute e f pos) (aJA K ta f):=by
 subst h
 exact bJB he hb
end L2
set_option maxHeartbeats 4000000
namespace L2
open PySem PySem.Spec PyProof.Rows
section
variable {prog:Program} {w:World} {A:Around} {E:Value → Shared → Prop}
end
def hid (H:Hp) (ps:List Addr):Hp:=fun b => if b ∈ ps then none else H b
end L2
set_option maxHeartbeats 4000000
namespace L2
open PySem PySem.Spec PyProof.Rows
open PySem.AutoSeq1 (wpAny_loadPart')
section
variable {prog:Program} {w:World} {A:Around} {E:Value → Shared → Prop} {s:Shared}
end
section
variable {X:Cx} {l:Expr} {ta tk:TA} {kws:List Keyword} {elts:List Expr} {x1:Nat} {tp p pos kp:Pos}
end
section
variable {K:PySem.W.Frag} {a:Addr} {k:Nat} {xs:List V} {g:TG} {tb:TS} {D:Ends} {σ σ0:St} {H H1:Hp} {tests:TT} {te:TE} {Q:VK} {z:Str} {ta tk:TA}
theorem cJ7 {i:Int} (h:Q (.int (-i)) H):cX4 (.int i) H Q:=h
end
end L2
set_option maxHeartbeats 4000000
namespace L2
open PySem PySem.Spec PyProof.Rows
section
variable {X:Cx} {a b:Expr} {ta tb:TE} {pos:Pos} {rest:List Expr}
section
variable {σ:St} {H:Hp} {Q:VK} {p:Addr} {xs:List V} {z:Str} {j:Nat}
theorem cQH {g:TG} {tests:TT} {te:TE} {σ0:St} {H1:Hp} (f:Nat → Option V) (hl:z.length < sizeLine)
   (hs:∀ (i:Nat) c Hc (A:VK) (B:Hp → Prop),z.cps.toList[i]? = some c → Same H1 Hc → (∀ Hd,Same Hc Hd → match f c with | some y => A y Hd | none => B Hd) →
     g (.str ⟨#[c]⟩) σ0 Hc fun σ2 H2 => Wk σ0 σ2 ∧ tests σ2 H2 fun b H3 => if b = true then te σ2 H3 A else B H3)
   (fin:∀ D Hd,H1 D = none → Same H1 Hd → Hd D = some (.lst (z.cps.toList.filterMap f)) → Q (.ref D) Hd):eT g tests te σ0 Q (Its z) H1:=by
 intro D hD
 have hzz:z.cps.size = z.length:=rfl
 have hz2:z.cps.toList.length = z.length:=by simp [Str.length]
 refine ⟨fun i m Hc => m = z.length - i ∧ i ≤ z.length ∧ Same H1 Hc ∧ Hc D = some (.lst ((z.cps.toList.take i).filterMap f)),⟨z.length,by simp,Nat.zero_le _,aE hD _,by rw [aB]; rfl⟩,?_⟩
 rintro i m Hc ⟨rfl,hi,sm,hDc⟩
 by_cases hlt:i < z.length
 · refine .inr ⟨hlt,fun v H' y => ?_⟩
   obtain ⟨rfl,c,hz,rfl⟩:=y
   have hx:z.cps.toList[i]? = some c:=by rw [Fc]; exact hz
   refine hs i c H' _ _ hx sm fun Hd sd => ?_
   have hDd:Hd D = some (.lst ((z.cps.toList.take i).filterMap f)):=sd _ _ hDc
   have sH:Same H1 Hd:=sm.trans sd
   cases e:f c with
   | some y =>
     refine ⟨_,hDd,?_,z.length - (i + 1),by omega,rfl,hlt,fun b o hb => ?_,?_⟩
     · have:=Cz f (z.cps.toList.take i)
       rw [Bl] at this
       omega
     · rw [aI (bH hb hD)]; exact sH b o hb
     · rw [aB,Aw,hx,Cd]
       show some (HO.lst (_ ++ [y])) = some (HO.lst (_ ++ [c].filterMap f))
       rw [Da e,Df]
   | none =>
     refine ⟨z.length - (i + 1),by omega,rfl,hlt,sH,?_⟩
     rw [hDd,Aw,hx,Cd]
     show some (HO.lst _) = some (HO.lst (_ ++ [c].filterMap f))
     rw [Dn e,Df,Bk]
 · have e:i = z.length:=by omega
   subst e
   refine .inl ⟨Ah _,fin D Hc hD sm ?_⟩
   rw [hDc,Bm (by omega)]
end
end
end L2
set_option maxHeartbeats 4000000
namespace L2
open PySem PySem.Spec PyProof.Rows
section
variable {X:Cx}
def bJZ (neg:Bool):R2:=fun x y H Q => ∃ a ov,y = .ref a ∧ DGet H a x ov ∧ Q (.bl (if neg then !ov.isSome else ov.isSome)) H
theorem cXI (hu:X.A.units + 1 < cLine):OpR X (compareOp .In) (bJZ false):=by
 intro pins s σ H x y v u Q I rx ry h
 obtain ⟨a,ov,rfl,g,q⟩:=h
 cases ry
 exact dXK hu I g rx fun s3 I3 => ⟨.bl ov.isSome,H,I3,rfl,q⟩
theorem aJ1 (hu:X.A.units + 1 < cLine):OpR X (compareOp .NotIn) (bJZ true):=by
 intro pins s σ H x y v u Q I rx ry h
 obtain ⟨a,ov,rfl,g,q⟩:=h
 cases ry
 exact bZS hu I g rx fun s3 I3 => ⟨.bl (!ov.isSome),H,I3,rfl,q⟩
section
variable {H:Hp} {Q:VK} {a:Addr} {kvs:List (Key × V)} {z:Str}
theorem cXH {neg:Bool} (e:Rd H a (.dK kvs)) (h:Q (.bl (if neg then !(bR kvs (Sum.inr z)).isSome else (bR kvs (Sum.inr z)).isSome)) H):bJZ neg (.str z) (.ref a) H Q:=⟨a,_,rfl,.inl ⟨kvs,.inr z,e,rfl,rfl⟩,h⟩
end
end
end L2
set_option maxHeartbeats 4000000
namespace L2
open PySem PySem.Spec PyProof.Rows PySem.Builtin PySem.Builtin.Str
section
variable {X:Cx}
end
end L2
set_option maxHeartbeats 1000000
namespace L2
open PySem PySem.Spec PyProof.Rows
section
variable {X:Cx}
end
end L2
namespace L2
open PySem PySem.Spec PyProof.Rows
section
variable {prog:Program} {w:World} {A:Around} {R:Result → Shared → Prop} {J:Addr} {us ws:List Addr} {n:Nat} {P:Nat → Value → Prop} {St:Nat → Heap → Prop} {d:Value}
end
section
variable {prog:Program} {w:World} {A:Around} {E:Value → Shared → Prop} {s:Shared}
end
section
variable {X:Cx} {l:Expr} {ta:TA} {tk:TA} {p pos kp:Pos}
end
end L2
namespace L2
open PySem PySem.Spec PyProof.Rows
section
variable {X:Cx} {tg a b c:Expr} {p pos:Pos}
end
end L2
set_option maxHeartbeats 4000000
namespace L2
open PySem PySem.Spec PyProof.Rows
section
variable {g:TG} {tests:TT} {te:TE} {σ0:St} {Q:VK} {H1:Hp}
theorem dN {f:Nat → Option V} {i:Nat} {y:V} (h:f i = some y):(List.range (i + 1)).filterMap f = (List.range i).filterMap f ++ [y]:=by
 rw [Cb,Cd,Da h,Df]
theorem gG {f:Nat → Option V} {i:Nat} (h:f i = none):(List.range (i + 1)).filterMap f = (List.range i).filterMap f:=by
 rw [Cb,Cd,Dn h,Df,Bk]
theorem pN {K:PySem.W.Frag} {a:Addr} {xs:List V} (f:Nat → Option V) (ha:rdL H1 a = some xs) (hl:xs.length < sizeLine)
   (hs:∀ (i:Nat) x Hc (A:VK) (B:Hp → Prop),xs[i]? = some x → Same H1 Hc → (∀ y,f i = some y → ∀ Hd,Same Hc Hd → A y Hd) → (f i = none → ∀ Hd,Same Hc Hd → B Hd) →
     g x σ0 Hc fun σ2 H2 => Wk σ0 σ2 ∧ tests σ2 H2 fun b H3 => if b = true then te σ2 H3 A else B H3)
   (fin:∀ D Hd,H1 D = none → Same H1 Hd → Hd D = some (.lst ((List.range xs.length).filterMap f)) → Q (.ref D) Hd):eT g tests te σ0 Q (Itl K a) H1:=by
 refine gJ (n:=xs.length) (fun D i ys Hc => Same H1 Hc ∧ ys = (List.range i).filterMap f) hl (fun D hD => ⟨aE hD _,rfl⟩)
   (fun D i ys Hc _ r h => ⟨xs,xs[i],aW (aJ r.1 ha),by simp [h]⟩) (fun D ys Hc _ r => ⟨xs,aW (aJ r.1 ha),Nat.le_refl _⟩) ?_ ?_
 · rintro D i ys Hc x H' A B hD hi ⟨sm,rfl⟩ hDc ⟨rfl,hz⟩ ha' hb
   refine hs i x H' A B (hz xs (aW (aJ sm ha))) sm (fun y hy Hd sd => ?_) (fun hn Hd sd => ?_)
   · exact ha' _ _ (sd _ _ hDc) ⟨aY hD (sm.trans sd),(dN hy).symm⟩
   · exact hb _ (sd _ _ hDc) ⟨sm.trans sd,(gG hn).symm⟩
 · rintro D ys Hc hD ⟨sm,rfl⟩ hDc _
   exact fin D Hc hD sm hDc
theorem bQX {K:PySem.W.Frag} {a:Addr} {k:Nat} {xs:List V} (f:Nat → Option V) (ha:rdL H1 a = some xs) (hl:xs.length < sizeLine)
   (hs:∀ (i:Nat) x Hc p (A:VK) (B:Hp → Prop),xs[i]? = some x → Same H1 Hc → Hc p = none → (∀ y,f i = some y → ∀ Hd,Same (upd Hc p (.tup [.int ((k + i:Nat):Int),x])) Hd → A y Hd) → (f i = none → ∀ Hd,Same (upd Hc p (.tup [.int ((k + i:Nat):Int),x])) Hd → B Hd) →
     g (.ref p) σ0 (upd Hc p (.tup [.int ((k + i:Nat):Int),x])) fun σ2 H2 => Wk σ0 σ2 ∧ tests σ2 H2 fun b H3 => if b = true then te σ2 H3 A else B H3)
   (fin:∀ D Hd,H1 D = none → Same H1 Hd → Hd D = some (.lst ((List.range xs.length).filterMap f)) → Q (.ref D) Hd):eT g tests te σ0 Q (Ite K a k) H1:=by
 refine gJ (n:=xs.length) (fun D i ys Hc => Same H1 Hc ∧ ys = (List.range i).filterMap f) hl (fun D hD => ⟨aE hD _,rfl⟩)
   (fun D i ys Hc _ r h => ⟨xs,xs[i],aW (aJ r.1 ha),by simp [h]⟩) (fun D ys Hc _ r => ⟨xs,aW (aJ r.1 ha),rfl⟩) ?_ ?_
 · rintro D i ys Hc x H' A B hD hi ⟨sm,rfl⟩ hDc ⟨q,z,hq,rfl,rfl,hz⟩ ha' hb
   refine hs i z Hc q A B (hz xs (aW (aJ sm ha))) sm hq (fun y hy Hd sd => ?_) (fun hn Hd sd => ?_)
   · exact ha' _ _ (sd _ _ (aE hq _ _ _ hDc)) ⟨aY hD (sm.trans ((aE hq _).trans sd)),(dN hy).symm⟩
   · exact hb _ (sd _ _ (aE hq _ _ _ hDc)) ⟨sm.trans ((aE hq _).trans sd),(gG hn).symm⟩
 · rintro D ys Hc hD ⟨sm,rfl⟩ hDc _
   exact fin D Hc hD sm hDc
end
section
variable {X:Cx} {e:Expr} {te:TE} {p2 pos pu pc:Pos} {j:Nat}
end
end L2
set_option maxHeartbeats 4000000
namespace L2
open PySem PySem.Spec PyProof.Rows
section
variable {X:Cx}
end
end L2
set_option maxHeartbeats 4000000
namespace L2
open PySem PySem.Spec PyProof.Rows PySem.Builtin PySem.Builtin.Str
section
variable {X:Cx}
end
end L2
set_option maxHeartbeats 4000000
namespace L2
open PySem PySem.Spec PyProof.Rows
section
variable {prog:Program} {w:World} {A:Around} {E:Value → Shared → Prop} {s:Shared} {jt dq:Addr} {n0 ep:Nat} {en:Array DictEntry} {od:Obj}
theorem bZD {Q:Option Value → Shared → Prop} (hit:s.heap.IsKeyIter jt dq n0 en.size ep) (hod:s.heap.get? dq = some od) (hdd:od.data = .dict en ep) (hi:n0 < en.size)
   (hq:∀ h',h'.IsKeyIter jt dq (n0 + 1) en.size ep → Heap.SameBut jt s.heap h' → Q (some en[n0].key) { s with heap:=h' }):wpAny (model prog w) A (pyNext (.ref jt)) Q E s:=by
 obtain ⟨oi,hoi,ci,di⟩:=id hit
 have ow:Builtin.Dict_items.ownsTuple "dict_keyiterator" = false:=by decide
 have tI:=hit.typeIs
 unfold pyNext
 refine Ae (wpAny_attempt (wpAny_callSpecial?_slot (name:=Str.ofString "__next__") tI Dv (Fo Dv tI F.entry_dict_keyiterator_next ?_ (F.args_dict_keyiterator_next_1 _))))
 refine Ae (Am (Ae (Ae ?_)))
 refine Ae (Ds tI (Am (Ae (wpAny_fieldsOf hoi di ?_))))
 simp only [ow,Bool.false_eq_true,if_false]
 show wpAny _ _ (if (Value.ref dq == Value.none) = true then _ else _) _ _ s
 rw [if_neg (by exact Al)]
 refine Ae (Am (Ae (wpAny_dictEntries hod hdd ?_)))
 rw [if_neg (by simp)]
 refine Ae (Am (Ae (wpAny_dictEpoch hod hdd ?_)))
 rw [if_neg (by simp)]
 refine Am ?_
 simp only [show ¬ ((n0:Int) < 0) by omega,if_false,Int.toNat_natCast,Array.getElem?_eq_getElem hi]
 refine Ae (Ae (Ds tI (Am ?_)))
 refine Ae (wpAny_isOneOf_keyiter tI ?_)
 show wpAny _ _ (setField (.ref jt) 1 (rawInt ((n0:Int) + 1)) >>= _) _ _ s
 have nx:(s.heap.update jt (Obj.mapFields (·.setIfInBounds 1 (rawInt ((n0:Int) + 1))))).IsKeyIter jt dq (n0 + 1) en.size ep :=
   ⟨_,Heap.get?_update_self _ hoi (Obj.isFreed_of_fields (Obj.data_mapFields di _)),(Obj.cls_mapFields ..).trans ci,by rw [Obj.data_mapFields di]; simp [rawInt]⟩
 refine wpAny_bind (wpAny_setField hoi di (by simp) (wpAny_bind (wpAny_holding (wpAny_bind (wpAny_isOneOf_keyiter (s:={ s with heap:=s.heap.update jt (Obj.mapFields (·.setIfInBounds 1 (rawInt ((n0:Int) + 1)))) }) nx.typeIs ?_)))))
 show wpAny _ _ (pure en[n0].key) _ _ _
 exact Am (Am ⟨_,rfl,Am (hq _ nx (Heap.SameBut.update ..))⟩)
theorem aXR {Q:Option Value → Shared → Prop} (hh:A.handled = none) (hit:s.heap.IsKeyIter jt dq en.size en.size ep) (hod:s.heap.get? dq = some od) (hdd:od.data = .dict en ep)
   (hq:∀ h',Heap.ExtBut jt s.heap h' → Q none { s with heap:=h' }):wpAny (model prog w) A (pyNext (.ref jt)) Q E s:=by
 obtain ⟨oi,hoi,ci,di⟩:=id hit
 have ow:Builtin.Dict_items.ownsTuple "dict_keyiterator" = false:=by decide
 have tI:=hit.typeIs
 unfold pyNext
 refine Ae (wpAny_attempt (wpAny_callSpecial?_slot (name:=Str.ofString "__next__") tI Dv (Fo Dv tI F.entry_dict_keyiterator_next ?_ (F.args_dict_keyiterator_next_1 _))))
 refine Ae (Am (Ae (Ae ?_)))
 refine Ae (Ds tI (Am (Ae (wpAny_fieldsOf hoi di ?_))))
 simp only [ow,Bool.false_eq_true,if_false]
 show wpAny _ _ (if (Value.ref dq == Value.none) = true then _ else _) _ _ s
 rw [if_neg (by exact Al)]
 refine Ae (Am (Ae (wpAny_dictEntries hod hdd ?_)))
 rw [if_neg (by simp)]
 refine Ae (Am (Ae (wpAny_dictEpoch hod hdd ?_)))
 rw [if_neg (by simp)]
 refine Am ?_
 simp only [show ¬ ((en.size:Int) < 0) by omega,if_false,Int.toNat_natCast,Array.getElem?_eq_none (Nat.le_refl en.size)]
 refine Ae (Ae (Ds tI (Am ?_)))
 show wpAny _ _ (setField (.ref jt) 0 .none >>= _) _ _ s
 refine wpAny_bind (wpAny_setField hoi di (by simp) ?_)
 show wpAny _ _ (newExc (Value.type "StopIteration") [] >>= _) _ _ _
 refine Ae ?_
 simp only [newTuple,newExc]
 refine wpAny_bind (wpAny_newObj_type (wpAny_bind (m:=firstArgMember _ _) (wpAny_of_eq (a:=Value.none) (by first | rfl | (simp only [firstArgMember]; rfl)) (wpAny_newObj_type ?_ (by size_fits)))) (by size_fits))
 simp only [raiseNew]
 refine Ae (wpAny_handled (?_:_))
 rw [show A.in1.handled = none by exact hh]
 refine Ae (Am (wpAny_throw ?thr))
 case thr =>
  refine Ae (wpAny_isInstance (b:=true) (T := "StopIteration") ⟨_,Ax _ rfl,rfl⟩ isSubtype_stop ?_)
  exact Am (hq _ (((Heap.SameBut.update ..).extBut.push _).push _))
end
def ItT (a:Addr) (o:Obj) (kvs:List (List Key × V)):It:=⟨fun i H => H a = some (.frz o (.dT kvs)) ∧ i < kvs.length,fun i H x H' => H' = H ∧ ∃ kv b,kvs[i]? = some kv ∧ x = .ref b ∧ H b = some (.tup (kv.1.map kV)),fun i H => H a = some (.frz o (.dT kvs)) ∧ kvs.length = i⟩
theorem tY {X:Cx} {pins:List (Addr × Obj)} {σ:St} {H:Hp} {s:Shared} {a:Addr} {o:Obj} {kvs:List (List Key × V)} {ep:Nat} (I:Inv X pins σ H s) (ha:H a = some (.frz o (.dT kvs))) (hep:∃ es,o.data = .dict es ep) :
   kvs.length ≤ sizeLine ∧ (a == sysModules) = false ∧ ∃ xs es,KT H kvs xs ∧ s.heap.get? a = some o ∧ o.data = .dict es ep ∧ o.ExactDict ∧ es.toList = xs.map (entryOfKey (tupleKind (aZ X.prog X.w))):=by
 have ok:s.heap.get? a = some o ∧ ObjOk X.prog X.w H s.heap a (.dT kvs):=I.hok a _ ha
 obtain ⟨e,z,hd,xs,rel,o',es',ep',ho',hx,hdat,he,_⟩:=ok
 rw [e] at ho'
 cases ho'
 obtain ⟨es,hes⟩:=hep
 have q:=hdat
 rw [hes] at q
 cases q
 exact ⟨z,hd,xs,_,rel,e,hdat,hx,he⟩
theorem xX {P:Program} {w:World} {K:PySem.W.Frag} {tg:Expr} (a it:Addr) (o:Obj) (kvs:List (List Key × V)) (ep:Nat) (hep:∃ es,o.data = .dict es ep):Turn P w K tg (ItT a o kvs) [it] it (fun i h => h.IsKeyIter it a i kvs.length ep) where
 mem:=by simp
 obj:=fun i h st b hb => by
   obtain ⟨o,e,c,d⟩:=st
   rw [As.mp hb]
   exact ⟨o,e,fun v z => by rw [d] at z; cases z⟩
 keep:=fun i h h' st k => let ⟨o,ho,r⟩:=st; ⟨o,k it (by simp) o ho,r⟩
 item:=by
   intro X hP hw hK hc i pins s σ H E I hf st hg
   subst hP hw hK
   obtain ⟨ha,hi⟩:=hg
   obtain ⟨z,hd,xs,es,rel,ho,hdat,hx,he⟩:=tY I ha hep
   have hlv:=rel.length
   have hsz:es.size = xs.length:=by rw [← Eo,he,Ab]
   obtain ⟨f0,f1,f2,f3,f4,f5⟩:=hf it (by simp)
   obtain ⟨⟨k,b,v⟩,hxi,hk1,hk2,_⟩:=pR rel (Aa hi)
   have hie:i < es.size:=by omega
   have hkey:es[i].key = .ref b:=by
     have q:es[i]? = some (entryOfKey (tupleKind (aZ X.prog X.w)) (k,b,v)):=by rw [← Fc,he,Ag,hxi]; rfl
     rw [Fq hie] at q
     rw [Bs q]
     rfl
   refine bZD (en:=es) (by rw [hsz,← hlv]; exact st) ho hdat hie fun h' st' sb => ?_
   rw [hkey]
   have I1:Inv X pins σ H { s with heap:=h' }:=I.turned (t':=s.toks) (fun b o hb e => (sb.2 b hb).trans e) f0 f1 f3 f4 f5
   obtain ⟨oi,e,c,d⟩:=id st'
   refine ⟨.ref b,rfl,rQ (s:={ s with heap:=h' }) e c d (by decide) ⟨.ref b,H,I1,rfl,⟨rfl,kvs[i],b,Aa hi,rfl,hk2⟩,?_,fun b hb => (hf b hb).1⟩⟩
   rw [hlv,← hsz]
   exact st'
 done:=by
   intro X hP hw hK hc i pins s σ H E I hf st hg
   subst hP hw hK
   obtain ⟨ha,hi⟩:=hg
   obtain ⟨z,hd,xs,es,rel,ho,hdat,hx,he⟩:=tY I ha hep
   have hlv:=rel.length
   have hsz:es.size = xs.length:=by rw [← Eo,he,Ab]
   obtain ⟨f0,f1,f2,f3,f4,f5⟩:=hf it (by simp)
   exact aXR (en:=es) (I.ok.hd hc) (by rw [hsz,← hlv]; rw [← hi] at st; exact st) ho hdat fun h' eb => ⟨rfl,I.turned (t':=s.toks) (fun b o hb e => eb b o hb e) f0 f1 f3 f4 f5⟩
 self:=fun _ _ _ _ _ st h => wpAny_pyIter_keyiter st h
section
variable {prog:Program} {w:World} {A:Around} {E:Value → Shared → Prop} {s:Shared} {dq:Addr} {en:Array DictEntry} {ep:Nat} {od:Obj}
theorem aX9 {Q:Value → Shared → Prop} (hs:(dq == sysModules) = false) (hod:s.heap.get? dq = some od) (hx:od.ExactDict) (hdd:od.data = .dict en ep)
   (hq:Q (.ref s.heap.objs.size) { s with heap:=s.heap.push { cls:=.type "dict_keyiterator",data:=.fields #[.ref dq,.int 0 0,.int en.size 0,.int ep 0] } }):wpAny (model prog w) A (pyIter (.ref dq)) Q E s:=by
 have tD:s.TypeIs (.ref dq) "dict" := ⟨od,hod,hx.1⟩
 refine wpAny_pyIter_slot tD F.slot_dict_iter (Fo F.slot_dict_iter tD F.entry_dict_iter ?_ (F.args_dict_iter_1 _))
 unfold Builtin.«dict.__iter__» ; refine Ae ?_
 unfold Builtin.Dict.dictSlotNone ; refine Ae (wpAny_notOrdered_dict tD ?_)
 show wpAny _ _ (pure (Value.ref dq)) _ _ s
 refine Am ?_
 show wpAny _ _ (Builtin.Dict.showsAll dq >>= _) _ _ s
 unfold Builtin.Dict.showsAll
 rw [if_neg (by rw [hs]; decide)]
 refine Ae (Am (Ae (wpAny_dictEntries hod hdd (Ae (wpAny_dictEpoch hod hdd ?_)))))
 refine Ae (Gc (Am ⟨_,rfl, "dict_keyiterator",_,⟨_,Ax _ rfl,rfl⟩,F.slot_dict_keyiterator_next.lookup,(?_:_)⟩))
 simpa [rawInt] using hq
end
section
variable {X:Cx} {tg:Expr} {pins:List (Addr × Obj)} {σ:St} {H:Hp} {s:Shared} {a:Addr}
theorem aZM {kvs:List (List Key × V)} (I:Inv X pins σ H s) (ha:H a = some (.dT kvs)):∃ o es ep,s.heap.get? a = some o ∧ o.data = .dict es ep:=by
 obtain ⟨_,_,xs,_,o,es,ep,ho,_,hd,_⟩:=cQ9 I.hok ha
 exact ⟨o,es,ep,ho,hd⟩
theorem bXP {o:Obj} {kvs:List (List Key × V)} (I:Inv X pins σ H s) (ha:H a = some (.frz o (.dT kvs))):∃ ep,∃ es,o.data = .dict es ep:=by
 have ok:s.heap.get? a = some o ∧ ObjOk X.prog X.w H s.heap a (.dT kvs):=I.hok a _ ha
 obtain ⟨e,_,_,xs,_,o',es,ep,ho,_,hd,_⟩:=ok
 rw [e] at ho
 cases ho
 exact ⟨ep,es,hd⟩
def lP (H:Hp) (a:Addr) (R:Obj → List (List Key × V) → Hp → Prop):Prop:=(∃ kvs,H a = some (.dT kvs) ∧ ∀ o,R o kvs (upd H a (.frz o (.dT kvs)))) ∨ ∃ o kvs,H a = some (.frz o (.dT kvs)) ∧ R o kvs H
theorem bQ6 {R:Obj → List (List Key × V) → Hp → Prop} (I:Inv X pins σ H s) (h:lP H a R) :
   ∃ o kvs H' ep,Inv X pins σ H' s ∧ H' a = some (.frz o (.dT kvs)) ∧ (∃ es,o.data = .dict es ep) ∧ R o kvs H':=by
 rcases h with ⟨kvs,ha,q⟩ | ⟨o,kvs,ha,q⟩
 · obtain ⟨o,es,ep,ho,hd⟩:=aZM I ha
   exact ⟨o,kvs,_,ep,I.freeze ha rfl ho,aB,⟨es,hd⟩,q o⟩
 · obtain ⟨ep,es,hd⟩:=bXP I ha
   exact ⟨o,kvs,H,ep,I,ha,⟨es,hd⟩,q⟩
def aJX (tl:TE):TI:=fun σ H R => tl σ H (gB fun a H1 => lP H1 a fun o kvs H2 => R (ItT a o kvs) H2)
theorem lJ {l:Expr} {tl:TE} (hl:PE X l tl):PI X tg l (aJX tl):=by
 intro pins s σ H R I h
 refine thn (hl pins s σ H _ I h) fun v s1 ⟨x,H1,I1,r1,q1⟩ => ?_
 unfold gB at q1
 split at q1
 · cases r1
   rename_i a0 _
   obtain ⟨o,kvs,H2,ep,I2,ha,hep,q⟩:=bQ6 I1 q1
   obtain ⟨z,hd,xs,es,rel,ho,hdat,hx,he⟩:=tY I2 ha hep
   have hsz:es.size = kvs.length:=by rw [← Eo,he,Ab,rel.length]
   refine aX9 hd ho hx hdat ?_
   refine ⟨s1.heap.objs.size,[s1.heap.objs.size],_,_,H2,rfl,I2.kept (t':=s1.toks) fun b o e => Af _ e,xX a0 _ o kvs ep hep,⟨_,Ax _ rfl,rfl,by rw [hsz]; rfl⟩,fun b hb => ?_,q⟩
   rw [As.mp hb]
   exact I2.fpOk (Ah _) (I2.hok.fresh (Ah _))
 · exact q1.elim
def cQV:V → List V → Hp → VK → Prop:=fun x vs H Q => ∃ a y ov,x = .ref a ∧ vs = [y] ∧ DGet H a y ov ∧ Q (ov.getD .non) H
end
section
variable {σ:St} {H:Hp} {Q:VK} {D:Ends} {a b:Addr} {kvs:List (List Key × V)} {k:List Key} {v w:V} {tl:TE} {R:It → Hp → Prop} {g:TG} {tb:TS} {o:Obj}
theorem aZ2 (Pv:Nat → St → Hp → Prop) (h0:Pv 0 σ H) (hl:∀ i σ H,i ≤ kvs.length → Pv i σ H → H a = some (.frz o (.dT kvs)))
   (hs:∀ i kv b σ H,kvs[i]? = some kv → H b = some (.tup (kv.1.map kV)) → Pv i σ H → g (.ref b) σ H fun σ2 H2 => tb { D with nx:=Pv (i + 1),ct:=Pv (i + 1),bk:=D.nx } σ2 H2) (hd:∀ σ H,Pv kvs.length σ H → D.nx σ H):qF (ItT a o kvs) g tb D σ H:=by
 refine ⟨fun i m σ H => m = kvs.length - i ∧ i ≤ kvs.length ∧ Pv i σ H,⟨kvs.length,by simp,Nat.zero_le _,h0⟩,?_⟩
 rintro i m σ H ⟨rfl,hi,p⟩
 have hr:=hl i σ H hi p
 by_cases hlt:i < kvs.length
 · refine .inr ⟨⟨hr,hlt⟩,Pv (i + 1),fun σ' H' p' => ⟨kvs.length - (i + 1),by omega,rfl,hlt,p'⟩,fun x H' y => ?_⟩
   obtain ⟨rfl,kv,b,hx,rfl,hb⟩:=y
   exact hs i kv b σ _ hx hb p
 · have e:i = kvs.length:=by omega
   subst e
   exact .inl ⟨⟨hr,rfl⟩,hd σ H p⟩
theorem aZ9 (h:tl σ H (gB fun a H1 => lP H1 a fun o kvs H2 => R (ItT a o kvs) H2)):aJX tl σ H R:=h
theorem sL {Rw:Obj → List (List Key × V) → Hp → Prop} (e:H a = some (.dT kvs)) (h:∀ o,Rw o kvs (upd H a (.frz o (.dT kvs)))):lP H a Rw:=.inl ⟨kvs,e,h⟩
theorem aJK {Rw:Obj → List (List Key × V) → Hp → Prop} (e:H a = some (.frz o (.dT kvs))) (h:Rw o kvs H):lP H a Rw:=.inr ⟨o,kvs,e,h⟩
theorem bZT (h:∀ p,H p = none → Q (.ref p) (upd H p (.dT []))):aJN σ H Q:=h
theorem yY (e:Rd H a (.dT kvs)) (eb:H b = some (.tup (k.map kV))) (l:bR kvs k = some v) (h:Q v H):cZN (.ref a) (.ref b) H Q:=⟨a,v,rfl,.inr ⟨kvs,k,b,e,rfl,eb,l.symm⟩,h⟩
theorem oA (e:H a = some (.dT kvs)) (eb:H b = some (.tup (k.map kV))) (l:kvs.length < sizeLine) (h:D.nx σ (upd H a (.dT (cP kvs k v)))):aZZ D σ (.ref a) (.ref b) v H:=⟨a,_,rfl,.inr ⟨kvs,k,b,e,rfl,eb,l,rfl⟩,h⟩
theorem cXM {neg:Bool} (e:Rd H a (.dT kvs)) (eb:H b = some (.tup (k.map kV))) (h:Q (.bl (if neg then !(bR kvs k).isSome else (bR kvs k).isSome)) H):bJZ neg (.ref b) (.ref a) H Q:=⟨a,_,rfl,.inr ⟨kvs,k,b,e,rfl,eb,rfl⟩,h⟩
theorem aQ2 (e:Rd H a (.dT kvs)) (eb:H b = some (.tup (k.map kV))) (h:Q ((bR kvs k).getD .non) H):cQV (.ref a) [.ref b] H Q:=⟨a,_,_,rfl,rfl,.inr ⟨kvs,k,b,e,rfl,eb,rfl⟩,h⟩
end
theorem aZG {prog:Program} {w:World} {A:Around} {E:Value → Shared → Prop} {s:Shared} {Q:Int → Shared → Prop} (h:Q 0xFCA86420 { s with toks:=s.toks + 1 }):wpAny (model prog w) A (pyHash .none) Q E s:=by
 have tN:s.TypeIs .none "NoneType" := rfl
 unfold pyHash pyHashByItsType
 refine Ae ?_
 rw [cRoomFor,if_neg (by decide)]
 refine Am (Ae (wpAny_specialOf tN F.slot_NoneType_hash.lookup ?_))
 show wpAny _ _ (if (some (Value.builtin "NoneType.__hash__") == some Value.none) = true then _ else _) Q E s
 rw [if_neg (by rw [beq_builtin_none]; decide)]
 refine Ae (wpAny_specialOf tN F.slot_NoneType_hash.lookup ?_)
 show wpAny _ _ (callSpecialIfBoundUnlessNone? .none "__hash__" _ >>= _) Q E s
 refine Ae (wpAny_callSpecialIfBoundUnlessNone?_slot tN F.slot_NoneType_hash (Fo F.slot_NoneType_hash tN F.entry_NoneType_hash (show wpAny _ _ (do ret (← mkInt 0xFCA86420)) _ _ s from wpAny_ret_mkInt ?_) (F.args_NoneType_hash_1 _)))
 show wpAny _ _ (if (decide (-(2:Int) ^ 63 ≤ 0xFCA86420) && decide ((0xFCA86420:Int) < 2 ^ 63)) = true then _ else _) Q E _
 rw [if_pos (by decide)]
 exact Am h
def bX4:Option Key → Value → Bool
 | none,.none => true
 | none,_ => false
 | some k,v => kK k v
theorem cV {v:Value} (h:bX4 none v = true):v = .none:=by
 cases v <;> first | rfl | (exact absurd h (by decide)) | cases h
theorem kN {k:Key} {v:Value} (h:kK k v = true):v ≠ .none:=fun z => by
 rcases bN h with ⟨i,t,_,e⟩ | ⟨x,t,_,e⟩ <;> rw [z] at e <;> cases e
def dZ7 (w:World):Option Key → Int
 | none => 0xFCA86420
 | some k => dXG w k
def aQR (prog:Program) (w:World):PySem.KeyKind prog w (Option Key) where
 is:=bX4
 hash:=dZ7 w
 inj:=fun v a b ha hb => by
   cases a with
   | none =>
     cases b with
     | none => rfl
     | some b => exact absurd (cV ha) (kN hb)
   | some a =>
     cases b with
     | none => exact absurd (cV hb) (kN ha)
     | some b => exact Dq some ((aZ prog w).inj v a b ha hb)
 byValue:=fun k v h => by
   cases k with
   | none => rw [cV h]; rfl
   | some k => exact (aZ prog w).byValue k v h
 pyHash:=fun {A E s k v Q} hv h => by
   cases k with
   | none => rw [cV hv]; exact aZG h
   | some k => exact (aZ prog w).pyHash hv h
 eqBool:=fun {A E s a b u v Q} hu hv h => by
   cases a with
   | none =>
     rw [cV hu]
     cases b with
     | none => rw [cV hv]; exact SeqAt.EqAt.same _ _ _ _ _ (by simpa using h)
     | some b =>
       have h2:Q false s:=by simpa using h
       rcases bN (show kK b v = true from hv) with ⟨j,t,_,rfl⟩ | ⟨y,t,_,rfl⟩
       · exact SeqAt.EqAt.none_int _ _ _ _ _ _ h2
       · exact SeqAt.EqAt.none_str _ _ _ _ _ _ h2
   | some a =>
     cases b with
     | none =>
       rw [cV hv]
       have h2:Q false s:=by simpa using h
       rcases bN (show kK a u = true from hu) with ⟨j,t,_,rfl⟩ | ⟨y,t,_,rfl⟩
       · exact SeqAt.EqAt.int_none _ _ _ _ _ _ h2
       · exact SeqAt.EqAt.str_none _ _ _ _ _ _ h2
     | some b =>
       refine (aZ prog w).eqBool hu hv ?_
       have e:decide (some a = some b) = decide (a = b):=Dh.mpr ⟨Bs,fun z => by rw [z]⟩
       rw [e] at h
       exact h
 «strs» := fun k x t v h => by
   cases k with
   | none => exact absurd (cV h) (fun z => nomatch z)
   | some k => exact (aZ prog w).strs k x t v h
theorem cZR {prog:Program} {w:World} {h:Heap} {a:Addr} {f:Key → Option Value} (hm:h.MapOf (aZ prog w) a f):h.MapOf (aQR prog w) a (fun k => k.bind f):=by
 obtain ⟨o,es,ep,ho,hx,hd,hk,hf⟩:=hm
 refine ⟨o,es,ep,ho,hx,hd,fun e he => ?_,fun k => ?_⟩
 · obtain ⟨k,h1,h2⟩:=hk e he
   exact ⟨some k,h1,h2⟩
 · cases k with
   | some k => exact hf k
   | none =>
     show findBy bX4 es none = none
     unfold findBy
     rw [Option.map_eq_none_iff,Array.find?_eq_none]
     intro e he z
     obtain ⟨k,h1,_⟩:=hk e he
     exact kN h1 (cV z)
section
variable {X:Cx}
def bXR:R2:=fun x y H Q => ∃ a,y = .ref a ∧ ((∃ ov,DGet H a x ov ∧ Q (.bl ov.isSome) H) ∨ (x = .non ∧ ∃ kvs,Rd H a (.dK kvs) ∧ Q (.bl false) H))
theorem cZM (hu:X.A.units + 1 < cLine):OpR X (compareOp .In) bXR:=by
 intro pins s σ H x y v u Q I rx ry h
 obtain ⟨a,rfl,h⟩:=h
 cases ry
 rcases h with ⟨ov,g,q⟩ | ⟨rfl,kvs,e,q⟩
 · exact dXK hu I g rx fun s3 I3 => ⟨.bl ov.isSome,H,I3,rfl,q⟩
 · cases rx
   obtain ⟨z,hd,vs,rel,dd⟩:=iM I.hok e
   exact wpAny_in_of (knd:=aQR X.prog X.w) (k:=none) (key:=Value.none) rfl hd (cZR dd.mapOf) ⟨.bl false,H,I.tok _,rfl,q⟩
theorem aJT (hu:X.A.units + 1 < cLine):MtR X "dict.get" cQV:=by
 intro pins s σ H x vs v us Q I rx rv h
 obtain ⟨a,y,ov,rfl,rfl,g,q⟩:=h
 cases rx
 obtain ⟨u,rfl,ru⟩:=rv.one
 exact cJ0 hu I g ru fun w1 s1 I1 r1 => ⟨_,H,I1,r1,q⟩
end
section
variable {H:Hp} {Q:VK} {a:Addr} {kvs:List (Key × V)} {z:Str}
theorem cJZ (e:Rd H a (.dK kvs)) (h:Q (.bl false) H):bXR .non (.ref a) H Q:=⟨a,rfl,.inr ⟨rfl,kvs,e,h⟩⟩
theorem bJ6 (e:Rd H a (.dK kvs)) (h:Q (.bl (bR kvs (Sum.inr z)).isSome) H):bXR (.str z) (.ref a) H Q:=⟨a,rfl,.inl ⟨_,.inl ⟨kvs,.inr z,e,rfl,rfl⟩,h⟩⟩
end
section
variable {X:Cx}
def dXR:R2:=fun x y H Q => ∃ (p q:Addr) (a b c d:Int),x = .ref p ∧ y = .ref q ∧ H p = some (.tup [.int a,.int b]) ∧ H q = some (.tup [.int c,.int d]) ∧ Q (.bl (decide (a = c ∧ b = d))) H
theorem dXV (hu:X.A.units < cLine):OpR X (compareOp .Eq) dXR:=by
 intro pins s σ H x y v u Q I rx ry h
 obtain ⟨p,q,a,b,c,d,rfl,rfl,hp,hq,k⟩:=h
 cases rx
 cases ry
 obtain ⟨its,r1,l1,_⟩:=I.tuple (SqT.of (K:=X.K) hp)
 obtain ⟨its2,r2,l2,_⟩:=I.tuple (SqT.of (K:=X.K) hq)
 obtain ⟨u1,u2,rfl,⟨t1,rfl⟩,⟨t2,rfl⟩⟩:=r1.two
 obtain ⟨w1,w2,rfl,⟨t3,rfl⟩,⟨t4,rfl⟩⟩:=r2.two
 refine SeqAt.eq_tupleAt (e:=fun j => if j = 0 then a == c else b == d) (show s.heap.IsTuple p _ from l1) (show s.heap.IsTuple q _ from l2) hu (fun j h1 h2 => ?_) ?_
 · match j,h1,h2 with
   | 0,_,_ => exact SeqAt.EqAt.int_int a t1 c t3
   | 1,_,_ => exact SeqAt.EqAt.int_int b t2 d t4
   | j + 2,h1,_ => exact absurd h1 (by show ¬ j + 2 < 2; omega)
 · refine ⟨.bl (decide (a = c ∧ b = d)),H,I,?_,k⟩
   show Value.bool _ = Value.bool _
   congr 1
   show (((if (0:Nat) = 0 then a == c else b == d) && ((if (1:Nat) = 0 then a == c else b == d) && true)) && true) = _
   rw [if_pos rfl,if_neg (by decide),Bool.and_true,Bool.and_true]
   by_cases e1:a = c
   · by_cases e2:b = d
     · simp [e1,e2]
     · simp [e1,e2]
   · simp [e1]
theorem dXZ {H:Hp} {Q:VK} {p q:Addr} {a b c d:Int} (hp:H p = some (.tup [.int a,.int b])) (hq:H q = some (.tup [.int c,.int d])) (h:Q (.bl (decide (a = c ∧ b = d))) H):dXR (.ref p) (.ref q) H Q:=⟨p,q,a,b,c,d,rfl,rfl,hp,hq,h⟩
end
end L2
set_option maxHeartbeats 4000000
namespace L2
open PySem PySem.Spec PyProof.Rows
open PySem.AutoSeq1 (wpAny_loadPart')
open PySem.MeetsSeq PySem.MeetsSeq2 PySem.MeetsSeq3
def EqB (P:Program) (w:World) (A:Around) (s:Shared) (u v:Value):Prop:=∃ b:Bool,∀ (E:Value → Shared → Prop) (Q:Bool → Shared → Prop),Q b s → wpAny (model P w) A (eqBool u v) Q E s
section
variable {P:Program} {w:World} {A:Around} {E:Value → Shared → Prop} {s:Shared} {l:Addr} {xs:Array Value}
theorem EqB.same (u:Value):EqB P w A s u u:=⟨true,fun E Q hq => SeqAt.EqAt.same u P w E Q hq⟩
end
section
variable {X:Cx}
end
section
variable {X:Cx} {l:Expr} {ta:TA} {elts:List Expr} {x1:Nat} {tp p pos:Pos}
end
end L2
set_option maxHeartbeats 4000000
namespace L2
open PySem PySem.Spec PyProof.Rows
section
variable {prog:Program} {w:World} {A:Around} {E:Value → Shared → Prop} {s:Shared}
def CtxNone (h:Heap) (ea:Addr):Prop:=∃ o fs,h.get? ea = some o ∧ o.data = .fields fs ∧ fs[2]? = some .none
theorem CtxNone.ext {h h':Heap} {ea:Addr} (c:CtxNone h ea) (k:∀ o,h.get? ea = some o → h'.get? ea = some o):CtxNone h' ea:=by
 obtain ⟨o,fs,h1,h2,h3⟩:=c
 exact ⟨o,fs,k o h1,h2,h3⟩
end
end L2
set_option maxHeartbeats 4000000
namespace L2
open PySem PySem.Spec PyProof.Rows
section
variable {X:Cx} {pins:List (Addr × Obj)} {σ:St} {H:Hp} {s:Shared} {ea:Addr}
end
section
variable {prog:Program} {w:World} {A:Around} {E:Value → Shared → Prop} {s:Shared}
theorem CtxNone.some {h:Heap} {ea:Addr} (c:CtxNone h ea):∃ o,h.get? ea = Option.some o:=by
 obtain ⟨o,_,e,_⟩:=c
 exact ⟨o,e⟩
end
end L2
set_option maxHeartbeats 4000000
namespace L2
open PySem PySem.Spec PyProof.Rows
section
variable {X:Cx} {tg:Expr}
end
section
variable {X:Cx} {tg l a b:Expr} {tl ta tb:TE} {p pos:Pos}
end
end L2
set_option maxHeartbeats 4000000
namespace L2
open PySem PySem.Spec PyProof.Rows
section
variable {P:Program} {w:World} {K:PySem.W.Frag} {mg:Str → Option Value} {base:Heap}
end
section
variable {X:Cx} {pn:List (Addr × Obj)} {ea:Addr} {k k':Nat} {ps:List Str} {sp:Sp} {x:Str} {p pos:Pos} {e:Expr} {es:List Expr} {t:TA}
end
section
variable {X:Cx} {pins:List (Addr × Obj)}
end
end L2
set_option maxHeartbeats 4000000
namespace L2
open PySem PySem.Spec PyProof.Rows
section
variable {M:Model} {A:Around} {E:Value → Shared → Prop} {s:Shared} {B:Heap} {env:Env} {outer l:List Env} {L e:Addr} {cls fl:Value} {d:Option Addr} {Q:Unit → Shared → Prop}
theorem wY {o:Option Addr} (F:Fly B l e cls d fl s.heap) (hQ:∀ h' fl',Fly B l e cls d fl' h' → s.heap.UpToSlots h' → Q () { s with heap:=h' }):wpAny M A (setFlight (.ref e) o) Q E s:=by
 obtain ⟨hB,hn,hl,oe,vs,T,oT,ts,he,hc,hd,h1,hT,hTe,gT,dT,t3,c2⟩:=F
 have z3:3 < ts.size:=(Cm.mp t3).1
 unfold setFlight
 refine Ae (Ei he hd h1 ?_)
 rw [if_pos (show (Value.ref T != Value.none) = true by simp)]
 refine Gd gT dT z3 (hQ _ (o.elim .none fun f => rawInt f) ?_ fun b o q nf => ⟨o.slots,nI gT dT b o q nf⟩)
 have dm:=Fw dT (·.setIfInBounds 3 (o.elim Value.none fun f => rawInt f))
 refine ⟨fun b u q => ?_,hn,hl.of_keeps fun b u q nf => ⟨u,nI gT dT b u q nf,rfl⟩,oe,vs,T,_,_,?_,hc,hd,h1,hT,hTe,Heap.get?_update_self _ gT (Obj.isFreed_of_fields dm),dm,by simp [z3],c2⟩
 · rw [By _ _ (fun z:T = b => by rw [← z,hT] at q; cases q)]
   exact hB b u q
 · rw [By _ _ hTe]
   exact he
theorem xY {α:Type} {what:String} {cenv:Env} {Q:α → Shared → Prop} (F:Fly B l e cls d fl s.heap) (hE:∀ h' fl',Fly B l e cls d fl' h' → s.heap.UpToSlots h' → E (.ref e) { s with heap:=h' }) :
   wpAny M A (passOn what (.ref e) cenv:Sem α) Q E s:=by
 obtain ⟨oe,vs,T,oT,ts,he,hc,hd,h1,_⟩:=id F.on
 unfold PySem.passOn
 refine Ae (Ei he hd h1 ?_)
 rw [if_neg (show ¬ ((Value.ref T == Value.none) = true) by simp)]
 exact Ae (wY F fun h' fl' F' up => wpAny_throw (hE h' fl' F' up))
theorem Fly.hid {h h':Heap} {C:Addr} {oC:Obj} (F:Fly B l e cls d fl h) (hC:B.get? C = some oC) (sb:Heap.SameBut C h h'):Fly (PySem.W.hideAll B [C]) l e cls d fl h':=by
 have nC:∀ b,B.get? b = none → b ≠ C:=fun b hb z => by rw [z,hC] at hb; cases hb
 have gone:∀ b,B.get? b = none → (PySem.W.hideAll B [C]).get? b = none:=fun b hb => by
   cases q:(PySem.W.hideAll B [C]).get? b with
   | none => rfl
   | some o =>
     have:=Ft _ q
     rw [hb] at this
     cases this
 obtain ⟨hB,hn,hl,oe,vs,T,oT,ts,he,hc,hd,h1,hT,hTe,gT,r⟩:=F
 refine ⟨fun b o q => ?_,gone e hn,?_,oe,vs,T,oT,ts,(sb.2 e (nC e hn)).trans he,hc,hd,h1,gone T hT,hTe,(sb.2 T (nC T hT)).trans gT,r⟩
 · have hb:b ≠ C:=fun z => by
     rw [z,PySem.W.hideAll_none _ An] at q
     cases q
   exact (sb.2 b hb).trans (hB b o (Ft _ q))
 · have all:∀ l:List Env,h.FunFrames B l → h'.FunFrames (PySem.W.hideAll B [C]) l:=fun l => by
     induction l with
     | nil => exact fun _ => trivial
     | cons env r ih => exact fun ⟨hk,⟨L,o,hf,hn,ho,hd⟩,hr⟩ => ⟨hk,⟨L,o,hf,gone L hn,(sb.2 L (nC L hn)).trans ho,hd⟩,ih hr⟩
   exact all l hl
end
def LX (X:Cx) (Ex:XK):Value → Shared → Prop:=fun e s' => ∃ ea cls d B H' fl,e = .ref ea ∧ s'.os = X.s₀.os ∧ AllBare s'.gens ∧ Fly B X.stack ea cls d fl s'.heap ∧ HOk X.prog X.w H' B ∧ UnB X.fs X.H₀ H' X.s₀.heap B s'.heap ∧ Ex cls d H'
def dZQ (X:Cx) (Ex:XK):Prop:=∀ e s',X.Ok → LX X Ex e s' → X.xe e s'
def CErr (X:Cx) (Ex:XK) (C:Addr) (e:Value) (s':Shared):Prop:=∃ ea cls d B H' fl m,e = .ref ea ∧ s'.os = X.s₀.os ∧ AllBare s'.gens ∧ Fly B X.stack ea cls d fl s'.heap ∧ B.Ns C m ∧ HOk X.prog X.w H' B ∧ H' C = none ∧ UnB X.fs X.H₀ H' X.s₀.heap B s'.heap ∧ X.s₀.heap.objs.size ≤ C ∧ Ex cls d H'
theorem CErr.post {X:Cx} {Ex:XK} {C:Addr} {e:Value} {s':Shared} (h:CErr X Ex C e s') (ok:X.Ok) (hL:dZQ X Ex):∃ m,s'.heap.Ns C m ∧ ∀ h',Heap.SameBut C s'.heap h' → ∀ cenv:Env,cenv.locals = C →
   wpAny (model X.prog X.w) X.A (passOn "comprehension.variables-let-go" e cenv:Sem Value) (fun _ _ => False) X.xe { s' with heap:=h' }:=by
 obtain ⟨ea,cls,d,B,H',fl,m,rfl,os,bare,F,nB,hok,hC,un,hz,q⟩:=h
 refine ⟨m,nB.keeps fun b o e => F.stays b o e,fun h' sb cenv _ => ?_⟩
 obtain ⟨oC,_,_,gC,_⟩:=id nB
 refine xY (s:={ s' with heap:=h' }) (F.hid gC sb) fun h2 fl2 F2 up => hL _ _ ok ?_
 have neC:∀ b o,X.s₀.heap.get? b = some o → b ≠ C:=fun b o e z => absurd (Aq e) (Nat.not_lt.mpr (by rw [z]; exact hz))
 have hid:∀ b o,B.get? b = some o → b ≠ C → (PySem.W.hideAll B [C]).get? b = some o:=fun b o e n => PySem.W.hideAll_get _ e fun hm => n (As.mp hm)
 refine ⟨ea,cls,d,_,H',fl2,rfl,os,bare,F2,hok.down fun b o u e g => hid b o g fun z => ?_,⟨fun b o e n hb => hid b o (un.keep b o e n hb) (neC b o e),fun b o e n hb => ?_,un.free,fun b o e hb => ?_,un.tups,un.frzs,un.tbls⟩,q⟩
 · rw [z,hC] at e
   cases e
 · obtain ⟨sl,q1⟩:=un.slot b o e n hb
   obtain ⟨_,o2,g2,nf⟩:=ok.funs.mem hb
   rw [e] at g2
   cases g2
   obtain ⟨sl2,q2⟩:=up b _ ((sb.2 b (neC b o e)).trans q1) nf
   exact ⟨sl2,q2⟩
 · obtain ⟨o',q1⟩:=un.there b o e hb
   exact ⟨o',hid b o' q1 (neC b o e)⟩
section
variable {X:Cx} {Ex:XK} {N:List Str} {scope:Scope} {cl:List (Str × Addr)} {vals:St → St} {tg elt iter:Expr} {ifs:List Expr} {pos spos py:Pos} {wi:TI} {g:TG} {tests:TT} {te:TE}
end
end L2
set_option maxHeartbeats 4000000
namespace L2
open PySem PySem.Spec PyProof.Rows
end L2
set_option maxHeartbeats 4000000
namespace L2
open PySem PySem.Spec PyProof.Rows
def aZ5 (prog:Program) (w:World) (A:Around) (old:Heap) (S:Addr) (vs:List Value) (J:Nat → Obj → Prop):Prop :=
 ∀ (i:Nat) (v:Value) (s:Shared) (o:Obj) (E:Value → Shared → Prop) (Q:Bool → Shared → Prop),vs[i]? = some v → (∀ b u,old.get? b = some u → s.heap.get? b = some u) → s.heap.get? S = some o → J i o →
   (∀ (c:Bool) (h':Heap) (tk:Nat) (o':Obj),Heap.SameBut S s.heap h' → h'.get? S = some o' → J (i + 1) o' → Q c { s with heap:=h',toks:=tk }) → wpAny (model prog w) A (setAdd S v) Q E s
section
variable {prog:Program} {w:World} {A:Around} {E:Value → Shared → Prop} {R:Result → Shared → Prop} {old:Heap} {S l it:Addr} {vs:List Value} {J:Nat → Obj → Prop}
theorem sF {s:Shared} (h:wpAny (model prog w) A.in1 (Builtin.«set.update.loop» ⟨[.ref S,.ref it],[]⟩) (fun fin s' => match fin with | .done f => R (.ok f) s' | .again c => c.quiet = true ∧ codeAny (model prog w) A c R s') (fun e s' => R (.error e) s') s) :
   codeAny (model prog w) A (.builtin "set.update.loop" ⟨[.ref S,.ref it],[]⟩) R s:=by
 refine Ef PyProof.Rows.F.entry_set_update_loop (by rw [Ej PyProof.Rows.F.plain_set_update_loop]; exact h)
theorem qU (F:aZ5 prog w A.in1 old S vs J) (hh:A.in1.handled = none) (nSl:l ≠ S) (nSi:it ≠ S) (nli:l ≠ it) (oS:old.get? S = none) (oI:old.get? it = none):∀ (k i:Nat) (s:Shared) (o:Obj),k + i = vs.length → s.heap.IsListIter it l i → s.heap.IsList l vs.toArray → (∀ b u,old.get? b = some u → s.heap.get? b = some u) →
   s.heap.get? S = some o → J i o → (∀ (h':Heap) (tk:Nat) (o':Obj),(∀ b u,old.get? b = some u → h'.get? b = some u) → h'.get? S = some o' → J vs.length o' → R (.ok (.ret .none)) { s with heap:=h',toks:=tk }) →
   codeAny (model prog w) A (.builtin "set.update.loop" ⟨[.ref S,.ref it],[]⟩) R s
 | 0,i,s,o,hk,hi,hl,ho,hS,hJ,q => by
   obtain rfl:i = vs.length:=by omega
   refine sF ?_
   unfold Builtin.«set.update.loop»
   dsimp only
   refine wpAny_bind (wpAny_pyNext_list_end hh hi hl (by simp) fun h' x => wpAny_pure ?_)
   exact q h' s.toks o (fun b u e => x b u (fun z => by rw [z,oI] at e; cases e) (ho b u e)) (x S o nSi.symm hS) hJ
 | k + 1,i,s,o,hk,hi,hl,ho,hS,hJ,q => by
   have hlt:i < vs.length:=by omega
   refine sF ?_
   unfold Builtin.«set.update.loop»
   dsimp only
   refine wpAny_bind (wpAny_pyNext_list_item hi hl (x:=vs[i]) (by simp [hlt]) fun h1 i1 x1 => ?_)
   dsimp only
   have S1:h1.get? S = some o:=(x1.2 S nSi.symm).trans hS
   have l1:h1.IsList l vs.toArray:=hl.extBut x1.extBut nli
   have o1:∀ b u,old.get? b = some u → h1.get? b = some u:=fun b u e => (x1.2 b fun z => by rw [z,oI] at e; cases e).trans (ho b u e)
   refine Ae (Cy (F i vs[i] { s with heap:=h1 } o _ _ (Aa hlt) o1 S1 hJ fun c h2 tk o2 x2 S2 j2 => ?_))
   have o2':∀ b u,old.get? b = some u → h2.get? b = some u:=fun b u e => (x2.2 b fun z => by rw [z,oS] at e; cases e).trans (o1 b u e)
   refine Am ⟨Gm PyProof.Rows.F.plain_set_update_loop _,qU F hh nSl nSi nli oS oI k (i + 1) { s with heap:=h2,toks:=tk } o2 (by omega) ?_ (l1.extBut x2.extBut nSl) o2' S2 j2 q⟩
   obtain ⟨u,hu,r⟩:=i1
   exact ⟨u,(x2.2 it nSi).trans hu,r⟩
end
section
variable {prog:Program} {w:World} {A:Around} {E:Value → Shared → Prop} {s:Shared}
def bare (led:Bool):Obj:={ cls:=.type "set",dict:=none,data:=.set #[] 0 (.fresh 0 0 led) }
theorem aJU {x:Value} {Q:Value → Shared → Prop}
   (h:∀ led:Bool,wpAny (model prog w) A.in1.in1 (Builtin.«set.__init__» ⟨[.ref s.heap.objs.size,x],[]⟩)
     (fun fin s' => match fin with | .done f => wants (fun r s₂ => r = .none ∧ Q (.ref s.heap.objs.size) s₂) E (.ok f) s' | .again c' => c'.quiet = true ∧ codeAny (model prog w) A.in1 c' (wants (fun r s₂ => r = .none ∧ Q (.ref s.heap.objs.size) s₂) E) s')
     (fun e s' => wants (fun r s₂ => r = .none ∧ Q (.ref s.heap.objs.size) s₂) E (.error e) s') { s with heap:=s.heap.push (bare led) }) :
   wpAny (model prog w) A (call (.type "set") [x]) Q E s:=by
 have ft:=PySem.F.called_set
 have hct:=PySem.F.typeCall_set_1 x
 obtain ⟨_,_,f1⟩:=ft.mro
 have f2:=ft.made
 have f3:=ft.sub
 have f4:=ft.notType
 have f5:=ft.canCreate
 refine Fu (codeAny_of_tree (show wpAny _ _ (callAny (.type "set") _) _ _ _ from Am ⟨Fv _ (by decide +kernel),Ef PySem.F.entry_type_call (by
   rw [Around.under_plain (weight_type_call_type "set" [x] []) rfl]
   repeat any_goals first | assumption | wp_step
   refine Eh (code_set_new_1 x (E:=E) (Q₁:=fun obj s₁ => ∃ led:Bool,obj = .ref s.heap.objs.size ∧ s₁ = { s with heap:=s.heap.push (bare led) }) fun led => ⟨led,rfl,rfl⟩) fun r s₁ hr => ?_
   rcases r with e | fl
   · exact hr
   · cases fl with
     | ret obj =>
       obtain ⟨led,rfl,rfl⟩:=hr
       have hT:Shared.TypeIs { s with heap:=s.heap.push (bare led) } (.ref s.heap.objs.size) "set" := ⟨_,Ax _ rfl,rfl⟩
       have f6:=ft.init.lookup
       have f7:=ft.init.bind (.ref s.heap.objs.size)
       repeat any_goals first | assumption | wp_step
       refine Eh (Dr ft.init.plain PySem.F.entry_set_init (check_set_init_1 hT (h led))) fun r₂ s₂ hr₂ => ?_
       rcases r₂ with e | fl₂
       · exact hr₂
       · cases fl₂ with
         | ret r =>
           obtain ⟨rfl,hq⟩:=hr₂
           repeat any_goals first | assumption | wp_step
         | _ => exact hr₂.elim
     | _ => exact hr.elim)⟩))
theorem wR {l:Addr} {vs:List Value} {J:Nat → Obj → Prop} {Q:Value → Shared → Prop} (hh:A.handled = none) (hl:s.heap.IsList l vs.toArray) (j0:∀ led:Bool,J 0 (bare led))
   (F:∀ A':Around,A'.units ≤ A.units + 8 → aZ5 prog w A' s.heap s.heap.objs.size vs J)
   (h:∀ (h':Heap) (tk:Nat) (o:Obj),(∀ b u,s.heap.get? b = some u → h'.get? b = some u) → h'.get? s.heap.objs.size = some o → J vs.length o → Q (.ref s.heap.objs.size) { s with heap:=h',toks:=tk }) :
   wpAny (model prog w) A (call (.type "set") [.ref l]) Q E s:=by
 refine aJU fun led => ?_
 obtain ⟨⟨ocls,odict,odata,oslots⟩,hol,hcl,nl,hdl⟩:=id hl
 obtain rfl:ocls = .type "list" := hcl
 obtain rfl:odata = .seq vs.toArray nl:=hdl
 have hb:(s.heap.push (bare led)).get? s.heap.objs.size = some (bare led):=Ax _ rfl
 have hol':(s.heap.push (bare led)).get? l = some { cls:=.type "list",dict:=odict,data:=.seq vs.toArray nl,slots:=oslots }:=Af _ hol
 have hl1:(s.heap.push (bare led)).IsList l vs.toArray:=⟨_,hol',rfl,nl,rfl⟩
 have g1:=PySem.F.sub_list_set
 have g2:=PySem.F.sub_list_frozenset
 have g3:(Value.type "list" == Value.type "dict") = false:=by decide
 unfold bare at hb hol' hl1
 unfold bare Builtin.«set.__init__» noKeywords Builtin.Frozenset.updateFrom
 generalize hPI:pyIter = PI
 wp_walk
 subst hPI
 refine Fe hl1 (Ae (wpAny_runValue ?_))
 have hlS:l < s.heap.objs.size:=Aq hol
 have none_at:∀ b,s.heap.objs.size ≤ b → s.heap.get? b = none:=fun b hb' => by
   cases e:s.heap.get? b with
   | none => rfl
   | some u => exact absurd (Aq e) (Nat.not_lt.mpr hb')
 refine qU (A:=A.in1.in1) (old:=s.heap) (l:=l) (vs:=vs) (J:=J) (F _ (by show A.units + 1 + 1 + 1 ≤ A.units + 8; omega)) hh (Bj hlS) ?_ ?_ (none_at _ (Ah _)) (none_at _ ?_) vs.length 0 _ (bare led) rfl ⟨_,Ax _ rfl,rfl,rfl⟩ (hl1.push _)
   (fun b u e => Af _ (Af _ e)) (Af _ hb) (j0 led) fun h' tk o' k1 k2 k3 => ?_
 · rw [Er]; exact Fz (Nat.lt_succ_self _)
 · rw [Er]; exact Bj (Nat.lt_succ_of_lt hlS)
 · rw [Er]; exact Nat.le_succ _
 · exact Am (Am ⟨rfl,h h' tk o' k1 k2 k3⟩)
end
theorem oP {acc:List Str} {z:Str}:(step_dedup acc z).length = if acc.any (· == z) then acc.length else acc.length + 1:=by
 unfold step_dedup
 split <;> simp
theorem aXI (acc:List Str) (z k:Str):(step_dedup acc z).any (· == k) = (acc.any (· == k) || decide (k = z)):=by
 unfold step_dedup
 split
 · rename_i h
   by_cases e:k = z
   · rw [e,h,Ar rfl]; rfl
   · rw [Av e,Bool.or_false]
 · rw [List.any_append]
   by_cases e:k = z
   · rw [e,decide_eq_true rfl]; simp
   · rw [decide_eq_false e,show [z].any (· == k) = false by simp [Ne.symm e]]
theorem bZ4 {vs:List Value} {zs:List Str} (h:StrsAre vs zs):∀ {i:Nat} {v:Value},vs[i]? = some v → ∃ z t,zs[i]? = some z ∧ v = .str z t:=by
 induction h with
 | nil => intro i v e; cases e
 | cons z t _ ih =>
   intro i v e
   cases i with
   | zero => cases e; exact ⟨z,t,rfl,rfl⟩
   | succ i => exact ih e
def yW (prog:Program) (w:World) (S:Addr) (zs:List Str) (i:Nat) (o:Obj):Prop:=∀ h:Heap,h.get? S = some o → h.SetOf (PySem.strKind prog w) S (fun k => ((zs.take i).foldl step_dedup []).any (· == k)) ((zs.take i).foldl step_dedup []).length
theorem aJR (zs:List Str):(zs.foldl step_dedup []).length ≤ zs.length:=by
 have g:∀ (zs acc:List Str),(zs.foldl step_dedup acc).length ≤ acc.length + zs.length:=fun zs => by
   induction zs with
   | nil => intro acc; exact Ah _
   | cons z r ih =>
     intro acc
     have h1:=ih (step_dedup acc z)
     have h2:=oP (acc:=acc) (z:=z)
     rw [List.foldl_cons,Az]
     split at h2 <;> omega
 have:=g zs []
 simpa using this
theorem yU {prog:Program} {w:World} {A:Around} {old:Heap} {S:Addr} {vs:List Value} {zs:List Str} (hz:StrsAre vs zs) (hl:zs.length ≤ 1000):aZ5 prog w A old S vs (yW prog w S zs):=by
 intro i v s o E Q hv _ hS hJ q
 obtain ⟨z,t,ez,rfl⟩:=bZ4 hz hv
 have hroom:((zs.take i).foldl step_dedup []).length + 1 < scanBound:=by
   have h1:=aJR (zs.take i)
   rw [Bl] at h1
   unfold scanBound
   omega
 unfold setAdd
 refine Cy (Ae ((PySem.strKind prog w).pyHash (k:=z) (strKind_is _ _ _ _) ?_))
 refine wpAny_setAddHashed_of (knd:=PySem.strKind prog w) (s:={ s with toks:=s.toks + 1 }) (strKind_is _ _ _ _) rfl (hJ s.heap hS) hroom fun h' sb hS2 => ?_
 obtain ⟨o',es,ep,tb,ho',rest⟩:=hS2
 refine q _ h' _ o' sb ho' fun h hh => PyProof.Rows.SetOf_congr ⟨o',es,ep,tb,hh,rest⟩ (fun k => ?_) ?_
 · rw [Aw,ez,Gf]
   exact (aXI _ z k).symm
 · rw [Aw,ez,Gf]
   exact (oP (acc:=(zs.take i).foldl step_dedup []) (z:=z)).symm
theorem aZH {prog:Program} {w:World} {S:Addr} {zs:List Str} (led:Bool):yW prog w S zs 0 (bare led):=fun h hh => (setObjOf_fresh (knd:=PySem.strKind prog w) led).setOf hh (by unfold scanBound; omega)
end L2
set_option maxHeartbeats 4000000
namespace L2
open PySem PySem.Spec PyProof.Rows
def pK (a:Addr) (n:Nat):HO:=.ext fun h => ∃ o es ep t,h.get? a = some o ∧ o.ExactSet ∧ o.data = .set es ep t ∧ t.fits es.size = true ∧ es.size = n
def rV (zs:List Str):Nat:=(zs.foldl step_dedup []).length
theorem uZ {zs:List Str} (h:zs.Nodup):rV zs = zs.length:=by
 have g:∀ (zs acc:List Str),zs.Nodup → (∀ z ∈ zs,z ∉ acc) → zs.foldl step_dedup acc = acc ++ zs:=by
   intro zs
   induction zs with
   | nil => intro acc _ _; simp
   | cons z r ih =>
     intro acc nd ha
     have n1:=Bx.mp nd
     have e:step_dedup acc z = acc ++ [z]:=by
       unfold step_dedup
       rw [if_neg]
       rw [Gh]
       rintro ⟨x,hx,hxz⟩
       exact ha z An (by rw [← eq_of_beq hxz]; exact hx)
     rw [List.foldl_cons,e,ih _ n1.2 fun y hy hm => ?_,Gb]
     · rfl
     · rcases Bi.mp hm with m | m
       · exact ha y (Ao _ hy) m
       · rw [As.mp m] at hy
         exact n1.1 hy
 unfold rV
 rw [g zs [] h fun z _ => (fun m => nomatch m)]
 rfl
def cXG:List V → Hp → VK → Prop:=fun xs H Q => ∃ (p:Addr) (zs:List Str),xs = [.ref p] ∧ rdL H p = some (zs.map V.str) ∧ zs.length ≤ 1000 ∧ ∀ r,H r = none → Q (.ref r) (upd H r (pK r (rV zs)))
theorem cJY {X:Cx} (hc:X.calm = true):CallR X (.type "set") cXG:=by
 intro pins s σ H xs us Q I r h
 obtain ⟨p,zs,rfl,hp,hl,q⟩:=h
 obtain ⟨u,rfl,ru⟩:=fI r
 cases ru
 obtain ⟨its,rv,pl,hz⟩:=I.list (aW hp)
 have hlen:=rv.length
 rw [Ab] at hlen
 refine wR (I.ok.hd hc) pl.isList (J:=yW X.prog X.w s.heap.objs.size zs) aZH (fun A' _ => yU (yQ rv) hl) fun h' tk o hk ho hJ => ?_
 obtain ⟨o,es,ep,t,ho,hex,hd,_,_,_,hf,hn⟩:=hJ h' ho
 rw [show zs.take its.length = zs by rw [← hlen]; exact Bh ..] at hn
 have hfresh:H s.heap.objs.size = none:=I.hok.fresh (Ah _)
 have I1:Inv X pins σ H { s with heap:=h',toks:=tk }:=I.kept hk
 refine ⟨.ref s.heap.objs.size,_,I1.adopt (o:=pK s.heap.objs.size (rV zs)) (I.freAt (Ah _)) hfresh ?_,rfl,q _ hfresh⟩
 exact ⟨⟨o,es,ep,t,ho,hex,hd,hf,hn⟩,⟨o,ho⟩,fun h1 h2 ⟨o,es,ep,t,g,r⟩ k => ⟨o,es,ep,t,k o g,r⟩⟩
def aQS:List V → Hp → VK → Prop:=fun xs H Q => ∃ (p:Addr) (n:Nat),xs = [.ref p] ∧ H p = some (pK p n) ∧ n ≤ 1000 ∧ Q (.int (n:Int)) H
theorem bXO {X:Cx}:CallR X (.builtin "len") aQS:=by
 intro pins s σ H xs us Q I r h
 obtain ⟨p,n,rfl,hp,hn,q⟩:=h
 obtain ⟨u,rfl,ru⟩:=fI r
 cases ru
 obtain ⟨o,es,ep,t,ho,hex,hd,hf,he⟩:=(I.hok p _ hp).1
 refine call_len_set ho hex hd hf (by rw [he]; omega) ?_
 rw [he]
 exact ⟨.int (n:Int),H,I.tok _,⟨_,rfl⟩,q⟩
theorem cZY {H:Hp} {Q:VK} {p:Addr} {zs:List Str} (e:rdL H p = some (zs.map V.str)) (hl:zs.length ≤ 1000) (h:∀ r,H r = none → Q (.ref r) (upd H r (pK r (rV zs)))):cXG [.ref p] H Q:=⟨p,zs,rfl,e,hl,h⟩
theorem bXT {H:Hp} {Q:VK} {p:Addr} {n:Nat} (e:H p = some (pK p n)) (hn:n ≤ 1000) (h:Q (.int (n:Int)) H):aQS [.ref p] H Q:=⟨p,n,rfl,e,hn,h⟩
def bX1:List V → Hp → VK → Prop:=fun xs H Q => (∃ j:Int,xs = [.int j] ∧ ∀ r,H r = none → Q (.ref r) (upd H r (.rng 0 j))) ∨ (∃ i j:Int,xs = [.int i,.int j] ∧ ∀ r,H r = none → Q (.ref r) (upd H r (.rng i j)))
theorem Inv.rngNew {X:Cx} {pins:List (Addr × Obj)} {σ:St} {H:Hp} {s:Shared} {lo hi:Int} {t u v:Tok} {tk:Nat} (I:Inv X pins σ H s) :
   Inv X pins σ (upd H s.heap.objs.size (.rng lo hi)) { s with heap:=s.heap.push { cls:=.type "range",data:=.fields #[.int lo t,.int hi u,.int 1 v] },toks:=tk } :=
 (I.kept (t':=tk) fun b o e => Af _ e).adopt (I.freAt (Ah _)) (I.hok.fresh (Ah _)) ⟨t,u,v,Ax _ rfl⟩
theorem zE {X:Cx}:CallR X (.type "range") bX1:=by
 intro pins s σ H xs us Q I r h
 rcases h with ⟨j,rfl,q⟩ | ⟨i,j,rfl,q⟩
 · obtain ⟨u,rfl,⟨t,rfl⟩⟩:=fI r
   exact call_range_1 ⟨.ref _,_,I.rngNew,rfl,q _ (I.hok.fresh (Ah _))⟩
 · obtain ⟨u,w',rfl,⟨t,rfl⟩,⟨t',rfl⟩⟩:=aQ5 r
   exact call_range_2 ⟨.ref _,_,I.rngNew,rfl,q _ (I.hok.fresh (Ah _))⟩
theorem zS {H:Hp} {Q:VK} {j:Int} (h:∀ r,H r = none → Q (.ref r) (upd H r (.rng 0 j))):bX1 [.int j] H Q:=.inl ⟨j,rfl,h⟩
theorem bJ5 {H:Hp} {Q:VK} {i j:Int} (h:∀ r,H r = none → Q (.ref r) (upd H r (.rng i j))):bX1 [.int i,.int j] H Q:=.inr ⟨i,j,rfl,h⟩
theorem aZW (lo hi i:Int):(Builtin.Range.rangePlace? lo hi 1 i).isSome = decide (lo ≤ i ∧ i < hi):=by
 unfold Builtin.Range.rangePlace?
 simp only [show (1:Int) > 0 by decide,if_true,Int.emod_one]
 by_cases h:lo ≤ i ∧ i < hi
 · rw [Ar h]
   simp [h.1,h.2]
 · rw [Av h]
   have:(decide (lo ≤ i) && decide (i < hi)) = false:=by
     rw [Bool.and_eq_false_iff]
     by_cases h1:lo ≤ i
     · exact .inr (Av fun h2 => h ⟨h1,h2⟩)
     · exact .inl (Av h1)
   simp [this]
def zN:V → V → Hp → VK → Prop:=fun x y H Q => ∃ (i:Int) (p:Addr) (lo hi:Int),x = .int i ∧ y = .ref p ∧ H p = some (.rng lo hi) ∧ Q (.bl (!decide (lo ≤ i ∧ i < hi))) H
theorem vI {X:Cx}:OpR X (compareOp .NotIn) zN:=by
 intro pins s σ H x y v u Q I rx ry h
 obtain ⟨i,p,lo,hi,rfl,rfl,hp,q⟩:=h
 obtain ⟨t,rfl⟩:=rx
 cases ry
 obtain ⟨t0,t1,t2,ho⟩:=I.hok p _ hp
 have hT:s.TypeIs (.ref p) "range" := ⟨_,ho,rfl⟩
 show wpAny _ _ (do return Value.bool (!(← contains (.ref p) (.int i t)))) _ _ s
 refine Ae ?_
 unfold contains
 try with_reducible refine Cy ?_
 refine Ae (wpAny_specialOf hT F.slot_range_contains.lookup ?_)
 show wpAny _ _ (if (some (Value.builtin "range.__contains__") == some Value.none) = true then _ else _) _ _ s
 rw [if_neg (by rw [beq_builtin_none]; exact Al)]
 refine Ae (wpAny_callSpecialUnlessNone?_slot (name:=Str.ofString "__contains__") hT F.slot_range_contains
   (Fo F.slot_range_contains hT F.entry_range_contains ?_ (F.args_range_contains_2 _ _)))
 unfold Builtin.«range.__contains__»
 show wpAny _ _ (rule _ >>= _) _ _ s
 refine Ae (wpAny_rule (Ae ?_))
 unfold Builtin.Range.rangeFields
 refine Ae (Ei (x:=.int lo t0) ho rfl rfl ?_)
 refine Ae (Am (Ae (Ei (x:=.int hi t1) ho rfl rfl ?_)))
 refine Ae (Am (Ae (Ei (x:=.int 1 t2) ho rfl rfl ?_)))
 refine Ae (Am (Am ?_))
 show wpAny _ _ (ret (Value.bool (Builtin.Range.rangePlace? lo hi 1 i).isSome)) _ _ s
 rw [aZW]
 exact Am ⟨_,rfl,Eg (Am ⟨.bl _,H,I,rfl,q⟩)⟩
theorem vO {H:Hp} {Q:VK} {i lo hi:Int} {p:Addr} (e:H p = some (.rng lo hi)) (h:Q (.bl (!decide (lo ≤ i ∧ i < hi))) H):zN (.int i) (.ref p) H Q:=⟨i,p,lo,hi,rfl,rfl,e,h⟩
end L2
set_option maxHeartbeats 4000000
namespace L2
open PySem PySem.Spec PyProof.Rows
def bXY:List V → Hp → VK → Prop:=fun xs H Q => ∃ (a:Addr) (n:Nat),xs = [.ref a] ∧ H a = some (.rng 0 (n:Int)) ∧ n ≤ 100000 ∧ ∀ r,H r = none → Q (.ref r) (upd H r (.lst ((List.range n).map fun i => V.int ((i:Nat):Int))))
theorem bZ7 {X:Cx} (hc:X.calm = true):CallR X (.type "list") bXY:=by
 intro pins s σ H xs us Q I r h
 obtain ⟨a,n,rfl,ha,hn,q⟩:=h
 obtain ⟨u,rfl,ru⟩:=fI r
 cases ru
 obtain ⟨t0,t1,t2,ho⟩:=I.hok a _ ha
 refine call_list_range (n:=n) (I.ok.hd hc) ho (small_one (by decide) (by decide) (by omega) (by omega)) (by rw [rangeSize_nat]; omega) (by omega) fun h' tk acc c hk hS hacc => ?_
 refine ⟨.ref s.heap.objs.size,_,I.laid (a:=s.heap.objs.size) (o:=.lst ((List.range n).map fun i => V.int ((i:Nat):Int))) (t':=tk) hk (Ah _) ⟨by rw [Ab,Bz]; exact bI hn,acc.toList,c,?_,by rw [hS]⟩,rfl,q _ (I.hok.fresh (Ah _))⟩
 refine aQZ (by rw [Ab,Bz,Eo,hacc.1]) fun j x u hx hu => ?_
 obtain ⟨tk',rfl⟩:=hacc.2 j u (by rw [← Fc]; exact hu)
 have hj:j < n:=by
   have:=(Ad.mp hu).1
   rw [Eo,hacc.1] at this
   exact this
 rw [Ag,Fs hj] at hx
 cases hx
 exact ⟨tk',by rw [show (0:Int) + ((j:Nat):Int) * 1 = ((j:Nat):Int) by omega]⟩
theorem bJ4 {H:Hp} {Q:VK} {a:Addr} {n:Nat} (ha:H a = some (.rng 0 (n:Int))) (hn:n ≤ 100000) (h:∀ r,H r = none → Q (.ref r) (upd H r (.lst ((List.range n).map fun i => V.int ((i:Nat):Int))))):bXY [.ref a] H Q:=⟨a,n,rfl,ha,hn,h⟩
theorem bZC {P:Program} {w:World} {K:PySem.W.Frag} {mg:Str → Option Value} {base:Heap} {f:Addr} {fd:FuncData} {ps:List Str} {x:Str} (sp:Nat → Sp) (h0:∀ vs H Q E,¬ sp 0 vs H Q E) (hm:mg x = some (.ref f)) (hk:PySem.W.keepIn K (.ref f) = true) (hb:Binds K fd ps [])
   (st:∀ d n,Cal P w K mg base (d + 1) x ps (sp n) → FnOk P w K mg base CX0 (d + 2) f fd ps (sp (n + 1))):∀ n,FnOk P w K mg base CX0 (n + 1) f fd ps (sp n)
 | 0 => ⟨fun vs H Q E h => (h0 _ _ _ _ h).elim,fun A outer s H args us vs Q E _ _ _ _ h => (h0 _ _ _ _ h).elim⟩
 | n + 1 => st n n ⟨f,fd,bZC sp h0 hm hk hb st n,hm,hk,hb⟩
theorem Lsts.app {H1 Hc:Hp} {ps qs:List Addr} {fs gs:List (List V)} (t:Lsts H1 Hc ps fs) (u:Lsts H1 Hc qs gs):Lsts H1 Hc (ps ++ qs) (fs ++ gs):=by
 refine ⟨by rw [Aj,Aj,t.1,u.1],fun j p v hp hv => ?_⟩
 by_cases h:j < ps.length
 · rw [Au h] at hp
   rw [Au (by rw [← t.1]; exact h)] at hv
   exact t.2 j p v hp hv
 · rw [Ay (by omega)] at hp
   rw [Ay (by rw [← t.1]; omega),← t.1] at hv
   exact u.2 _ p v hp hv
section
variable {g:TG} {tests:TT} {te:TE} {σ0:St} {Q:VK} {H1:Hp}
theorem bJF {K:PySem.W.Frag} {a:Addr} {xs:List V} (f:Nat → List V) (ha:rdL H1 a = some xs) (hl:xs.length < sizeLine)
   (hs:∀ (i:Nat) x Hc (A:VK) (B:Hp → Prop),xs[i]? = some x → Same H1 Hc → (∀ q Hd,Hc q = none → Same Hc Hd → Hd q = some (.lst (f i)) → A (.ref q) Hd) →
     g x σ0 Hc fun σ2 H2 => Wk σ0 σ2 ∧ tests σ2 H2 fun b H3 => if b = true then te σ2 H3 A else B H3)
   (fin:∀ D Hd ps,H1 D = none → Same H1 Hd → Hd D = some (.lst (ps.map V.ref)) → ps.length = xs.length → Lsts H1 Hd ps ((List.range xs.length).map f) → (∀ p ∈ ps,p ≠ D) → Q (.ref D) Hd):eT g tests te σ0 Q (Itl K a) H1:=by
 refine gJ (n:=xs.length) (fun D i ys Hc => Same H1 Hc ∧ ∃ ps,ys = ps.map V.ref ∧ ps.length = i ∧ Lsts H1 Hc ps ((List.range i).map f) ∧ ∀ p ∈ ps,p ≠ D) hl (fun D hD => ⟨aE hD _,[],rfl,rfl,.nil,fun p hp => nomatch hp⟩)
   (fun D i ys Hc _ r h => ⟨xs,xs[i],aW (aJ r.1 ha),by simp [h]⟩) (fun D ys Hc _ r => ⟨xs,aW (aJ r.1 ha),Nat.le_refl _⟩) ?_ ?_
 · rintro D i ys Hc x H' A B hD hi ⟨sm,ps,rfl,hn,ls,nd⟩ hDc ⟨rfl,hz⟩ ha' hb
   refine hs i x H' A B (hz xs (aW (aJ sm ha))) sm (fun q Hd hq sd hd => ?_)
   have nq:q ≠ D:=fun z => by rw [z,hDc] at hq; cases hq
   have nd2:∀ p ∈ ps ++ [q],p ≠ D:=fun p hp => by
     rcases Bi.mp hp with e | e
     · exact nd p e
     · rw [As.mp e]; exact nq
   refine ha' _ _ (sd _ _ hDc) ⟨aY hD (sm.trans sd),ps ++ [q],by rw [Ak]; rfl,by rw [Aj,hn]; rfl,?_,nd2⟩
   rw [Cb,Ak]
   exact ((ls.keep sd).snoc (none_of sm hq) hd).put nd2
 · rintro D ys Hc hD ⟨sm,ps,rfl,hn,ls,nd⟩ hDc _
   exact fin D Hc ps hD sm hDc hn ls nd
theorem aX4 {n:Nat} {lo:Int} (f:Nat → Option V) (hl:n < sizeLine)
   (hs:∀ (i:Nat) Hc (A:VK) (B:Hp → Prop),i < n → Same H1 Hc → (∀ y,f i = some y → ∀ Hd,Same Hc Hd → A y Hd) → (f i = none → ∀ Hd,Same Hc Hd → B Hd) →
     g (.int (lo + i)) σ0 Hc fun σ2 H2 => Wk σ0 σ2 ∧ tests σ2 H2 fun b H3 => if b = true then te σ2 H3 A else B H3)
   (fin:∀ D Hd,H1 D = none → Same H1 Hd → Hd D = some (.lst ((List.range n).filterMap f)) → Q (.ref D) Hd):eT g tests te σ0 Q (Itr lo n) H1:=by
 refine gJ (n:=n) (fun D i ys Hc => Same H1 Hc ∧ ys = (List.range i).filterMap f) hl (fun D hD => ⟨aE hD _,rfl⟩) (fun D i ys Hc _ r h => h) (fun D ys Hc _ r => Ah n) ?_ ?_
 · rintro D i ys Hc x H' A B hD hi ⟨sm,rfl⟩ hDc ⟨rfl,rfl⟩ ha' hb
   refine hs i H' A B hi sm (fun y hy Hd sd => ?_) (fun hn Hd sd => ?_)
   · exact ha' _ _ (sd _ _ hDc) ⟨aY hD (sm.trans sd),(dN hy).symm⟩
   · exact hb _ (sd _ _ hDc) ⟨sm.trans sd,(gG hn).symm⟩
 · rintro D ys Hc hD ⟨sm,rfl⟩ hDc _
   exact fin D Hc hD sm hDc
end
end L2
set_option maxHeartbeats 1000000
namespace L2
open PySem
def fX (mask:Nat) (x:Nat × Nat):Nat → Nat × Nat
 | 0 => x
 | n + 1 => fX mask (SetTable.leap mask x.1 x.2) n
theorem rH (mask m:Nat):∀ (n:Nat) (x:Nat × Nat),fX mask x (n + m) = fX mask (fX mask x n) m
 | 0,x => by rw [Nat.zero_add]; rfl
 | n + 1,x => by rw [Nat.succ_add]; exact rH mask m n _
theorem rD (mask:Nat):∀ (n:Nat) (x:Nat × Nat),(fX mask x n).2 = x.2 / 32 ^ n
 | 0,x => by show x.2 = x.2 / 1; rw [Nat.div_one]
 | n + 1,x => by
   show (fX mask (SetTable.leap mask x.1 x.2) n).2 = _
   rw [rD mask n]
   show x.2 / 32 / 32 ^ n = _
   rw [Nat.div_div_eq_div_mul,Nat.pow_succ,Nat.mul_comm]
def cyc (M:Nat):Nat → Nat
 | 0 => 0
 | n + 1 => (cyc M n * 5 + 1) % M
theorem mM (mask:Nat):∀ (n a:Nat),(fX mask (cyc (mask + 1) a,0) n) = (cyc (mask + 1) (a + n),0)
 | 0,a => rfl
 | n + 1,a => by
   show fX mask (SetTable.leap mask (cyc (mask + 1) a) 0) n = _
   have e:SetTable.leap mask (cyc (mask + 1) a) 0 = (cyc (mask + 1) (a + 1),0):=by
     show ((cyc (mask + 1) a * 5 + 1 + 0 / 32) % (mask + 1),0 / 32) = _
     rw [Nat.zero_div,Nat.add_zero]
     rfl
   rw [e,mM mask n (a + 1),Nat.add_right_comm,Nat.add_assoc]
def Full (M:Nat):Prop:=cyc M M = 0 ∧ ∀ e,e < M → ∃ n,n < M ∧ cyc M n = e
theorem aQA (M:Nat) (h:cyc M M = 0):∀ n,cyc M (M + n) = cyc M n
 | 0 => h
 | n + 1 => by
   show (cyc M (M + n) * 5 + 1) % M = _
   rw [aQA M h n]
   rfl
theorem Full.reach {mask:Nat} (F:Full (mask + 1)) {x e:Nat} (hx:x < mask + 1) (he:e < mask + 1):∃ m,m ≤ mask ∧ (fX mask (x,0) m).1 = e:=by
 obtain ⟨a,ha,rfl⟩:=F.2 x hx
 obtain ⟨b,hb,rfl⟩:=F.2 e he
 by_cases h:a ≤ b
 · exact ⟨b - a,by omega,by rw [mM,Nat.add_sub_cancel' h]⟩
 · exact ⟨mask + 1 + b - a,by omega,by rw [mM,show a + (mask + 1 + b - a) = mask + 1 + b by omega,aQA _ F.1]⟩
theorem zV {mask:Nat}:∀ (n:Nat) {x:Nat × Nat},x.1 < mask + 1 → (fX mask x n).1 < mask + 1
 | 0,x,h => h
 | n + 1,x,h => zV n (x:=SetTable.leap mask x.1 x.2) (Nat.mod_lt _ (Nat.succ_pos _))
theorem dJC {mask:Nat} (F:Full (mask + 1)) {i per e:Nat} (hi:i < mask + 1) (hp:per < 2 ^ 64) (he:e < mask + 1):∃ m,m ≤ mask + 13 ∧ (fX mask (i,per) m).1 = e:=by
 obtain ⟨m,hm,e1⟩:=F.reach (x:=(fX mask (i,per) 13).1) (zV 13 hi) he
 refine ⟨13 + m,by omega,?_⟩
 rw [rH]
 have hz:(fX mask (i,per) 13).2 = 0:=by
   rw [rD]
   exact Nat.div_eq_of_lt (Bd hp (by decide))
 rw [show fX mask (i,per) 13 = ((fX mask (i,per) 13).1,0) from Prod.ext rfl hz]
 exact e1
section
variable {prog:Program} {w:World} {A:Around} {E:Value → Shared → Prop} {s:Shared}
end
end L2
set_option maxHeartbeats 4000000
namespace L2
open PySem PySem.Spec PyProof.Rows
section
variable {X:Cx} {a b:Expr} {rest:List Expr} {pos:Pos} {ta tb:TE}
end
end L2
set_option maxHeartbeats 4000000
namespace L2
open PySem PySem.Spec PyProof.Rows
open PySem.AutoSeq1 (wpAny_loadPart')
open PySem.MeetsSeq PySem.MeetsSeq2 PySem.MeetsSeq3
section
variable {P:Program} {w:World} {A:Around} {E:Value → Shared → Prop} {s:Shared} {l b:Addr} {xs ys:Array Value} {as bs:List Int}
end
open PySem.W (KasT kas_sort kas_cmp kas_item kas_item_eq kas_range kas_runs kas_kind kas_st)
section
variable {prog:Program} {w:World} {A:Around} {E:Value → Shared → Prop} {s:Shared}
end
end L2
set_option maxHeartbeats 4000000
namespace L2
open PySem PySem.Spec PyProof.Rows
end L2
set_option maxHeartbeats 1000000
namespace L2
open PySem
theorem getD_none {owner:Array (Option Nat)} {j:Nat} (h:owner.getD j (some 0) = none):j < owner.size ∧ owner.getD j none = none:=by
 have hj:j < owner.size:=by
   refine Nat.lt_of_not_le fun z => ?_
   rw [Fg,Array.getElem?_eq_none z] at h
   cases h
 rw [Fg,Fq hj] at h ⊢
 exact ⟨hj,h⟩
theorem getD_some {owner:Array (Option Nat)} {j:Nat} (hj:j < owner.size) (h:owner.getD j (some 0) ≠ none):∃ k,owner.getD j none = some k:=by
 rw [Fg,Fq hj] at h ⊢
 cases e:owner[j] with
 | none => rw [e] at h; exact absurd rfl h
 | some k => exact ⟨k,rfl⟩
section
variable {prog:Program} {w:World} {A:Around} {E:Value → Shared → Prop} {s:Shared}
end
open PySem.Spec PyProof.Rows
def Alx (H:Hp):Nat → V → V → Prop
 | 0,x,y => x = y ∧ (bW x = true ∨ ∃ p,x = .ref p)
 | n + 1,x,y => (x = y ∧ (bW x = true ∨ ∃ p,x = .ref p)) ∨ ∃ p q,x = .ref p ∧ y = .ref q ∧ ((∃ xs ys,rdL H p = some xs ∧ rdL H q = some ys ∧ xs.length = ys.length ∧ ∀ (j:Nat) x' y',xs[j]? = some x' → ys[j]? = some y' → Alx H n x' y') ∨ ∃ kvs kws,Rd H p (.dK kvs) ∧ Rd H q (.dK kws) ∧ DEq kvs kws)
theorem Alx.same {H:Hp} {n:Nat} {x:V} (h:bW x = true ∨ ∃ p,x = .ref p):Alx H n x x:=by
 cases n with
 | zero => exact ⟨rfl,h⟩
 | succ n => exact .inl ⟨rfl,h⟩
end L2
set_option maxHeartbeats 1000000
namespace L2
open PySem PySem.Spec PyProof.Rows
def hdl (i:Nat) (ts:TS) (D:Ends) (cls:Value) (d:Option Addr) (σ1:St) (H1:Hp):Prop:=∀ ea,H1 ea = none →
 ts { nx:=fun σ2 H2 => D.nx (σ2.set i none) H2,rt:=D.rt,bk:=fun σ2 H2 => D.bk (σ2.set i none) H2,ct:=fun σ2 H2 => D.ct (σ2.set i none) H2 } (σ1.set i (some (.ref ea))) (upd H1 ea (mQ ea cls d))
section
variable {X:Cx} {pins:List (Addr × Obj)}
end
end L2
set_option maxHeartbeats 1000000
namespace L2
open PySem PySem.Spec PyProof.Rows
section
variable {X:Cx}
end
end L2
set_option maxHeartbeats 1000000
namespace L2
open PySem PySem.Spec PyProof.Rows
open PySem.AutoSeq1 (wpAny_loadPart')
section
variable {X:Cx}
end
section
variable {X:Cx} {a b:Expr} {rest:List Expr} {pos:Pos} {ta tb:TE}
def dXU (ta tb:TE):TE:=fun σ H Q => ta σ H fun x H1 => (x = .non ∧ tb σ H1 Q) ∨ ∃ (p:Addr) (xs:List V),x = .ref p ∧ rdL H1 p = some xs ∧ (xs ≠ [] → Q (.ref p) H1) ∧ (xs = [] → tb σ H1 Q)
theorem cXQ (ha:PE X a ta) (hb:PE X (.BoolOp .Or (b :: rest) pos) tb):PE X (.BoolOp .Or (a :: b :: rest) pos) (dXU ta tb):=by
 intro pins s σ H Q I h
 refine BoolOp_or (thn (ha pins s σ H _ I h) fun v s1 ⟨x,H1,I1,r1,q1⟩ => ?_)
 rcases q1 with ⟨rfl,q1⟩ | ⟨p,xs,rfl,hp,q2,q3⟩
 · refine thn (uK pins s1 σ H1 .non v (fun k H' => k = false ∧ tb σ H' Q) I1 r1 ⟨false,rfl,rfl,q1⟩) fun k s2 ⟨H2,I2,e,q⟩ => ?_
   subst e
   exact hb pins s2 σ H2 Q I2 q
 · cases xs with
   | nil =>
     refine thn (uK pins s1 σ H1 (.ref p) v (fun k H' => k = false ∧ tb σ H' Q) I1 r1 ⟨false,.inl ⟨[],aW hp,rfl⟩,rfl,q3 rfl⟩) fun k s2 ⟨H2,I2,e,q⟩ => ?_
     subst e
     exact hb pins s2 σ H2 Q I2 q
   | cons y r =>
     refine thn (uK pins s1 σ H1 (.ref p) v (fun k H' => k = true ∧ Q (.ref p) H') I1 r1 ⟨true,.inl ⟨y :: r,aW hp,rfl⟩,rfl,q2 (fun z => nomatch z)⟩) fun k s2 ⟨H2,I2,e,q⟩ => ?_
     subst e
     exact ⟨.ref p,H2,I2,r1,q⟩
end
section
variable {X:Cx}
theorem KV.at {kvs:List (Key × V)} {vs:List (Key × Value)} (r:KV kvs vs):∀ {i:Nat} {k:Key} {u:Value},vs[i]? = some (k,u) → ∃ v,kvs[i]? = some (k,v) ∧ RelV v u:=by
 unfold KV at r
 induction r with
 | nil => intro i k u h; cases h
 | @cons kv vv _ _ hk t ih =>
   intro i k u h
   obtain ⟨e,ru⟩:=hk
   cases i with
   | zero => cases h; exact ⟨kv.2,by rw [List.getElem?_cons_zero]; exact Dq some (Prod.ext e rfl),ru⟩
   | succ i => exact ih h
end
end L2
set_option maxHeartbeats 1000000
namespace L2
open PySem PySem.Spec PyProof.Rows
section
variable {X:Cx}
end
section
variable {X:Cx} {a b:Expr} {rest:List Expr} {pos:Pos} {ta tb:TE}
end
end L2
set_option maxHeartbeats 4000000
namespace L2
open PySem PySem.Spec PyProof.Rows
open PySem.AutoSeq1 (wpAny_loadPart')
open PySem.MeetsSeq PySem.MeetsSeq2 PySem.MeetsSeq3
open PySem.W (KasT kas_sort kas_cmp kas_item kas_item_eq kas_range kas_runs kas_kind kas_st kat_kind kat_lt kat_cons kat_nil kat_yes kat_no kat_go kat_one KatTups KatLex)
section
variable {prog:Program} {w:World} {A:Around} {E:Value → Shared → Prop} {s:Shared}
end
section
variable {X:Cx}
end
end L2
set_option maxHeartbeats 1000000
namespace L2
open PySem PySem.Spec PyProof.Rows
section
variable {X:Cx}
end
end L2
namespace Mine
open PySem L2
local macro_rules | `(tactic| walk_at "rd") => `(tactic| first | assumption | exact eQ | exact mE | exact jW | exact aQ (by assumption) | exact bG (by assumption) | (apply aJ (aE (by assumption) _); walk_at "rd"))
local macro_rules | `(tactic| walk_at "dd") => `(tactic| first | exact mZ (by assumption) | exact bZE (by assumption) | exact mZ aB | assumption)
local macro_rules | `(tactic| walk_at "lo") => `(tactic| first | assumption | decide | omega | (simp only [List.length_map,List.length_append,List.length_cons,List.length_nil,Str.length_append]; omega))
local macro_rules | `(tactic| walk_at "ln") => `(tactic| first | assumption | decide | exact bI (by walk_at "lo") | exact bD (by walk_at "lo"))
local macro_rules | `(tactic| walk_at "ar") => `(tactic| first | assumption | decide | omega | exact ⟨by omega,by omega⟩ | exact Or.inl ⟨by omega,by omega⟩ | exact Or.inr ⟨by omega,by omega⟩ | (dsimp only; done) | (dsimp only; omega))
local macro_rules | `(tactic| walk_at "s") => `(tactic| first
 | (with_reducible first | refine aZ3 ?_ | refine cX1 ?_ | refine dZ1 ?_ | refine dQG ?_ | refine cJH ?_ | refine dX7 ?_ | refine dQ3 ?_ | refine uH ?_ | refine cZV ?_)
 | ((with_reducible refine' dXN ?sv ?_); (case sv => exact rfl))
 | (with_reducible first | refine s_c ?_ | refine dZN ?_ | refine dZZ ?_ | refine dXB ?_ | refine cXL ?_ | refine cXZ ?_ | refine dZX ?_ | refine dZT ?_ | refine bQA ?_ | refine cJ1 ?_ | refine cXK ?_ | refine dQZ ?_)
 | ((with_reducible refine' dZB ?se ?_); (case se => walk_at "rd"))
 | (with_reducible first | refine cJA ?_ | refine bZI ?_ | refine dZ0 ?_ | refine cZS ?_ | refine dZD ?_ | refine dZ8 ?_ | refine dQC ?_ | refine cZ8 ?_ | refine dZE ?_ | refine dZW ?_)
 | ((with_reducible refine dQ5 ?sc ?_); (case sc => walk_at "ar"))
 | with_reducible refine cX6 ?_
 | ((with_reducible refine cX0 ?sc ?_); (case sc => walk_at "ln"))
 | (with_reducible first | refine dQW ?_ | refine dZI ?_ | refine dXT ?_ | refine dZL ?_ | refine dZH ?_ | refine cJF ?_ | refine dQ8 ?_)
 | ((with_reducible refine' dZK ?sc ?_); (case sc => walk_at "rd"))
 | ((with_reducible refine cZP ?sc ?_); (case sc => walk_at "ln"))
 | ((with_reducible refine' cXO ?sc ?_); (case sc => walk_at "rd"))
 | with_reducible refine dXF ?_
 | ((with_reducible refine' cX5 ?sc ?_); (case sc => walk_at "rd"))
 | (with_reducible first | refine cZO ?_ | refine bZ9 ?_ | refine bJ9 ?_ | refine bZH ?_ | refine bJM ?_ | refine bJX ?_ | refine cZC ?_ | refine cXX ?_ | refine bXD ?_)
 | ((with_reducible refine' dQH ?se ?_); (case se => walk_at "rd"))
 | ((with_reducible refine' dQN ?se ?sl ?_); (case se => walk_at "rd"); (case sl => walk_at "ln"))
 | ((with_reducible refine' cQS ?se ?sf ?sl ?_); (case se => walk_at "rd"); (case sf => walk_at "rd"); (case sl => walk_at "ln"))
 | (with_reducible first | refine bZJ ?_ | refine bXL ?_ | refine cXJ ?_ | refine cX2 ?_ | refine cZD ?_ | refine bZ5 ?_ | refine cZ7 ?_)
 | ((with_reducible refine' cZA ?se ?sn ?_); (case se => walk_at "rd"); (case sn => exact rfl))
 | (with_reducible first | refine dQS ?_ | refine dQT ?_ | refine bZ8 ?_ | refine cQF ?_ | refine dZF ?_ | refine bZ2 ?_)
 | ((with_reducible refine cJ5 ?sd ?_); (case sd => walk_at "dd"))
 | (with_reducible first | refine cXY ?_ | refine dQL ?_ | refine cZJ ?_ | refine cQL ?_ | refine aZ9 ?_ | refine bZT ?_ | refine cZX ?_ | refine dQ1 ?_ | refine dXQ ?_ | refine bZK ?_ | refine cZ6 ?_ | refine cZL ?_ | refine bXH ?_ | refine cJ7 ?_ | refine cJW ?_ | refine dXJ ?_ | refine dZO ?_ | refine dZV ?_ | refine dQJ ?_ | refine dQD ?_)
 | dsimp only)
local macro_rules | `(tactic| walk_at "go") => `(tactic| repeat' (walk_at "s"))
local macro_rules | `(tactic| walk_at "gs") => `(tactic| repeat' ((fail_if_success (with_reducible refine aZ3 ?_)); (walk_at "s")))
def top (i:Nat):Stmt:=PySem.Challenge.pw_flaglocker_k31_whole_many_hauls.main.body.getD i (.Pass ⟨0,0,0,0⟩)
abbrev fB:Stmt:=top 39
abbrev eW:Stmt:=top 49
abbrev fM:Stmt:=top 47
abbrev gN:Stmt:=top 38
abbrev gK:Stmt:=top 44
abbrev dU:Stmt:=top 46
abbrev eE:Stmt:=top 40
abbrev cM:Stmt:=top 42
abbrev cR:Stmt:=top 15
abbrev gY:Stmt:=top 17
abbrev cE:Stmt:=top 29
abbrev fP:Stmt:=top 33
abbrev eF:Stmt:=cQ2 (top 4) 0
abbrev cL:Stmt:=top 31
abbrev dS:Stmt:=top 20
abbrev cW:Stmt:=top 19
abbrev dE:Stmt:=top 23
abbrev dX:Stmt:=top 21
abbrev cU:Stmt:=top 24
abbrev dG:Stmt:=top 25
abbrev cN:Stmt:=top 26
abbrev fU:Stmt:=top 27
abbrev eZ:Stmt:=top 32
abbrev fR:Stmt:=top 9
abbrev dZ:Stmt:=top 11
abbrev eV:Stmt:=top 12
abbrev fO:Stmt:=top 13
abbrev cT:Stmt:=top 34
abbrev eG:Stmt:=top 35
abbrev dF:Stmt:=cQ2 (top 3) 0
abbrev kB:Stmt:=top 16
abbrev hU:Stmt:=top 36
abbrev gX:Stmt:=top 43
abbrev fA:Stmt:=top 45
abbrev gQ:Stmt:=top 52
abbrev fS:Stmt:=top 50
abbrev jM:Stmt:=top 51
abbrev gO:Stmt:=top 48
abbrev lR:Stmt:=top 53
structure Gs (K:PySem.W.Frag) (mg:Str → Option Value) (Zw Zz Zx Zy:Addr):Prop where
 c_Lack:mg "Lack" = some (.ref Zw)
 c_TowerError:mg "TowerError" = some (.ref Zz)
 c_Short:mg "Short" = some (.ref Zx)
 c_NoHoist:mg "NoHoist" = some (.ref Zy)
 m_Lack:PySem.W.exmOne K (.ref Zw) (.ref Zw) = some true
 x_NoHoist:PySem.W.excIn K Zy [.type "ValueError",.type "Exception",.type "BaseException",.type "object"] "ValueError.__new__" = true
 m_Short:PySem.W.exmOne K (.ref Zx) (.ref Zx) = some true
 t1_TowerError:PySem.W.specialIn K (.ref Zz) "__getattribute__" = some (some (.builtin "type.__getattribute__"))
 t2_TowerError:PySem.W.readsIn K Zz (.type "type") = true
 t3_TowerError:PySem.W.findCls K (.ref Zz) (.type "type") "__init__" = some (.val (.builtin "ValueError.__init__"))
 xo_Lack:sS K Zw [.type "ValueError",.type "Exception",.type "BaseException",.type "object"] "ValueError.__new__" = true
 xk_Lack:PySem.W.keepIn K (.ref Zw) = true
 xe1_Lack:PySem.W.hasDictIn K Zw = true
 xe2_Lack:PySem.W.findIn K (.ref Zw) "__getattribute__" = some (some (.builtin "BaseException.__getattribute__"))
 xe3_Lack:PySem.W.findIn K (.ref Zw) "__getattr__" = some none
 xe4_Lack:PySem.W.findIn K (.ref Zw) "__class__" = some (some (.builtin "object.__class__"))
 xe5_Lack:PySem.W.specialIn K (.builtin "object.__class__") "__get__" = some (some (.builtin "getset_descriptor.__get__"))
 xe6_Lack:PySem.W.takesIn K (.builtin "object.__class__") = some true
 xe7_Lack:PySem.W.mroIn K Zw (.type "object") = some true
 xe8_Lack:PySem.W.subIn K (.ref Zw) (.type "BaseException") = some true
 xs_Lack:PySem.W.findIn K (.ref Zw) "__setattr__" = some (some (.builtin "object.__setattr__"))
 xr_Lack:bQT K Zw Zz = true
 xv_Lack:PySem.W.subIn K (.ref Zw) (.type "ValueError") = some true
 xn_Lack_wants:PySem.W.findIn K (.ref Zw) "wants" = some none
 xn_Lack_flags:PySem.W.findIn K (.ref Zw) "flags" = some none
 xo_Short:sS K Zx [.type "ValueError",.type "Exception",.type "BaseException",.type "object"] "ValueError.__new__" = true
 xk_Short:PySem.W.keepIn K (.ref Zx) = true
 xe1_Short:PySem.W.hasDictIn K Zx = true
 xe2_Short:PySem.W.findIn K (.ref Zx) "__getattribute__" = some (some (.builtin "BaseException.__getattribute__"))
 xe3_Short:PySem.W.findIn K (.ref Zx) "__getattr__" = some none
 xe4_Short:PySem.W.findIn K (.ref Zx) "__class__" = some (some (.builtin "object.__class__"))
 xe5_Short:PySem.W.specialIn K (.builtin "object.__class__") "__get__" = some (some (.builtin "getset_descriptor.__get__"))
 xe6_Short:PySem.W.takesIn K (.builtin "object.__class__") = some true
 xe7_Short:PySem.W.mroIn K Zx (.type "object") = some true
 xe8_Short:PySem.W.subIn K (.ref Zx) (.type "BaseException") = some true
 xs_Short:PySem.W.findIn K (.ref Zx) "__setattr__" = some (some (.builtin "object.__setattr__"))
 xr_Short:bQT K Zx Zz = true
 xv_Short:PySem.W.subIn K (.ref Zx) (.type "ValueError") = some true
 xn_Short_flag:PySem.W.findIn K (.ref Zx) "flag" = some none
 b_range:mg "range" = none
 b_len:mg "len" = none
 b_dict:mg "dict" = none
 b_min:mg "min" = none
 b_sum:mg "sum" = none
 b_set:mg "set" = none
 b_enumerate:mg "enumerate" = none
 b_list:mg "list" = none
 b_int:mg "int" = none
 b_all:mg "all" = none
 b_zip:mg "zip" = none
 s_FLAGS:∃ t,mg "FLAGS" = some (.str "abcdefghijklmnopqrstuvw1234" t)
 s_SUBSTITUTES:∃ t,mg "SUBSTITUTES" = some (.str "1234" t)
 s_MOST_PLACES:∃ t,mg "MOST_PLACES" = some (.int 7 t)
theorem Gs.xx_Lack {K:PySem.W.Frag} {mg:Str → Option Value} {Zw Zz Zx Zy:Addr} (G:Gs K mg Zw Zz Zx Zy):ExK K Zw:=⟨G.xe1_Lack,G.xe2_Lack,G.xe3_Lack,G.xe4_Lack,G.xe5_Lack,G.xe6_Lack,G.xe7_Lack,G.xe8_Lack⟩
theorem Gs.xc_Lack {K:PySem.W.Frag} {mg:Str → Option Value} {Zw Zz Zx Zy:Addr} (G:Gs K mg Zw Zz Zx Zy):XcK K Zw Zz:=⟨G.xx_Lack,G.xs_Lack,aQ1 G.xr_Lack,G.xv_Lack⟩
theorem Gs.xm_Lack {K:PySem.W.Frag} {mg:Str → Option Value} {Zw Zz Zx Zy:Addr} (G:Gs K mg Zw Zz Zx Zy):XmK K Zw:=⟨G.xo_Lack,G.xk_Lack⟩
theorem Gs.xx_Short {K:PySem.W.Frag} {mg:Str → Option Value} {Zw Zz Zx Zy:Addr} (G:Gs K mg Zw Zz Zx Zy):ExK K Zx:=⟨G.xe1_Short,G.xe2_Short,G.xe3_Short,G.xe4_Short,G.xe5_Short,G.xe6_Short,G.xe7_Short,G.xe8_Short⟩
theorem Gs.xc_Short {K:PySem.W.Frag} {mg:Str → Option Value} {Zw Zz Zx Zy:Addr} (G:Gs K mg Zw Zz Zx Zy):XcK K Zx Zz:=⟨G.xx_Short,G.xs_Short,aQ1 G.xr_Short,G.xv_Short⟩
theorem Gs.xm_Short {K:PySem.W.Frag} {mg:Str → Option Value} {Zw Zz Zx Zy:Addr} (G:Gs K mg Zw Zz Zx Zy):XmK K Zx:=⟨G.xo_Short,G.xk_Short⟩
abbrev lettersT:Str := "abcdefghijklmnopqrstuvw"
abbrev subsT:Str := "1234"
abbrev flagsT:Str := "abcdefghijklmnopqrstuvw1234"
abbrev one (c:Nat):Str:=⟨#[c]⟩
theorem yL:subsT.cps.toList = [49,50,51,52]:=by decide
theorem vH:flagsT.cps.toList = lettersT.cps.toList ++ subsT.cps.toList:=by decide
def bS (c:Nat):Prop:=97 ≤ c ∧ c ≤ 119
def dC (c:Nat):Prop:=49 ≤ c ∧ c ≤ 52
instance (c:Nat):Decidable (bS c):=inferInstanceAs (Decidable (_ ∧ _))
instance (c:Nat):Decidable (dC c):=inferInstanceAs (Decidable (_ ∧ _))
theorem vA {c:Nat}:c ∈ lettersT.cps.toList ↔ bS c:=by
 have h1:∀ c ∈ lettersT.cps.toList,bS c:=by decide +kernel
 have h2:∀ k:_root_.Fin 23,97 + k.val ∈ lettersT.cps.toList:=by decide +kernel
 refine ⟨h1 c,fun h => ?_⟩
 have e:=h2 ⟨c - 97,by have:=h.1; have:=h.2; omega⟩
 rwa [show 97 + (c - 97) = c by have:=h.1; omega] at e
theorem mem_subs {c:Nat}:c ∈ subsT.cps.toList ↔ dC c:=by
 have h1:∀ c ∈ subsT.cps.toList,dC c:=by decide +kernel
 have h2:∀ k:_root_.Fin 4,49 + k.val ∈ subsT.cps.toList:=by decide +kernel
 refine ⟨h1 c,fun h => ?_⟩
 have e:=h2 ⟨c - 49,by have:=h.1; have:=h.2; omega⟩
 rwa [show 49 + (c - 49) = c by have:=h.1; omega] at e
theorem rJ {c:Nat}:c ∈ flagsT.cps.toList ↔ bS c ∨ dC c:=by
 rw [vH,Bi,vA,mem_subs]
theorem fE {c:Nat} (h:bS c):¬ dC c:=fun z => by unfold bS at h; unfold dC at z; omega
theorem kP (c:Nat):subIn (one c) subsT = decide (dC c):=by
 rw [rA]
 exact Dh.mpr mem_subs
theorem pJ {z:Str} (h:z.length = 1):∃ c,z = one c:=by
 obtain ⟨⟨l⟩⟩:=z
 match l,h with
 | [c],_ => exact ⟨c,rfl⟩
def iB (z:Str):Bool:=if z.length = 1 then subIn z flagsT else false
theorem nH {z:Str} (h:z.length ≠ 1):iB z = false:=if_neg h
theorem oJ {c:Nat}:iB (one c) = decide (bS c ∨ dC c):=by
 unfold iB
 rw [if_pos (by rfl),rA]
 exact Dh.mpr rJ
theorem aZC {z:Str} (h:iB z = true):∃ c,z = one c ∧ (bS c ∨ dC c):=by
 by_cases h1:z.length = 1
 · obtain ⟨c,rfl⟩:=pJ h1
   rw [oJ] at h
   exact ⟨c,rfl,Be h⟩
 · rw [nH h1] at h
   cases h
def iQ (c:Nat) (p:Int):Prop:=bS c ∨ (dC c ∧ (c:Int) - 48 < p)
instance (c:Nat) (p:Int):Decidable (iQ c p):=inferInstanceAs (Decidable (_ ∨ _))
def cY (z:Str) (p:Int):Bool:=if z.length = 1 then decide (iQ (z.cps.toList.headD 0) p) else false
theorem lG {c:Nat} {p:Int}:cY (one c) p = decide (iQ c p):=rfl
theorem qG {z:Str} {p:Int} (h:cY z p = true):∃ c,z = one c ∧ iQ c p:=by
 by_cases h1:z.length = 1
 · obtain ⟨c,rfl⟩:=pJ h1
   exact ⟨c,rfl,Be h⟩
 · unfold cY at h
   rw [if_neg h1] at h
   cases h
def cI (zs:List Str):Bool:=if zs.length < 1 ∨ 7 < zs.length then false else (List.range zs.length).all fun i => cY (zs.getD i ⟨#[]⟩) ((1 + i:Nat):Int)
theorem eY {zs:List Str} (h:cI zs = true):1 ≤ zs.length ∧ zs.length ≤ 7:=by
 unfold cI at h
 split at h
 · cases h
 · omega
theorem bX3 {zs:List Str} (h:cI zs = true) {i:Nat} (hi:i < zs.length):cY (zs.getD i ⟨#[]⟩) ((1 + i:Nat):Int) = true:=by
 unfold cI at h
 split at h
 · cases h
 · exact Eu.mp h i (Cc.mpr hi)
def stp (w:List Nat) (c:Nat):Nat:=if dC c then w.getD (c - 49) 0 else c
def rdC (fs:List Nat):List Nat:=fs.foldl (fun w c => w ++ [stp w c]) []
theorem aJ5 (fs:List Nat) (c:Nat):rdC (fs ++ [c]) = rdC fs ++ [stp (rdC fs) c]:=by
 unfold rdC
 rw [Gf]
 rfl
theorem jG {fs:List Nat} {i c:Nat} (h:fs[i]? = some c):rdC (fs.take (i + 1)) = rdC (fs.take i) ++ [stp (rdC (fs.take i)) c]:=by
 rw [Aw,h]
 exact aJ5 _ _
theorem uJ:∀ fs:List Nat,(rdC fs).length = fs.length:=by
 intro fs
 have h:∀ i,i ≤ fs.length → (rdC (fs.take i)).length = i:=by
   intro i
   induction i with
   | zero => intro _; rfl
   | succ i ih =>
     intro hi
     rw [jG (Aa (by omega)),Aj,ih (by omega)]
     rfl
 have q:=h fs.length (Ah _)
 rwa [Bh] at q
theorem hV {fs:List Nat} {i:Nat} (h:i ≤ fs.length):(rdC (fs.take i)).length = i:=by
 rw [uJ,Bl]; omega
def bE (cs:List Nat):Str:=⟨cs.toArray⟩
theorem eM (cs:List Nat):(bE cs).length = cs.length:=by show cs.toArray.size = _; simp
theorem mW (cs:List Nat):(bE cs).cps.toList = cs:=rfl
theorem gW (cs:List Nat) (c:Nat):bE cs ++ one c = bE (cs ++ [c]):=FlT.str_ext (by rw [FlT.app_cps]; rfl)
def gD (z:Str):Nat:=z.cps.toList.headD 0
theorem rZ (cs:List Nat):(cs.map one).map gD = cs:=by
 rw [Ci]
 exact List.map_id cs
theorem iI {zs:List Str} (h:cI zs = true) {i:Nat} {z:Str} (hz:zs[i]? = some z):∃ c,z = one c ∧ (zs.map gD)[i]? = some c ∧ (bS c ∨ (dC c ∧ c - 49 < i)):=by
 have hi:i < zs.length:=(Ad.mp hz).1
 have q:=bX3 h hi
 rw [Ac,hz] at q
 obtain ⟨c,e,st⟩:=qG q
 have e':z = one c:=e
 refine ⟨c,e',by rw [Ag,hz,e']; rfl,?_⟩
 rcases st with l | ⟨s,l⟩
 · exact .inl l
 · refine .inr ⟨s,?_⟩
   unfold dC at s
   omega
def bQK (zs:List Str):Str:=bE (rdC (zs.map gD))
theorem zO {α β:Type} (f:α → β):∀ l:List α,l.filterMap (fun x => some (f x)) = l.map f
 | [] => rfl
 | x :: r => by rw [Da (f:=fun x => some (f x)) (b:=f x) rfl,Ap,zO f r]
theorem lH {α β:Type} {f g:α → Option β}:∀ {l:List α},(∀ x ∈ l,f x = g x) → l.filterMap f = l.filterMap g
 | [],_ => rfl
 | x :: r,h => by rw [Dw,Dw,h x An,lH fun y hy => h y (Ao _ hy)]
theorem qM {β:Type} {F:Nat → Option β} {i:Nat} {b:β} (h:F i = some b):(List.range (i + 1)).filterMap F = (List.range i).filterMap F ++ [b]:=by
 rw [Cb,Cd,Da h,Df]
theorem qJ {β:Type} {F:Nat → Option β} {i:Nat} (h:F i = none):(List.range (i + 1)).filterMap F = (List.range i).filterMap F:=by
 rw [Cb,Cd,Dn h,Df,Bk]
theorem one_inj {a b:Nat}:one a = one b ↔ a = b:=⟨fun h => by injection h with h; injection h with h; injection h,fun h => by rw [h]⟩
theorem tB (a b:Nat):decide (one a = one b) = decide (a = b):=Dh.mpr one_inj
theorem cQC {cw:List Nat} {k:Nat} (h:k < cw.length):atI (bE cw).cps.toList ((k:Nat):Int) = some (cw.getD k 0):=by
 refine eK ?_
 rw [mW,Ac,Aa h]
 rfl
theorem aQI {k:Nat} (h:k < 23):atI lettersT.cps.toList ((k:Nat):Int) = some (97 + k):=by
 refine eK ?_
 have q:∀ k:_root_.Fin 23,lettersT.cps.toList[k.val]? = some (97 + k.val):=by decide +kernel
 exact q ⟨k,h⟩
theorem bJJ {k:Nat} (h:k < 4):atI subsT.cps.toList ((k:Nat):Int) = some (49 + k):=by
 refine eK ?_
 have q:∀ k:_root_.Fin 4,subsT.cps.toList[k.val]? = some (49 + k.val):=by decide +kernel
 exact q ⟨k,h⟩
theorem bQC (cs:List Nat):∀ z ∈ cs.map one,z.length ≤ 1000:=fun z hz => by
 obtain ⟨c,_,rfl⟩:=Bc.mp hz
 show 1 ≤ 1000
 decide
theorem lO {ns:List Int} {i:Int} (h0:0 ≤ i) (h:i < ns.length):∃ n,n ∈ ns ∧ atI (ns.map V.int) i = some (.int n):=by
 obtain ⟨v,h1,h2⟩:=bQ8 (xs:=ns.map V.int) (i:=i) h0 (by rw [Ab]; exact h)
 rw [Ag,Aa (by omega)] at h2
 cases h2
 exact ⟨_,Br _,h1⟩
theorem xL {ns:List Int} {j:Nat} {x:V} (h:(ns.map V.int)[j]? = some x):∃ n,n ∈ ns ∧ x = V.int n:=by
 obtain ⟨n,hn,e⟩:=Bc.mp (Ai h)
 exact ⟨n,hn,e.symm⟩
theorem kM {ns:List Str} {j:Nat} {x:V} (h:(ns.map V.str)[j]? = some x):∃ n,ns[j]? = some n ∧ x = V.str n:=by
 rw [Ag] at h
 cases e:ns[j]? with
 | none => rw [e] at h; cases h
 | some n => rw [e] at h; cases h; exact ⟨n,rfl,rfl⟩
theorem nU {c:Nat} (h:dC c):PySem.intText? (one c) = some ((c:Int) - 48):=by
 unfold dC at h
 have:c = 49 ∨ c = 50 ∨ c = 51 ∨ c = 52:=by omega
 rcases this with rfl | rfl | rfl | rfl <;> decide +kernel
theorem iP (zs:List Str):(zs.map V.str).all bW = true:=by
 rw [Eu]
 intro x hx
 obtain ⟨z,_,rfl⟩:=Bc.mp hx
 rfl
theorem bQ2 {fs:List Nat} (h1:1 ≤ fs.length) (h7:fs.length ≤ 7) (h:∀ k,k < fs.length → iQ (fs.getD k 0) ((1 + k:Nat):Int)):cI (fs.map one) = true:=by
 unfold cI
 rw [Ab,if_neg (by omega),Eu]
 intro i hi
 have hi':=Cc.mp hi
 rw [Ac,Ag,Aa hi']
 have q:=h i hi'
 rw [Ac,Aa hi'] at q
 exact Ar q
def chF (cw:List Nat) (k n:Nat):Option Nat:=if cw.getD n 0 = cw.getD k 0 then some (49 + n) else none
def chs (cw:List Nat) (k:Nat):List Nat:=cw.getD k 0 :: (List.range (min k 4)).filterMap (chF cw k)
theorem ch_iff {cw:List Nat} {k c:Nat}:c ∈ chs cw k ↔ c = cw.getD k 0 ∨ ∃ n,n < k ∧ n < 4 ∧ cw.getD n 0 = cw.getD k 0 ∧ c = 49 + n:=by
 unfold chs
 rw [Ba,De]
 constructor
 · rintro (h | ⟨n,hn,h⟩)
   · exact .inl h
   · have:=Cc.mp hn
     unfold chF at h
     split at h
     · cases h
       exact .inr ⟨n,by omega,by omega,by assumption,rfl⟩
     · cases h
 · rintro (h | ⟨n,h1,h2,h3,rfl⟩)
   · exact .inl h
   · exact .inr ⟨n,Cc.mpr (by omega),if_pos h3⟩
theorem bJH (cw:List Nat) (k:Nat):1 ≤ (chs cw k).length ∧ (chs cw k).length ≤ 5:=by
 unfold chs
 have:=Cz (chF cw k) (List.range (min k 4))
 rw [Bz] at this
 rw [Az]
 omega
theorem aJJ {cw:List Nat} {k c:Nat} (hL:bS (cw.getD k 0)) (h:c ∈ chs cw k):iQ c ((1 + k:Nat):Int):=by
 rcases ch_iff.mp h with rfl | ⟨n,h1,h2,_,rfl⟩
 · exact .inl hL
 · exact .inr ⟨⟨by omega,by omega⟩,by omega⟩
theorem cXU {cw:List Nat} {k c:Nat} (hL:bS (cw.getD k 0)) (hk:k < cw.length) (h:c ∈ chs cw k):stp (cw.take k) c = cw.getD k 0:=by
 rcases ch_iff.mp h with rfl | ⟨n,h1,h2,h3,rfl⟩
 · exact if_neg (fE hL)
 · unfold stp
   rw [if_pos ⟨by omega,by omega⟩,show 49 + n - 49 = n by omega,Ac,List.getElem?_take_of_lt h1,← Ac,h3]
theorem uP {cw fs:List Nat} (hL:∀ d ∈ cw,bS d) (hl:fs.length ≤ cw.length):∀ i,i ≤ fs.length → (∀ k,k < i → fs.getD k 0 ∈ chs cw k) → rdC (fs.take i) = cw.take i
 | 0,_,_ => rfl
 | i + 1,hi,h => by
   have hc:cw[i]? = some (cw.getD i 0):=by rw [Ac,Aa (by omega)]; rfl
   have hf:fs[i]? = some (fs.getD i 0):=by rw [Ac,Aa (by omega)]; rfl
   rw [jG hf,uP hL hl i (by omega) fun k hk => h k (by omega),cXU (hL _ (Ai hc)) (by omega) (h i (by omega)),Aw,hc]
   rfl
theorem vY {cw:List Nat} (hL:∀ d ∈ cw,bS d) {k:Nat} (hk:k < cw.length):bS (cw.getD k 0):=by
 rw [Ac,Aa hk]
 exact hL _ (Br hk)
theorem cZQ {cw fs:List Nat} (hL:∀ d ∈ cw,bS d) (hl:fs.length = cw.length) (h:∀ k,k < fs.length → fs.getD k 0 ∈ chs cw k):rdC fs = cw:=by
 have q:=uP hL (by omega) fs.length (Ah _) h
 rwa [Bh,hl,Bh] at q
theorem aZY {cw fs:List Nat} (hL:∀ d ∈ cw,bS d) (h1:1 ≤ fs.length) (h7:fs.length ≤ 7) (hl:fs.length ≤ cw.length) (h:∀ k,k < fs.length → fs.getD k 0 ∈ chs cw k):cI (fs.map one) = true :=
 bQ2 h1 h7 fun k hk => aJJ (vY hL (by omega)) (h k hk)
theorem vT {c:Nat} {cs:List Nat}:inV (.str (one c)) ((cs.map one).map V.str) = decide (c ∈ cs):=by
 induction cs with
 | nil => rfl
 | cons d r ih =>
   rw [Ap,Ap]
   show ((one d == one c) || inV (.str (one c)) ((r.map one).map V.str)) = _
   rw [ih,← tK]
   by_cases h:c = d
   · subst h
     rw [Ar rfl,Bool.true_or,Ar An]
   · rw [Av (fun z => by injection z with z; exact h (one_inj.mp z).symm),Gk]
     exact Dh.mpr ⟨fun z => Ao _ z,fun z => (Ba.mp z).resolve_left h⟩
def sY (K:PySem.W.Frag):Sp:=fun vs H Q _ => ∃ (a:Addr) (ns:List Int),vs = [.ref a] ∧ SqL K H a (ns.map V.int) ∧ ns.length ≤ 63 ∧ ∀ H',Q (.bl true) H'
def oR:Sp:=fun vs H Q _ => ∃ z,vs = [.str z] ∧ z.length ≤ 1000 ∧ Q (.bl (iB z)) H
def lV:Sp:=fun vs H Q _ => ∃ z p,vs = [.str z,.int p] ∧ z.length ≤ 1000 ∧ Q (.bl (cY z p)) H
def nA:Sp:=fun vs H Q _ => ∃ a zs,vs = [.ref a] ∧ rdL H a = some (zs.map V.str) ∧ zs.length ≤ 1000 ∧ (∀ z ∈ zs,z.length ≤ 1000) ∧ ∀ H',Same H H' → Q (.bl (cI zs)) H'
def oG (aN:Addr):Sp:=fun vs H Q E => ∃ a zs,vs = [.ref a] ∧ rdL H a = some (zs.map V.str) ∧ zs.length ≤ 1000 ∧ (∀ z ∈ zs,z.length ≤ 1000) ∧ (cI zs = true → ∀ H',Same H H' → Q (.str (bQK zs)) H') ∧ (cI zs = false → ∀ H',Same H H' → E (.ref aN) none H')
theorem lK {cw:List Nat} {k:Nat} {j:Int} (e:j = (k:Int)) (h:k < cw.length):atI (bE cw).cps.toList j = some (cw.getD k 0):=by
 rw [e]
 exact cQC h
theorem jI {H:Hp} {Q:VK} {p:Addr} {xs:List V} {i:Int} {v:V} (e:H p = some (.tup xs)) (e':atI xs i = some v) (h:Q v H):mIx (.ref p) (.int i) H Q:=by
 have e1:rdL H p = none:=by unfold rdL; rw [e]; rfl
 unfold mIx
 simp only [e1,jY e,e']
 exact h
section
variable {P:Program} {w:World} {K:PySem.W.Frag} {mg:Str → Option Value} {base:Heap}
def gH (aC:Addr):Sp:=fun vs H Q _ => ∃ ea v,vs = [.ref ea,v] ∧ H ea = some (eJ ea aC none) ∧ ∀ dx,H dx = none → Q .non (upd (upd H ea (eJ ea aC (some dx))) dx (xdO dx [("flag",v)]))
theorem qH:FnScope ["self", "flag"] ["self", "flag"] (aG dF):=⟨rfl,rfl,rfl,by decide +kernel,rfl,by decide +kernel,by decide +kernel⟩
theorem qD {Zw Zz Zx Zy:Addr} {f:Addr} {fd:FuncData} (F:Fun K "__init__" "Short.__init__" dF f fd) (G:Gs K mg Zw Zz Zx Zy)  : FnOk P w K mg base CX0 1 f fd ["self", "flag"] (gH Zx):=by
 refine F.ok qH (fun vs H Q E h => ?_) (fun cdv A outer s H vs Q E hr h => ?_)
 · obtain ⟨ea,v,rfl,_⟩:=h; rfl
 obtain ⟨ea,v,rfl,he,q⟩:=h
 refine ⟨_,(@aD _ _ _ _ _ (dD (wH rfl G.c_TowerError G.t1_TowerError G.t2_TowerError G.t3_TowerError (aA (mv 0) (aA (mv 1) aF)))) (@aH _ _ _ (tX (mv 0) (mv 1) rfl))),?_⟩
 walk_at "go"
 refine ⟨ea,[v],Zx,Zz,none,rfl,by show 1 ≤ sizeLine; decide,he,(fun _ z => nomatch z),G.xc_Short,?_⟩
 walk_at "go"
 exact ⟨ea,Zx,Zz,rfl,G.xc_Short,G.xn_Short_flag,.inl ⟨he,q⟩⟩
theorem bQS {H H1:Hp} {ea dx:Addr} {o o' o'':HO} (s:Same H H1) (h1:H1 ea = none) (h2:upd H1 ea o dx = none):Same H (del (upd (upd (upd H1 ea o) ea o') dx o'') ea):=fun b u e => by
 have e1:=s b u e
 have n1:b ≠ ea:=bH e1 h1
 have n3:dx ≠ ea:=fun z => by rw [z,aB] at h2; cases h2
 have n2:b ≠ dx:=fun z => by rw [← z,aI n1,e1] at h2; cases h2
 rw [dL n1,aI n2,aI n1,aI n1]
 exact e1
theorem aZ7 {H1:Hp} {ea dx:Addr} {o o' o'':HO} (h2:upd H1 ea o dx = none):upd (upd (upd H1 ea o) ea o') dx o'' ea = some o' ∧ del (upd (upd (upd H1 ea o) ea o') dx o'') ea dx = some o'':=by
 have n3:dx ≠ ea:=fun z => by rw [z,aB] at h2; cases h2
 exact ⟨by rw [aI n3.symm,aB],by rw [dL n3,aB]⟩
structure Lk (kvs:List (Key × V)) (f:Nat → Option Int):Prop where
 nd:(kvs.map (·.1)).Nodup
 ks:∀ kv ∈ kvs,∃ (c:Nat) (n:Int),kv = (Sum.inr (one c),V.int n)
 val:∀ c,bR kvs (Sum.inr (one c)) = (f c).map V.int
theorem Lk.nil:Lk [] (fun _ => none):=⟨List.nodup_nil,(fun kv h => nomatch h),fun c => rfl⟩
theorem key_one {a b:Nat}:((Sum.inr (one a):Key) = Sum.inr (one b)) ↔ a = b:=⟨fun h => one_inj.mp (Sum.inr.inj h),fun h => by rw [h]⟩
theorem zM {α:Type}:∀ {l:List α} {k:α},l.Nodup → ¬ k ∈ l → (l ++ [k]).Nodup
 | [],k,_,_ => by simp
 | a :: r,k,h,hk => by
   obtain ⟨h1,h2⟩:=Bx.mp h
   refine Bx.mpr ⟨fun m => ?_,zM h2 fun m => hk (Ao _ m)⟩
   rcases Bi.mp m with q | q
   · exact h1 q
   · exact hk (by rw [As.mp q]; exact An ..)
theorem bZG {kvs:List (Key × V)} {k:Key} (h:bR kvs k = none):¬ k ∈ kvs.map (·.1):=fun m => by
 obtain ⟨p,hp,e⟩:=Bc.mp m
 have q:(kvs.any fun kv => decide (kv.1 = k)) = true:=Gh.mpr ⟨p,hp,Ar e⟩
 rw [dM,h] at q
 cases q
theorem wB (kvs:List (Key × V)) (k:Key) (v:V) (h:bR kvs k ≠ none):(cP kvs k v).map (·.1) = kvs.map (·.1):=by
 unfold cP
 have e:(kvs.any fun kv => decide (kv.1 = k)) = true:=by
   rw [dM]
   cases q:bR kvs k with
   | none => exact absurd q h
   | some _ => rfl
 rw [if_pos e,Ci]
 refine Cj fun kv _ => ?_
 show (if kv.1 = k then (kv.1,v) else kv).1 = kv.1
 split <;> rfl
theorem Lk.put {kvs:List (Key × V)} {f:Nat → Option Int} (h:Lk kvs f) (c:Nat) (n:Int):Lk (cP kvs (Sum.inr (one c)) (.int n)) (fun d => if d = c then some n else f d) where
 nd:=by
   cases e:bR kvs (Sum.inr (one c)) with
   | none => rw [gZ _ e,Ak]; exact zM h.nd (bZG e)
   | some v => rw [wB _ _ _ (by rw [e]; exact fun z => nomatch z)]; exact h.nd
 ks:=fun kv hkv => by
   unfold cP at hkv
   split at hkv
   · obtain ⟨kv',h',e⟩:=Bc.mp hkv
     obtain ⟨c',n',e'⟩:=h.ks kv' h'
     subst e'
     dsimp only at e
     split at e
     · exact ⟨c',n,e.symm⟩
     · exact ⟨c',n',e.symm⟩
   · rcases Bi.mp hkv with q | q
     · exact h.ks kv q
     · exact ⟨c,n,As.mp q⟩
 val:=fun d => by
   rw [aJM]
   by_cases e:d = c
   · rw [if_pos (key_one.mpr e),if_pos e]; rfl
   · rw [if_neg (fun z => e (key_one.mp z)),if_neg e]; exact h.val d
theorem bQE {kvs:List (Key × V)} (nd:(kvs.map (·.1)).Nodup) {kv:Key × V} (h:kv ∈ kvs):bR kvs kv.1 = some kv.2:=by
 induction kvs with
 | nil => cases h
 | cons p r ih =>
   obtain ⟨n1,n2⟩:=Bx.mp nd
   rcases Ba.mp h with e | e
   · subst e; exact bZ rfl
   · rw [bU fun z => n1 (by show p.1 ∈ _; rw [z]; exact Bc.mpr ⟨kv,e,rfl⟩)]
     exact ih n2 e
theorem oE {α:Type} [DecidableEq α]:∀ {l m:List α},l.Nodup → (∀ x ∈ l,x ∈ m) → l.length ≤ m.length
 | [],m,_,_ => Ct _
 | a :: r,m,h,s => by
   obtain ⟨h1,h2⟩:=Bx.mp h
   have q:=oE (l:=r) (m:=m.erase a) h2 fun x hx => (List.mem_erase_of_ne fun z => h1 (by rw [← z]; exact hx)).mpr (s x (Ao _ hx))
   have ha:=s a (An ..)
   rw [List.length_erase_of_mem ha] at q
   have:=List.length_pos_of_mem ha
   rw [Az]
   omega
theorem Lk.at_mem {kvs:List (Key × V)} {f:Nat → Option Int} (h:Lk kvs f) {kv:Key × V} (hkv:kv ∈ kvs):∃ c n,kv = (Sum.inr (one c),V.int n) ∧ f c = some n:=by
 obtain ⟨c,n,e⟩:=h.ks kv hkv
 have v:=bQE h.nd hkv
 rw [e] at v
 have v2:=h.val c
 rw [v2] at v
 cases q:f c with
 | none => rw [q] at v; cases v
 | some m => rw [q] at v; cases v; exact ⟨c,_,e,q⟩
theorem Lk.keys {kvs kws:List (Key × V)} {f:Nat → Option Int} (h:Lk kvs f) (h':Lk kws f):∀ x ∈ kvs.map (·.1),x ∈ kws.map (·.1):=fun x hx => by
 obtain ⟨kv,hkv,rfl⟩:=Bc.mp hx
 obtain ⟨c,n,rfl,hf⟩:=h.at_mem hkv
 have v:=h'.val c
 rw [hf] at v
 have q:(kws.any fun kv => decide (kv.1 = Sum.inr (one c))) = true:=by rw [dM,v]; rfl
 obtain ⟨p,hp,e⟩:=Gh.mp q
 exact Bc.mpr ⟨p,hp,Be e⟩
theorem Lk.deq {kvs kws:List (Key × V)} {f:Nat → Option Int} (h:Lk kvs f) (h':Lk kws f):DEq kvs kws:=by
 refine ⟨?_,fun kv hkv => ?_⟩
 · have a:=oE h.nd (h.keys h')
   have b:=oE h'.nd (h'.keys h)
   rw [Ab,Ab] at a b
   omega
 · obtain ⟨c,n,rfl,hf⟩:=h.at_mem hkv
   exact ⟨rfl,by rw [h'.val c,hf]; rfl⟩
def aK (f:Nat → Option Int) (c:Nat):Int:=(f c).getD 0
def fJ (c:Nat):Prop:=bS c ∨ dC c
instance (c:Nat):Decidable (fJ c):=inferInstanceAs (Decidable (_ ∨ _))
def bA (n:Nat → Int) (c:Nat):Option Int:=if fJ c ∧ 0 < n c then some (n c) else none
theorem fL {m n:Nat → Int} (h:∀ c,fJ c → m c = n c):bA m = bA n:=by
 funext c
 unfold bA
 by_cases q:fJ c
 · rw [h c q]
 · rw [if_neg fun z => q z.1,if_neg fun z => q z.1]
theorem eI {n:Nat → Int} {c:Nat} (hc:fJ c) (h:0 ≤ n c):aK (bA n) c = n c:=by
 unfold aK bA
 by_cases q:0 < n c
 · rw [if_pos ⟨hc,q⟩]; rfl
 · rw [if_neg fun z => q z.2]; show (0:Int) = n c; omega
theorem Lk.ext {kvs:List (Key × V)} {f g:Nat → Option Int} (h:Lk kvs f) (e:f = g):Lk kvs g:=e ▸ h
theorem jX (f:Nat → Option Int) (c:Nat):((f c).map V.int).getD (.int 0) = .int (aK f c):=by
 unfold aK
 cases f c <;> rfl
theorem flags_mem {c:Nat}:c ∈ flagsT.cps.toList ↔ fJ c:=rJ
def dX3 (n:Nat → Int) (i c:Nat):Option Int:=if c ∈ flagsT.cps.toList.take i ∧ 0 < n c then some (n c) else none
theorem cJ4 (n:Nat → Int):dX3 n 0 = fun _ => none:=by
 funext c
 unfold dX3
 rw [Eb]
 exact if_neg fun z => nomatch z.1
def kvL (g:Nat → Int) (L:List Nat):List (Key × V):=L.map fun c => (Sum.inr (one c),V.int (g c))
def bY (n:Nat → Int) (i:Nat):List Nat:=(flagsT.cps.toList.take i).filter fun c => decide (0 < n c)
theorem wO {g:Nat → Int} {L:List Nat} {c:Nat} (h:c ∉ L):bR (kvL g L) (Sum.inr (one c)) = none:=by
 induction L with
 | nil => rfl
 | cons d r ih =>
   show bR ((Sum.inr (one d),V.int (g d)) :: kvL g r) _ = none
   rw [bU (fun z => h (by rw [key_one.mp z]; exact An)),ih fun z => h (Ao _ z)]
theorem flags_nd:flagsT.cps.toList.Nodup:=by decide +kernel
theorem plainL_mem {n:Nat → Int} {i c:Nat}:c ∈ bY n i ↔ c ∈ flagsT.cps.toList.take i ∧ 0 < n c:=by
 unfold bY
 rw [Dc,Bp]
theorem xN {n:Nat → Int} {i c:Nat} (h:flagsT.cps.toList[i]? = some c):c ∉ bY n i:=fun z => by
 have m:=(plainL_mem.mp z).1
 obtain ⟨j,hj,e⟩:=Ca.mp m
 rw [Bl] at hj
 rw [List.getElem_take] at e
 obtain ⟨hi,e2⟩:=Ad.mp h
 have:=(Fk flags_nd).mp (e.trans e2.symm)
 omega
theorem yM {n:Nat → Int} {i c:Nat} (h:flagsT.cps.toList[i]? = some c) (p:0 < n c):bY n (i + 1) = bY n i ++ [c]:=by
 unfold bY
 rw [Aw,h,Ez]
 show _ ++ [c].filter _ = _
 rw [show [c].filter (fun c => decide (0 < n c)) = [c] by simp [p]]
theorem xV {n:Nat → Int} {i c:Nat} (h:flagsT.cps.toList[i]? = some c) (p:¬ 0 < n c):bY n (i + 1) = bY n i:=by
 unfold bY
 rw [Aw,h,Ez]
 show _ ++ [c].filter _ = _
 rw [show [c].filter (fun c => decide (0 < n c)) = [] by simp; omega,List.append_nil]
theorem iC (n:Nat → Int) (i:Nat):(bY n i).length ≤ 27:=by
 unfold bY
 exact Bb (List.length_filter_le ..) (by rw [Bl]; exact Bb (Nat.min_le_right ..) (by decide))
theorem aXL (n:Nat → Int) (i:Nat):(bY n i).Nodup:=(flags_nd.sublist (Ga ..)).filter _
def aZQ (g:Nat → Int) (L:List Nat) (d:Nat):Option Int:=if d ∈ L then some (g d) else none
theorem bXQ (g:Nat → Int) {r:List Nat} {c:Nat} (hc:c ∉ r) (h:Lk (kvL g r) (aZQ g r)):Lk (kvL g (r ++ [c])) (aZQ g (r ++ [c])):=by
 have l:=h.put c (g c)
 rw [gZ _ (wO hc)] at l
 have e:kvL g (r ++ [c]) = kvL g r ++ [(Sum.inr (one c),V.int (g c))]:=by unfold kvL; rw [Ak]; rfl
 rw [e]
 refine l.ext ?_
 funext d
 unfold aZQ
 by_cases hd:d = c
 · subst hd
   rw [if_pos rfl,if_pos (Bg _ (As.mpr rfl))]
 · rw [if_neg hd]
   by_cases hr:d ∈ r
   · rw [if_pos hr,if_pos (Bt _ hr)]
   · rw [if_neg hr,if_neg (fun z => (Bi.mp z).elim hr fun y => hd (As.mp y))]
theorem zU (g:Nat → Int):∀ (L r:List Nat),(r ++ L).Nodup → Lk (kvL g r) (aZQ g r) → Lk (kvL g (r ++ L)) (aZQ g (r ++ L))
 | [],r,_,h => by rw [Bk]; exact h
 | c :: L,r,nd,h => by
   have e:r ++ c :: L = (r ++ [c]) ++ L:=by rw [Gb]; rfl
   have hc:c ∉ r:=fun z => (Cr.mp nd).2.2 c z c An rfl
   rw [e] at nd ⊢
   exact zU g L (r ++ [c]) nd (bXQ g hc h)
theorem cXW (g:Nat → Int) {L:List Nat} (nd:L.Nodup):Lk (kvL g L) (fun d => if d ∈ L then some (g d) else none):=by
 have r:=zU g L [] nd (Lk.nil.ext (by funext d; unfold aZQ; rw [if_neg (fun z => nomatch z)]))
 exact r
theorem gM (n:Nat → Int):Lk (kvL n (bY n 27)) (bA n):=by
 refine (cXW n (aXL n 27)).ext ?_
 funext d
 unfold bA
 have e:d ∈ bY n 27 ↔ fJ d ∧ 0 < n d:=by
   rw [plainL_mem,Bm (by decide),flags_mem]
 by_cases h:d ∈ bY n 27
 · rw [if_pos h,if_pos (e.mp h)]
 · rw [if_neg h,if_neg (fun z => h (e.mpr z))]
def dQ:Sp:=fun vs H Q _ => ∃ (a:Addr) (kvs:List (Key × V)) (f:Nat → Option Int),vs = [.ref a] ∧ Rd H a (.dK kvs) ∧ Lk kvs f ∧
 ∀ (r:Addr) (H':Hp),H r = none → Same H H' → H' r = some (.dK (kvL (aK f) (bY (aK f) 27))) → Q (.ref r) H'
theorem sc_plain_locker:FnScope ["locker", "plain", "flag"] ["locker"] (aG cR):=⟨rfl,rfl,rfl,by decide +kernel,rfl,by decide +kernel,by decide +kernel⟩
theorem nR {Zw Zz Zx Zy:Addr} {f:Addr} {fd:FuncData} (F:Fun K "plain_locker" "plain_locker" cR f fd) (G:Gs K mg Zw Zz Zx Zy)  : FnOk P w K mg base CX0 1 f fd ["locker"] dQ:=by
 refine F.ok sc_plain_locker (fun vs H Q E h => ?_) (fun cdv A outer s H vs Q E hr h => ?_)
 · obtain ⟨a,kvs,f,rfl,_⟩:=h; rfl
 obtain ⟨a,kvs,f,rfl,ha,lk,q⟩:=h
 refine ⟨_,(@aD _ _ _ _ _ (@aP _ _ 1 _ _ _ _ sc_plain_locker.nd (by rfl) (by exact (Or.inl rfl)) lU (by rfl) (by first | exact Or.inl rfl | exact Or.inr rfl)) (@aD _ _ _ _ _ (bV Bf rfl (zF (jV rfl G.s_FLAGS)) (aV (i:=2) sc_plain_locker.nd rfl (Or.inl rfl)) (@aH _ _ _ (cS (bB bXU (fF Bv Cq (rL (Room.u1 hr)) (mv 0) (aA (mv 2) (aA aL aF))) aL (bF _)) (@aH _ _ _ (cX (Room.u1 hr) (mv 1) (mv 2) (bP (Room.u1 hr) (mv 0) (mv 2) (fun _ _ => rfl)) rfl)) bO))) (@aH _ _ _ (aT (mv 1))))),?_⟩
 walk_at "go"
 intro p hp
 walk_at "go"
 refine cZB (fun i σ H' => ∃ (v:Option V),σ = [some (.ref a),some (.ref p),v] ∧ Same H H' ∧ H' p = some (.dK (kvL (aK f) (bY (aK f) i))))
   ⟨none,rfl,aE hp _,aB⟩ ?_ ?_
 · rintro i c σ H2 hc ⟨v,rfl,s2,hH⟩
   have hi:i < 27:=(Ad.mp hc).1
   have ha2:Rd H2 a (.dK kvs):=ha.elim (fun e => .inl (s2 _ _ e)) fun ⟨o,e⟩ => .inr ⟨o,s2 _ _ e⟩
   have hd2:isD H2 a = true:=ha2.elim mZ fun ⟨o,e⟩ => bZE e
   have hpl:(kvL (aK f) (bY (aK f) i)).length < sizeLine:=bD (by unfold kvL; rw [Ab]; have:=iC (aK f) i; omega)
   walk_at "go"
   refine rG (z:=one c) ha2 ?_
   rw [lk.val c,jX]
   walk_at "go"
   refine fZ (fun hd => ?_) (fun hd => ?_)
   · have hd':=Be hd
     obtain ⟨n,hn⟩:∃ n,f c = some n:=by
       cases e:f c with
       | none => rw [show aK f c = 0 by unfold aK; rw [e]; rfl] at hd'; omega
       | some n => exact ⟨n,rfl⟩
     have hcn:aK f c = n:=by unfold aK; rw [hn]; rfl
     walk_at "go"
     refine cK (z:=one c) ha2 (by rw [lk.val c,hn]; rfl) ?_
     walk_at "go"
     refine dR (z:=one c) hH hpl ?_
     refine ⟨_,rfl,aY hp s2,?_⟩
     rw [aB,gZ _ (wO (xN hc)),yM hc (by omega)]
     unfold kvL
     rw [Ak,← hcn]
     rfl
   · have hd':=Bq (Bw.mpr hd)
     walk_at "go"
     exact ⟨_,rfl,s2,by rw [hH,xV hc (by omega)]⟩
 · rintro σ H2 ⟨v,rfl,s2,hH⟩
   walk_at "go"
   exact q p H2 hp s2 hH
def cnt (cs:List Nat) (c:Nat):Int:=((cs.countP (· == c):Nat):Int)
theorem jD {cs:List Nat} {i c:Nat} (h:cs[i]? = some c) (d:Nat):cnt (cs.take (i + 1)) d = cnt (cs.take i) d + if d = c then 1 else 0:=by
 unfold cnt
 rw [Aw,h,Fx]
 show (((cs.take i).countP (· == d) + [c].countP (· == d):Nat):Int) = _
 by_cases e:d = c
 · subst e
   rw [if_pos rfl,List.countP_cons,List.countP_nil,if_pos (by simp)]
   push_cast
   rfl
 · rw [if_neg e,List.countP_cons,List.countP_nil,if_neg (by simp; exact fun z => e z.symm)]
   push_cast
   rfl
theorem cJU {cs:List Nat} {i c:Nat} (h:cs[i]? = some c):cnt (cs.take i) c + 1 ≤ cnt cs c:=by
 have e:=jD h c
 rw [if_pos rfl] at e
 rw [← e]
 unfold cnt
 have:(cs.take (i + 1)).countP (· == c) ≤ cs.countP (· == c):=List.Sublist.countP_le (Ga _ _)
 omega
theorem fV (cs:List Nat) (c:Nat):0 ≤ cnt cs c:=by unfold cnt; omega
def sK (f:Nat → Option Int) (cs:List Nat) (k:Nat):Prop:=∀ j d,j < k → cs[j]? = some d → cnt (cs.take j) d < aK f d
theorem rM {f:Nat → Option Int} {cs:List Nat} (c:Nat) (h0:0 ≤ aK f c):∀ {k:Nat},sK f cs k → cnt (cs.take k) c ≤ aK f c
 | 0,_ => by rw [Eb]; exact h0
 | k + 1,h => by
   have ih:=rM c h0 (k:=k) fun j d hj => h j d (by omega)
   cases e:cs[k]? with
   | none => rw [List.take_add_one,e]; simpa using ih
   | some d =>
     rw [jD e]
     have hd:=h k d (by omega) e
     by_cases z:c = d
     · subst z
       rw [if_pos rfl]
       omega
     · rw [if_neg z]
       omega
def vG (aC:Addr):Sp:=fun vs H Q E => ∃ (a b:Addr) (kvs:List (Key × V)) (f:Nat → Option Int) (cs:List Nat),vs = [.ref a,.ref b] ∧ H a = some (.dK kvs) ∧ Lk kvs f ∧ (∀ c,0 ≤ aK f c) ∧ rdL H b = some ((cs.map one).map V.str) ∧ cs.length ≤ 1000 ∧ (∀ c ∈ cs,fJ c) ∧
 (sK f cs cs.length → ∀ (r:Addr) (kws:List (Key × V)) (H':Hp),H r = none → Same H H' → H' r = some (.dK kws) → Lk kws (bA fun c => aK f c - cnt cs c) → Q (.ref r) H') ∧
 (∀ i c,cs[i]? = some c → sK f cs i → aK f c ≤ cnt (cs.take i) c → ∀ (dx:Addr) (H':Hp),Same H H' → H' dx = some (xdO dx [("flag",.str (one c))]) → E (.ref aC) (some dx) H')
theorem sc_taken:FnScope ["locker", "flags", "left", "flag"] ["locker", "flags"] (aG kB):=⟨rfl,rfl,rfl,by decide +kernel,rfl,by decide +kernel,by decide +kernel⟩
theorem bQI {Zw Zz Zx Zy:Addr} {f:Addr} {fd:FuncData} (F:Fun K "taken" "taken" kB f fd) (G:Gs K mg Zw Zz Zx Zy) (c_plain_locker:Cal P w K mg base 1 "plain_locker" ["locker"] dQ) (c_Short_init:xM P w K mg base 1 Zx ["self", "flag"] (gH Zx)):FnOk P w K mg base (CXr P w) 3 f fd ["locker", "flags"] (vG Zx):=by
 refine F.okX sc_taken (fun vs H Q E h => ?_) (fun cdv A outer s H vs Q E hr h => ?_)
 · obtain ⟨a,b,kvs,f,cs,rfl,_⟩:=h; rfl
 obtain ⟨a,b,kvs,f,cs,rfl,ha,lk,hf0,hb,hcs,hfl,q,qe⟩:=h
 refine ⟨_,(@aD _ _ _ _ _ (@aP _ _ 2 _ _ _ _ sc_taken.nd (by rfl) (by exact (Or.inl rfl)) (aU c_plain_locker hr (by decide) rfl (aA (mv 0) aF)) (by rfl) (by first | exact Or.inl rfl | exact Or.inr rfl)) (@aD _ _ _ _ _ (bV PassesOwn.leaving rfl (cB (mv 1)) (aV (i:=3) sc_taken.nd rfl (Or.inl rfl)) (@aD _ _ _ _ _ (cS (bB xC (fF Bv Cq (rL (Room.u1 hr)) (mv 2) (aA (mv 3) (aA aL aF))) aL (bF _)) (@aH _ _ _ (mC nX rfl rfl rfl G.c_Short G.xm_Short c_Short_init hr (by decide) (aA (mv 3) aF))) bO) (@aH _ _ _ (cX (Room.u1 hr) (mv 2) (mv 3) (aX kE (bP (Room.u1 hr) (mv 2) (mv 3) (fun _ _ => rfl)) aL) rfl)))) (@aH _ _ _ (aT (aU c_plain_locker hr (by decide) rfl (aA (mv 2) aF)))))),?_⟩
 walk_at "go"
 refine ⟨a,kvs,f,rfl,.inl ha,lk,fun p H1 hp s1 hp1 => ?_⟩
 have lw:Lk (kvL (aK f) (bY (aK f) 27)) _:=gM (aK f)
 have hwl:(kvL (aK f) (bY (aK f) 27)).length ≤ 27:=by unfold kvL; rw [Ab]; exact iC _ _
 generalize kvL (aK f) (bY (aK f) 27) = kws at hp1 lw hwl
 have hb1:=aJ s1 hb
 walk_at "go"
 refine dB (xs:=(cs.map one).map V.str) (fun i σ H' => ∃ (kvs':List (Key × V)) (g:Nat → Option Int) (v:Option V),σ = [some (.ref a),some (.ref b),some (.ref p),v] ∧ Same H H' ∧ H' p = some (.dK kvs') ∧ Lk kvs' g ∧ (∀ c,aK g c = aK (bA (aK f)) c - cnt (cs.take i) c) ∧ kvs'.length ≤ 27 + i ∧ sK f cs i)
   ⟨kws,_,_,rfl,s1,hp1,lw,fun c => by rw [Eb]; show _ = _ - ((0:Nat):Int); omega,by omega,fun j d hj => by omega⟩ (fun i σ H' _ ⟨_,_,_,_,e,_⟩ => aJ e hb) ?_ ?_
 · rintro i x σ H2 hx ⟨kvs',g,v,rfl,s2,hH,lg,hg,hl,hen⟩
   have hi:i < cs.length:=by have:=(Ad.mp hx).1; rw [Ab,Ab] at this; exact this
   obtain ⟨c,hc⟩:∃ c,cs[i]? = some c:=⟨_,Aa hi⟩
   obtain rfl:x = V.str (one c):=by rw [Ag,Ag,hc] at hx; cases hx; rfl
   have hpl:kvs'.length < sizeLine:=bD (by omega)
   have hfc:=hfl c (Ai hc)
   have hgc:=hg c
   rw [eI hfc (hf0 c)] at hgc
   have hle:=rM c (hf0 c) hen
   walk_at "go"
   refine rG (z:=one c) (.inl hH) ?_
   rw [lg.val c,jX]
   walk_at "go"
   refine fZ (fun hd => ?_) (fun hd => ?_)
   · have hd':=Be hd
     walk_at "go"
     refine ⟨by show 1 ≤ sizeLine; decide,fun ea hea => ⟨ea,_,rfl,aB,fun dx hdx => ⟨rfl,some dx,(aZ7 hdx).1,?_⟩⟩⟩
     exact qe i c hc hen (by omega) dx _ (bQS s2 hea hdx) (aZ7 hdx).2
   · have hd':=Bq (Bw.mpr hd)
     obtain ⟨n,hn⟩:∃ n,g c = some n:=by
       cases e:g c with
       | none => exact absurd (show aK g c = 0 by unfold aK; rw [e]; rfl) hd'
       | some n => exact ⟨n,rfl⟩
     have hcn:aK g c = n:=by unfold aK; rw [hn]; rfl
     walk_at "go"
     refine cK (z:=one c) (.inl hH) (by rw [lg.val c,hn]; rfl) ?_
     walk_at "go"
     refine dR (z:=one c) hH hpl ?_
     refine ⟨_,_,_,rfl,aY hp s2,aB,lg.put c (n - 1),fun d => ?_,by have:=dY kvs' (Sum.inr (one c)) (.int (n - 1)); omega,fun j d hj hjd => ?_⟩
     · rw [jD hc]
       have:=hg d
       by_cases e:d = c
       · subst e
         show ((if d = d then some (n - 1) else g d):Option Int).getD 0 = _
         rw [if_pos rfl,if_pos rfl]
         show n - 1 = _
         omega
       · show ((if d = c then some (n - 1) else g d):Option Int).getD 0 = _
         rw [if_neg e,if_neg e]
         show aK g d = _
         omega
     · by_cases e:j = i
       · subst e
         rw [hc] at hjd
         cases hjd
         omega
       · exact hen j d (by omega) hjd
 · rintro σ H2 ⟨kvs',g,v,rfl,s2,hH,lg,hg,hl,hen⟩
   have ecs:((cs.map one).map V.str).length = cs.length:=by rw [Ab,Ab]
   rw [ecs] at hg hl hen
   walk_at "go"
   refine ⟨p,kvs',g,rfl,.inl hH,lg,fun r H3 hr s3 hr3 => ?_⟩
   have l3:Lk (kvL (aK g) (bY (aK g) 27)) _:=gM (aK g)
   generalize kvL (aK g) (bY (aK g) 27) = kws' at hr3 l3
   refine q hen r kws' H3 (none_of s2 hr) (s2.trans s3) hr3 (l3.ext (fL fun c hc => ?_))
   rw [hg c,eI hc (hf0 c),Bm (Ah _)]
def mX:Sp:=fun vs H Q _ => ∃ (a b:Addr) (kvs:List (Key × V)) (f:Nat → Option Int) (cs:List Nat),vs = [.ref a,.ref b] ∧ H a = some (.dK kvs) ∧ Lk kvs f ∧ (∀ c,0 ≤ aK f c) ∧ rdL H b = some ((cs.map one).map V.str) ∧ cs.length ≤ 1000 ∧
 ∀ (r:Addr) (kws:List (Key × V)) (H':Hp),H r = none → Same H H' → H' r = some (.dK kws) → Lk kws (bA fun c => aK f c + cnt cs c) → Q (.ref r) H'
theorem sc_put_in:FnScope ["locker", "flags", "more", "flag"] ["locker", "flags"] (aG gY):=⟨rfl,rfl,rfl,by decide +kernel,rfl,by decide +kernel,by decide +kernel⟩
theorem aX5 {Zw Zz Zx Zy:Addr} {f:Addr} {fd:FuncData} (F:Fun K "put_in" "put_in" gY f fd) (G:Gs K mg Zw Zz Zx Zy) (c_plain_locker:Cal P w K mg base 1 "plain_locker" ["locker"] dQ):FnOk P w K mg base CX0 2 f fd ["locker", "flags"] mX:=by
 refine F.ok sc_put_in (fun vs H Q E h => ?_) (fun cdv A outer s H vs Q E hr h => ?_)
 · obtain ⟨a,b,kvs,f,cs,rfl,_⟩:=h; rfl
 obtain ⟨a,b,kvs,f,cs,rfl,ha,lk,hf0,hb,hcs,q⟩:=h
 refine ⟨_,(@aD _ _ _ _ _ (@aP _ _ 2 _ _ _ _ sc_put_in.nd (by rfl) (by exact (Or.inl rfl)) (aU c_plain_locker hr (by decide) rfl (aA (mv 0) aF)) (by rfl) (by first | exact Or.inl rfl | exact Or.inr rfl)) (@aD _ _ _ _ _ (bV Bf rfl (cB (mv 1)) (aV (i:=3) sc_put_in.nd rfl (Or.inl rfl)) (@aH _ _ _ (cX (Room.u1 hr) (mv 2) (mv 3) (aX cH (fF Bv Cq (rL (Room.u1 hr)) (mv 2) (aA (mv 3) (aA aL aF))) aL) rfl))) (@aH _ _ _ (aT (aU c_plain_locker hr (by decide) rfl (aA (mv 2) aF)))))),?_⟩
 walk_at "go"
 refine ⟨a,kvs,f,rfl,.inl ha,lk,fun p H1 hp s1 hp1 => ?_⟩
 have lw:Lk (kvL (aK f) (bY (aK f) 27)) _:=gM (aK f)
 have hwl:(kvL (aK f) (bY (aK f) 27)).length ≤ 27:=by unfold kvL; rw [Ab]; exact iC _ _
 generalize kvL (aK f) (bY (aK f) 27) = kws at hp1 lw hwl
 have hb1:=aJ s1 hb
 walk_at "go"
 refine dB (xs:=(cs.map one).map V.str) (fun i σ H' => ∃ (kvs':List (Key × V)) (g:Nat → Option Int) (v:Option V),σ = [some (.ref a),some (.ref b),some (.ref p),v] ∧ Same H H' ∧ H' p = some (.dK kvs') ∧ Lk kvs' g ∧ (∀ c,aK g c = aK (bA (aK f)) c + cnt (cs.take i) c) ∧ kvs'.length ≤ 27 + i)
   ⟨kws,_,_,rfl,s1,hp1,lw,fun c => by rw [Eb]; show _ = _ + ((0:Nat):Int); omega,by omega⟩ (fun i σ H' _ ⟨_,_,_,_,e,_⟩ => aJ e hb) ?_ ?_
 · rintro i x σ H2 hx ⟨kvs',g,v,rfl,s2,hH,lg,hg,hl⟩
   have hi:i < cs.length:=by have:=(Ad.mp hx).1; rw [Ab,Ab] at this; exact this
   obtain ⟨c,hc⟩:∃ c,cs[i]? = some c:=⟨_,Aa hi⟩
   obtain rfl:x = V.str (one c):=by rw [Ag,Ag,hc] at hx; cases hx; rfl
   have hpl:kvs'.length < sizeLine:=bD (by omega)
   walk_at "go"
   refine rG (z:=one c) (.inl hH) ?_
   rw [lg.val c,jX]
   walk_at "go"
   refine dR (z:=one c) hH hpl ?_
   refine ⟨_,_,_,rfl,aY hp s2,aB,lg.put c (aK g c + 1),fun d => ?_,by have:=dY kvs' (Sum.inr (one c)) (.int (aK g c + 1)); omega⟩
   rw [jD hc]
   have:=hg d
   by_cases e:d = c
   · subst e
     show ((if d = d then some (aK g d + 1) else g d):Option Int).getD 0 = _
     rw [if_pos rfl,if_pos rfl]
     show aK g d + 1 = _
     omega
   · show ((if d = c then some (aK g c + 1) else g d):Option Int).getD 0 = _
     rw [if_neg e,if_neg e]
     show aK g d = _
     omega
 · rintro σ H2 ⟨kvs',g,v,rfl,s2,hH,lg,hg,hl⟩
   walk_at "go"
   refine ⟨p,kvs',g,rfl,.inl hH,lg,fun r H3 hr s3 hr3 => ?_⟩
   refine q r _ H3 (none_of s2 hr) (s2.trans s3) hr3 ((gM (aK g)).ext (fL fun c hc => ?_))
   rw [hg c,eI hc (hf0 c),Bm (by rw [Ab,Ab]; exact Ah _)]
def kF:Sp:=fun vs H Q _ => ∃ (cw:List Nat) (k:Nat) (p:Int),vs = [.str (bE cw),.int p] ∧ p = (k:Int) + 1 ∧ k < cw.length ∧ cw.length ≤ 7 ∧
 ∀ (r:Addr) (H':Hp),H r = none → Same H H' → H' r = some (.lst (((chs cw k).map one).map V.str)) → Q (.ref r) H'
theorem bZM {β:Type} (G:Nat → Option β) (k:Nat):[0,1,2,3].filterMap (fun n => if n < k then G n else none) = (List.range (min k 4)).filterMap G:=by
 match k with
 | 0 => rfl
 | 1 => rfl
 | 2 => rfl
 | 3 => rfl
 | k + 4 =>
   rw [Gi (by omega)]
   exact lH fun n hn => if_pos (by simp only [List.mem_cons,List.not_mem_nil,or_false] at hn; omega)
def atF (cw:List Nat) (k:Nat) (c:Nat):Option V:=if c - 49 < k then (if cw.getD (c - 49) 0 = cw.getD k 0 then some (.str (one c)) else none) else none
theorem dQI (cw:List Nat) (k:Nat):subsT.cps.toList.filterMap (atF cw k) = (((List.range (min k 4)).filterMap (chF cw k)).map one).map V.str:=by
 rw [yL,show [49,50,51,52] = [0,1,2,3].map (49 + ·) from rfl,List.filterMap_map,Ci,List.map_filterMap,← bZM]
 refine lH fun n _ => ?_
 show atF cw k (49 + n) = _
 unfold atF chF
 rw [show 49 + n - 49 = n by omega]
 by_cases h1:n < k
 · rw [if_pos h1,if_pos h1]
   by_cases h2:cw.getD n 0 = cw.getD k 0
   · rw [if_pos h2,if_pos h2]; rfl
   · rw [if_neg h2,if_neg h2]; rfl
 · rw [if_neg h1,if_neg h1]
theorem sc_choices_at:FnScope ["word", "place", "letter", "above"] ["word", "place"] (aG cW):=⟨rfl,rfl,rfl,by decide +kernel,rfl,by decide +kernel,by decide +kernel⟩
theorem qC {Zw Zz Zx Zy:Addr} {f:Addr} {fd:FuncData} (F:Fun K "choices_at" "choices_at" cW f fd) (G:Gs K mg Zw Zz Zx Zy)  : FnOk P w K mg base CX0 1 f fd ["word", "place"] kF:=by
 refine F.ok sc_choices_at (fun vs H Q E h => ?_) (fun cdv A outer s H vs Q E hr h => ?_)
 · obtain ⟨cw,k,p,rfl,_⟩:=h; rfl
 obtain ⟨cw,k,pl,rfl,hpl,hk,h7,q⟩:=h
 refine ⟨_,(@aD _ _ _ _ _ (@aP _ _ 2 _ _ _ _ sc_choices_at.nd (by rfl) (by exact (Or.inr rfl)) (bL cO (mv 0) (aX kE (mv 1) aL) (fun _ _ => rfl)) (by rfl) (by first | exact Or.inl rfl | exact Or.inr rfl)) (@aD _ _ _ _ _ (nY (i:=3) sc_choices_at.nd rfl (Or.inl rfl) rfl (zF (jV rfl G.s_SUBSTITUTES)) (gP (N:=["sign", "place", "letter", "word"]) ["word", "place", "letter", "above"] (aG cW) [none,some 1,some 2,some 0] rfl rfl rfl (fun x h => cG h) (by decide +kernel)) (by decide +kernel) rfl (by decide +kernel) (fun C s₀ H₀ ex => (aV (i:=0) (show List.Nodup (["sign", "place", "letter", "word"]:List Str) by decide +kernel) rfl (Or.inl rfl))) (fun C s₀ H₀ ex => (kO (PW.pt (yZ (bB bX5 (bT zR rfl G.b_int uL (aA (mv 0) aF)) (mv 1) (bF _)) (tR (bB xC (bL cO (mv 3) (aX kE (bT zR rfl G.b_int uL (aA (mv 0) aF)) aL) (fun _ _ => rfl)) (mv 2) (bF _))))))) (fun C s₀ H₀ ex => (mv 0))) (@aH _ _ _ (aT (aX cH (cD (aA (mv 2) aF)) (mv 3)))))),?_⟩
 have hwl:(bE cw).length = cw.length:=eM cw
 walk_at "go"
 refine iZ (by rw [hwl]; exact bI (by omega)) (lK (k:=k) (by omega) hk) ?_
 walk_at "go"
 refine cX9 (atF cw k) (bD (by decide)) (fun i c Hc A B hc' hA => ?_) (fun D hD => ?_)
 · have hs:dC c:=mem_subs.mp (Ai hc')
   have h49:49 ≤ c:=hs.1
   walk_at "go"
   refine ⟨Wk.set rfl (Wk.refl _),?_⟩
   walk_at "go"
   refine uG (nU hs) (by show 1 ≤ 640; decide) ?_
   walk_at "go"
   unfold atF at hA
   refine fZ (fun hd => ?_) (fun hd => ?_)
   · have hd':=Be hd
     have hck:c - 49 < k:=by omega
     rw [if_pos hck] at hA
     walk_at "go"
     refine uG (nU hs) (by show 1 ≤ 640; decide) ?_
     walk_at "go"
     refine iZ (by rw [hwl]; exact bI (by omega)) (lK (k:=c - 49) (by omega) (by omega)) ?_
     walk_at "go"
     rw [show decide (({ cps:=#[cw.getD (c - 49) 0] }:Str) = { cps:=#[cw.getD k 0] }) = decide (cw.getD (c - 49) 0 = cw.getD k 0) from tB _ _]
     by_cases he:cw.getD (c - 49) 0 = cw.getD k 0
     · rw [Ar he]
       rw [if_pos he] at hA
       walk_at "go"
       exact hA
     · rw [Av he]
       rw [if_neg he] at hA
       walk_at "go"
       exact hA
   · have hd':=Bq (Bw.mpr hd)
     have hck:¬ c - 49 < k:=by omega
     rw [if_neg hck] at hA
     walk_at "go"
     exact hA
 · rw [show (Str.ofString "1234").cps.toList.filterMap (atF cw k) = _ from dQI cw k]
   walk_at "go"
   refine ⟨by show 1 ≤ sizeLine; decide,fun p hp => ?_⟩
   have hDp:D ≠ p:=fun z => by rw [z,aB] at hp; cases hp
   have hp0:H p = none:=by rw [aI (Ne.symm hDp)] at hp; exact hp
   have hlen:((((List.range (min k 4)).filterMap (chF cw k)).map one).map V.str).length ≤ 4:=by
     have:=Cz (chF cw k) (List.range (min k 4))
     rw [Bz] at this
     rw [Ab,Ab]
     omega
   walk_at "go"
   refine lF (xs:=[V.str (one (cw.getD k 0))]) (ys:=(((List.range (min k 4)).filterMap (chF cw k)).map one).map V.str) mE (by rw [bJP hDp]; exact mE) (bI (by show 1 + _ ≤ _; omega)) fun r hr => ?_
   have hr0:H r = none:=by
     by_cases z:r = p
     · rw [z]; exact hp0
     · rw [aI z] at hr
       by_cases z2:r = D
       · rw [z2]; exact hD
       · rw [aI z2] at hr; exact hr
   walk_at "go"
   exact q r _ hr0 ((aE hD _).trans ((aE hp _).trans (aE hr _))) aB
def yV (cws:List (List Nat)) (k:Nat):List (List V):=(List.range (cws.getD k []).length).map fun j:Nat => [V.int (k:Int),V.int (1 + (j:Int))]
def kY (cws:List (List Nat)) (i:Nat):List (List V):=((List.range i).map (yV cws)).flatten
theorem iV (cws:List (List Nat)) (i:Nat):kY cws (i + 1) = kY cws i ++ yV cws i:=by
 unfold kY
 rw [Cb,Ak,List.flatten_append]
 simp
theorem bXB {cws:List (List Nat)} {k:Nat} (h7:∀ c ∈ cws,c.length ≤ 7):(yV cws k).length ≤ 7:=by
 unfold yV
 rw [Ab,Bz,Ac]
 cases e:cws[k]? with
 | none => exact Ct _
 | some c => exact h7 c (Ai e)
theorem kL {cws:List (List Nat)} (h7:∀ c ∈ cws,c.length ≤ 7):∀ i,(kY cws i).length ≤ 7 * i
 | 0 => Ah _
 | i + 1 => by
   rw [iV,Aj]
   have:=kL h7 i
   have:=bXB (k:=i) h7
   omega
theorem uU {cws:List (List Nat)} {i:Nat} {x:V} (h:((cws.map bE).map V.str)[i]? = some x):∃ c,cws[i]? = some c ∧ c ∈ cws ∧ x = .str (bE c):=by
 rw [Ag,Ag] at h
 cases e:cws[i]? with
 | none => rw [e] at h; cases h
 | some c => rw [e] at h; cases h; exact ⟨c,rfl,Ai e,rfl⟩
def nM:Sp:=fun vs H Q _ => ∃ (a:Addr) (cws:List (List Nat)),vs = [.ref a] ∧ rdL H a = some ((cws.map bE).map V.str) ∧ cws.length ≤ 8 ∧ (∀ c ∈ cws,c.length ≤ 7) ∧
 ∀ (r:Addr) (ps:List Addr) (H':Hp),H r = none → Same H H' → H' r = some (.lst (ps.map V.ref)) → Tups H H' ps (kY cws cws.length) → Q (.ref r) H'
theorem sc_wants_of:FnScope ["words", "wants", "number", "word"] ["words"] (aG dS):=⟨rfl,rfl,rfl,by decide +kernel,rfl,by decide +kernel,by decide +kernel⟩
theorem vJ {Zw Zz Zx Zy:Addr} {f:Addr} {fd:FuncData} (F:Fun K "wants_of" "wants_of" dS f fd) (G:Gs K mg Zw Zz Zx Zy)  : FnOk P w K mg base CX0 1 f fd ["words"] nM:=by
 refine F.ok sc_wants_of (fun vs H Q E h => ?_) (fun cdv A outer s H vs Q E hr h => ?_)
 · obtain ⟨a,cws,rfl,_⟩:=h; rfl
 obtain ⟨a,cws,rfl,ha,h8,h7,q⟩:=h
 refine ⟨_,(@aD _ _ _ _ _ (@aP _ _ 1 _ _ _ _ sc_wants_of.nd (by rfl) (by exact (Or.inl rfl)) (cD aF) (by rfl) (by first | exact Or.inl rfl | exact Or.inr rfl)) (@aD _ _ _ _ _ (bV Bf rfl (uN rfl G.b_enumerate (aA (mv 0) aF)) (iL (K:=K) (i:=2) (j:=3) (by rfl) (by rfl) sc_wants_of.nd (by rfl) (by exact (Or.inr rfl)) (by exact Or.inl rfl) (by rfl) (by exact (Or.inl rfl)) (by exact Or.inl rfl)) (@aH _ _ _ (dD (fD Ce Do Dp uY (mv 1) (aA (eP rfl (sG rfl G.b_range (aA aL (aA (aX cH (bJ eU rfl G.b_len cQ (aA (mv 3) aF)) aL) aF))) (gP (N:=["place", "number"]) ["words", "wants", "number", "word"] (aG dS) [none,some 2] rfl rfl rfl (fun x h => cG h) (by decide +kernel)) (by decide +kernel) rfl (by decide +kernel) (fun C s₀ H₀ ex => (aV (i:=0) (show List.Nodup (["place", "number"]:List Str) by decide +kernel) rfl (Or.inl rfl))) (fun C s₀ H₀ ex => jA) (fun C s₀ H₀ ex => (iT (aA (mv 1) (aA (mv 0) aF))))) aF))))) (@aH _ _ _ (aT (mv 1))))),?_⟩
 walk_at "go"
 refine ⟨by decide,fun p hp => ?_⟩
 have ha1:=aJ (aE hp (HO.lst [])) ha
 walk_at "go"
 refine aQW (xs:=(cws.map bE).map V.str) (fun i σ H' => ∃ (ps:List Addr) (v1 v2:Option V),σ = [some (.ref a),some (.ref p),v1,v2] ∧ Same H H' ∧ H' p = some (.lst (ps.map V.ref)) ∧ Tups H H' ps (kY cws i))
   ⟨[],_,_,rfl,aE hp _,aB,.nil⟩ (fun j σ H' _ ⟨_,_,_,_,e,_⟩ => aJ e ha) ?_ ?_
 · rintro i x σ H2 pt hx ⟨ps,v1,v2,rfl,s2,hH,tp⟩ hpt
   have hi:i < cws.length:=by have:=(Ad.mp hx).1; rw [Ab,Ab] at this; exact this
   obtain ⟨cw,hcw,hm,rfl⟩:=uU hx
   have hc7:=h7 cw hm
   have hwl:(bE cw).length = cw.length:=eM cw
   walk_at "go"
   rw [hwl]
   refine ⟨⟨by omega,by omega,by omega,by omega⟩,?_⟩
   rw [show ((cw.length:Int) + 1 - 1).toNat = cw.length by omega]
   have s3:=s2.trans (aE hpt (HO.tup [V.int ((0 + i:Nat):Int),V.str (bE cw)]))
   have hH3:=aE hpt (HO.tup [V.int ((0 + i:Nat):Int),V.str (bE cw)]) _ _ hH
   have tp3:=tp.keep (aE hpt (HO.tup [V.int ((0 + i:Nat):Int),V.str (bE cw)]))
   generalize upd H2 pt (HO.tup [V.int ((0 + i:Nat):Int),V.str (bE cw)]) = H3 at s3 hH3 tp3 ⊢
   refine aZD (fun j => [V.int ((0 + i:Nat):Int),V.int (1 + (j:Int))]) (bD (by omega)) (fun j Hc A B hj hs hA => ?_) (fun D Hd qs hD sD hDd hqn tq => ?_)
   · walk_at "go"
     refine ⟨Wk.set rfl (Wk.refl _),?_⟩
     walk_at "go"
     exact ⟨by show 2 ≤ sizeLine; decide,fun pp hpp => hA pp _ hpp (aE hpp _) aB⟩
   · have hpd:=sD _ _ hH3
     have hpl:ps.length ≤ 7 * i:=by rw [tp.1]; exact kL h7 i
     have e:(List.range cw.length).map (fun j:Nat => [V.int ((0 + i:Nat):Int),V.int (1 + (j:Int))]) = yV cws i:=by
       unfold yV
       rw [Ac,hcw,Nat.zero_add]
       rfl
     rw [e] at tq
     walk_at "go"
     refine ⟨ps ++ qs,_,_,rfl,aY hp (s3.trans sD),by rw [aB,Ak],?_⟩
     rw [iV]
     exact ((tp3.keep sD).app (tq.older s3)).put hpd
 · rintro σ H2 ⟨ps,v1,v2,rfl,s2,hH,tp⟩
   walk_at "go"
   rw [show ((cws.map bE).map V.str).length = cws.length by rw [Ab,Ab]] at tp
   exact q p ps H2 hp s2 hH tp
def fG (cws:List (List Nat)) (i:Nat):Nat:=((cws.take i).map List.length).sum
def kT (cws:List (List Nat)) (cs:List Nat) (i:Nat):List V:=(((cs.drop (fG cws i)).take (cws.getD i []).length).map one).map V.str
theorem qT {cws:List (List Nat)} {i:Nat} {cw:List Nat} (h:cws[i]? = some cw):fG cws (i + 1) = fG cws i + cw.length:=by
 unfold fG
 rw [Aw,h,Ak,List.sum_append]
 simp
theorem bZO {xs:List V} {i j:Nat} (hj:i ≤ j):mR xs (some (i:Int)) (some (j:Int)) = (xs.drop i).take (j - i):=by
 unfold mR
 show (xs.drop (if (i:Int) < 0 then ((i:Int) + (xs.length:Int)).toNat else min (i:Int).toNat xs.length)).take ((if (j:Int) < 0 then ((j:Int) + (xs.length:Int)).toNat else min (j:Int).toNat xs.length) - (if (i:Int) < 0 then ((i:Int) + (xs.length:Int)).toNat else min (i:Int).toNat xs.length)) = _
 rw [if_neg (by omega),if_neg (by omega),Cw,Cw]
 by_cases h1:i ≤ xs.length
 · rw [Nat.min_eq_left h1]
   by_cases h2:j ≤ xs.length
   · rw [Nat.min_eq_left h2]
   · rw [Gi (by omega),Bm (by rw [Ck]; omega),Bm (by rw [Ck]; omega)]
 · rw [Gi (show xs.length ≤ i by omega),List.drop_of_length_le (Ah _),List.drop_of_length_le (by omega),List.take_nil,List.take_nil]
def lX:Sp:=fun vs H Q _ => ∃ (a b:Addr) (cws:List (List Nat)) (cs:List Nat),vs = [.ref a,.ref b] ∧ rdL H a = some ((cws.map bE).map V.str) ∧ rdL H b = some ((cs.map one).map V.str) ∧ cws.length ≤ 8 ∧ (∀ c ∈ cws,c.length ≤ 7) ∧
 ∀ (r:Addr) (ps:List Addr) (H':Hp),H r = none → Same H H' → H' r = some (.lst (ps.map V.ref)) → (∀ p ∈ ps,p ≠ r) → Lsts H H' ps ((List.range cws.length).map (kT cws cs)) → Q (.ref r) H'
theorem sc_hoists_of:FnScope ["words", "flags", "hoists", "start", "word", "end"] ["words", "flags"] (aG dX):=⟨rfl,rfl,rfl,by decide +kernel,rfl,by decide +kernel,by decide +kernel⟩
theorem tE {Zw Zz Zx Zy:Addr} {f:Addr} {fd:FuncData} (F:Fun K "hoists_of" "hoists_of" dX f fd) (G:Gs K mg Zw Zz Zx Zy)  : FnOk P w K mg base CX0 1 f fd ["words", "flags"] lX:=by
 refine F.ok sc_hoists_of (fun vs H Q E h => ?_) (fun cdv A outer s H vs Q E hr h => ?_)
 · obtain ⟨a,b,cws,cs,rfl,_⟩:=h; rfl
 obtain ⟨a,b,cws,cs,rfl,ha,hb,h8,h7,q⟩:=h
 refine ⟨_,(@aD _ _ _ _ _ (@aP _ _ 2 _ _ _ _ sc_hoists_of.nd (by rfl) (by exact (Or.inl rfl)) (cD aF) (by rfl) (by first | exact Or.inl rfl | exact Or.inr rfl)) (@aD _ _ _ _ _ (@aP _ _ 3 _ _ _ _ sc_hoists_of.nd (by rfl) (by exact (Or.inl rfl)) aL (by rfl) (by first | exact Or.inl rfl | exact Or.inr rfl)) (@aD _ _ _ _ _ (bV Bf rfl (cB (mv 0)) (aV (i:=4) sc_hoists_of.nd rfl (Or.inl rfl)) (@aD _ _ _ _ _ (@aP _ _ 5 _ _ _ _ sc_hoists_of.nd (by rfl) (by exact (Or.inl rfl)) (aX cH (mv 3) (bJ eU rfl G.b_len cQ (aA (mv 4) aF))) (by rfl) (by first | exact Or.inl rfl | exact Or.inr rfl)) (@aD _ _ _ _ _ (dD (fD Ce El Em aQH (mv 2) (aA (bT mU rfl G.b_list hX (aA (pT dXP (mv 1) (lW (mv 3)) (lW (mv 5))) aF)) aF))) (@aH _ _ _ (@aP _ _ 3 _ _ _ _ sc_hoists_of.nd (by rfl) (by exact (Or.inl rfl)) (mv 5) (by rfl) (by first | exact Or.inl rfl | exact Or.inr rfl)))))) (@aH _ _ _ (aT (mv 2)))))),?_⟩
 have hll:((cws.map bE).map V.str).length = cws.length:=by rw [Ab,Ab]
 walk_at "go"
 refine ⟨by decide,fun p hp => ?_⟩
 have ha1:=aJ (aE hp (HO.lst [])) ha
 walk_at "go"
 refine dB (xs:=(cws.map bE).map V.str) (fun i σ H' => ∃ (ps:List Addr) (v4 v5:Option V),σ = [some (.ref a),some (.ref b),some (.ref p),some (.int ((fG cws i:Nat):Int)),v4,v5] ∧ Same H H' ∧ H' p = some (.lst (ps.map V.ref)) ∧ (∀ x ∈ ps,x ≠ p) ∧ ps.length = i ∧ Lsts H H' ps ((List.range i).map (kT cws cs)))
   ⟨[],_,_,rfl,aE hp _,aB,(fun x hx => nomatch hx),rfl,.nil⟩ (fun j σ H' _ ⟨_,_,_,_,e,_⟩ => aJ e ha) ?_ ?_
 · rintro i x σ H2 hx ⟨ps,v4,v5,rfl,s2,hH,hne,hpl,tp⟩
   have hi:i < cws.length:=by have:=(Ad.mp hx).1; rw [hll] at this; exact this
   obtain ⟨cw,hcw,hm,rfl⟩:=uU hx
   have hc7:=h7 cw hm
   have hwl:(bE cw).length = cw.length:=eM cw
   have hb2:=aJ s2 hb
   walk_at "go"
   rw [hwl]
   intro r1 hr1
   rw [show ((fG cws i:Nat):Int) + ((cw.length:Nat):Int) = ((fG cws i + cw.length:Nat):Int) by push_cast; rfl,bZO (by omega),show fG cws i + cw.length - fG cws i = cw.length by omega]
   have hrow_e:(((cs.map one).map V.str).drop (fG cws i)).take cw.length = kT cws cs i:=by
     unfold kT
     rw [Ac,hcw,List.map_take,List.map_take,List.map_drop,List.map_drop]
     rfl
   rw [hrow_e]
   walk_at "go"
   intro r2 hr2
   have hp1:r2 ≠ p:=fun z => by
     have:=aE hr1 (HO.lst (kT cws cs i)) _ _ hH
     rw [← z,hr2] at this
     cases this
   have s3:Same H2 (upd (upd H2 r1 (HO.lst (kT cws cs i))) r2 (HO.lst (kT cws cs i))):=(aE hr1 _).trans (aE hr2 _)
   have hr3:(upd (upd H2 r1 (HO.lst (kT cws cs i))) r2 (HO.lst (kT cws cs i))) r2 = some (.lst (kT cws cs i)):=aB
   have hr20:H2 r2 = none:=none_of (aE hr1 _) hr2
   generalize upd (upd H2 r1 (HO.lst (kT cws cs i))) r2 (HO.lst (kT cws cs i)) = H3 at s3 hr3 ⊢
   have hH3:=s3 _ _ hH
   have hm3:=bG hH3
   walk_at "go"
   have hne2:∀ x ∈ ps ++ [r2],x ≠ p:=fun x hx => by
     rcases Bi.mp hx with e | e
     · exact hne x e
     · rw [As.mp e]; exact hp1
   refine ⟨ps ++ [r2],some (.str (bE cw)),some (.int ((fG cws i + cw.length:Nat):Int)),?_,aY hp (s2.trans s3),by rw [aB,Ak]; rfl,hne2,by rw [Aj,hpl]; rfl,?_⟩
   · rw [qT hcw]
     rfl
   · rw [Cb,Ak]
     exact ((tp.keep s3).snoc (none_of s2 hr20) hr3).put hne2
 · rintro σ H2 ⟨ps,v4,v5,rfl,s2,hH,hne,hpl,tp⟩
   walk_at "go"
   rw [hll] at tp
   exact q p ps H2 hp s2 hH hne tp
theorem yB:FnScope ["text"] ["text"] (aG fR):=⟨rfl,rfl,rfl,by decide +kernel,rfl,by decide +kernel,by decide +kernel⟩
theorem xG {Zw Zz Zx Zy:Addr} {f:Addr} {fd:FuncData} (F:Fun K "is_flag" "is_flag" fR f fd) (G:Gs K mg Zw Zz Zx Zy)  : FnOk P w K mg base CX0 1 f fd ["text"] oR:=by
 refine F.ok yB (fun vs H Q E h => ?_) (fun cdv A outer s H vs Q E hr h => ?_)
 · obtain ⟨z,rfl,_⟩:=h; rfl
 obtain ⟨z,rfl,hl,q⟩:=h
 refine ⟨_,(@aH _ _ _ (aT (cJV (iJ xC (bJ eU rfl G.b_len cQ (aA (mv 0) aF)) aL (bF _)) (aJ8 (iJ zX (mv 0) (jV rfl G.s_FLAGS) (by rfl)))))),?_⟩
 walk_at "go"
 refine fZ (fun hc => ?_) (fun hc => ?_)
 · have e:iB z = subIn z flagsT:=if_pos (by have:=Be hc; omega)
   rw [e] at q
   walk_at "go"
   exact q
 · have e:iB z = false:=nH (by have:=Bq (Bw.mpr hc); omega)
   rw [e] at q
   exact q
theorem tS:FnScope ["text", "place"] ["text", "place"] (aG dZ):=⟨rfl,rfl,rfl,by decide +kernel,rfl,by decide +kernel,by decide +kernel⟩
theorem tW {Zw Zz Zx Zy:Addr} {f:Addr} {fd:FuncData} (F:Fun K "may_stand" "may_stand" dZ f fd) (G:Gs K mg Zw Zz Zx Zy) (c_is_flag:Cal P w K mg base 1 "is_flag" ["text"] oR):FnOk P w K mg base CX0 2 f fd ["text", "place"] lV:=by
 refine F.ok tS (fun vs H Q E h => ?_) (fun cdv A outer s H vs Q E hr h => ?_)
 · obtain ⟨z,p,rfl,_⟩:=h; rfl
 obtain ⟨z,p,rfl,hl,q⟩:=h
 refine ⟨_,(@aD _ _ _ _ _ (cS (uC (lQ (aU c_is_flag hr (by decide) rfl (aA (mv 0) aF)))) (@aH _ _ _ (aT gS)) bO) (@aD _ _ _ _ _ (cS (bB zX (mv 0) (jV rfl G.s_SUBSTITUTES) (by rfl)) (@aH _ _ _ (aT (iJ bX5 (bT zR rfl G.b_int uL (aA (mv 0) aF)) (mv 1) (bF _)))) bO) (@aH _ _ _ (aT gS)))),?_⟩
 walk_at "go"
 refine ⟨z,rfl,hl,?_⟩
 walk_at "go"
 refine fZ (fun hc => ?_) (fun hc => ?_)
 · have hf:iB z = false:=by simpa using hc
   have e:cY z p = false:=by
     by_cases h1:z.length = 1
     · obtain ⟨c,rfl⟩:=pJ h1
       rw [oJ] at hf
       have hf:=Bq hf
       rw [lG]
       exact Av fun st => hf (st.elim .inl fun z => .inr z.1)
     · exact if_neg h1
   rw [e] at q
   walk_at "go"
   exact q
 · have hf:iB z = true:=by simpa using hc
   obtain ⟨c,rfl,hcc⟩:=aZC hf
   walk_at "go"
   rw [if_neg Al,show subIn (one c) (Str.ofString "1234") = decide (dC c) from kP c]
   rw [lG] at q
   refine fZ (fun hd => ?_) (fun hd => ?_)
   · have hs:=Be hd
     walk_at "go"
     refine uG (nU hs) (by show 1 ≤ 640; decide) ?_
     walk_at "go"
     rw [show decide (iQ c p) = decide ((c:Int) - 48 < p) from Dh.mpr ⟨fun st => st.elim (fun l => absurd hs (fE l)) (·.2),fun l => .inr ⟨hs,l⟩⟩] at q
     exact q
   · have hs:=Bq (Bw.mpr hd)
     walk_at "go"
     rw [Ar (show iQ c p from .inl (hcc.resolve_right hs))] at q
     exact q
theorem vV:FnScope ["flags"] ["flags"] (aG eV):=⟨rfl,rfl,rfl,by decide +kernel,rfl,by decide +kernel,by decide +kernel⟩
theorem vQ {Zw Zz Zx Zy:Addr} {f:Addr} {fd:FuncData} (F:Fun K "is_hoist" "is_hoist" eV f fd) (G:Gs K mg Zw Zz Zx Zy) (c_may_stand:Cal P w K mg base 2 "may_stand" ["text", "place"] lV):FnOk P w K mg base CX0 3 f fd ["flags"] nA:=by
 refine F.ok vV (fun vs H Q E h => ?_) (fun cdv A outer s H vs Q E hr h => ?_)
 · obtain ⟨a,zs,rfl,_⟩:=h; rfl
 obtain ⟨a,zs,rfl,ha,hl,hz,q⟩:=h
 refine ⟨_,(@aD _ _ _ _ _ (cS (PW.pt (qQ (bB bX5 (bJ eU rfl G.b_len cQ (aA (mv 0) aF)) aL (bF _)) (pI (bB bXU (bJ eU rfl G.b_len cQ (aA (mv 0) aF)) (cQG rfl G.s_MOST_PLACES) (bF _))))) (@aH _ _ _ (aT gS)) bO) (@aH _ _ _ (aT (bJ (dX8 rfl) rfl G.b_all cJK (aA (eP rfl (bQ4 rfl G.b_enumerate (aA (mv 0) aF) (cQM aL cZ2)) (cQ4 (N:=["place", "text"]) (by decide +kernel) (by decide +kernel)) (by decide +kernel) rfl (by decide +kernel) (fun C s₀ H₀ ex => (iL (K:=K) (i:=0) (j:=1) (by rfl) (by rfl) (show List.Nodup (["place", "text"]:List Str) by decide +kernel) (by rfl) (by exact Or.inl rfl) (by exact Or.inr rfl) (by rfl) (by exact Or.inl rfl) (by exact Or.inr rfl))) (fun C s₀ H₀ ex => jA) (fun C s₀ H₀ ex => (aU c_may_stand hr (by decide) rfl (aA (mv 1) (aA (mv 0) aF))))) aF))))),?_⟩
 have hll:(zs.map V.str).length = zs.length:=Ab ..
 walk_at "go"
 rw [hll]
 refine fZ (fun hc => ?_) (fun hc => ?_)
 · walk_at "go"
   have e:cI zs = false:=if_pos (.inl (by have:=Be hc; omega))
   have r:=q H (Same.refl H)
   rw [e] at r
   exact r
 · have hc':=Bq (Bw.mpr hc)
   walk_at "go"
   rw [hll]
   refine fZ (fun hd => ?_) (fun hd => ?_)
   · walk_at "go"
     have e:cI zs = false:=if_pos (.inr (by have:=Be hd; omega))
     have r:=q H (Same.refl H)
     rw [e] at r
     exact r
   · have hd':=Bq (Bw.mpr hd)
     walk_at "go"
     refine ⟨⟨by omega,by omega⟩,?_⟩
     walk_at "go"
     refine bJA (fun i x => match x with | .str z => some (.bl (cY z ((1 + i:Nat):Int))) | _ => none) ha (by rw [hll]; exact bD (by omega)) (fun i x Hc p A B hx sm hp hA => ?_) (fun D Hd hD sd hr => ?_)
     · obtain ⟨z,hzi,rfl⟩:=kM hx
       walk_at "go"
       refine ⟨Wk.set rfl (Wk.set rfl (Wk.refl _)),?_⟩
       walk_at "go"
       refine ⟨z,_,rfl,hz z (Ai hzi),?_⟩
       exact hA _ (Same.refl _)
     · have e1:((List.range (zs.map V.str).length).filterMap fun i => (fun i x => match x with | .str z => some (V.bl (cY z ((1 + i:Nat):Int))) | _ => none:Nat → V → Option V) i ((zs.map V.str).getD i .non)) = ((List.range zs.length).map fun i => cY (zs.getD i ⟨#[]⟩) ((1 + i:Nat):Int)).map V.bl:=by
         rw [hll,Ci]
         refine (lH (g:=fun i => some (V.bl (cY (zs.getD i ⟨#[]⟩) ((1 + i:Nat):Int)))) fun i hi => ?_).trans (zO _ _)
         have hi':=Cc.mp hi
         rw [Ac,Ag,Aa hi',Ac,Aa hi']
         rfl
       rw [e1] at hr
       walk_at "go"
       refine dQV hr ?_
       have e2:cI zs = ((List.range zs.length).map fun i => cY (zs.getD i ⟨#[]⟩) ((1 + i:Nat):Int)).all id:=by
         unfold cI
         rw [if_neg (by omega),List.all_map]
         rfl
       have r:=q _ sd
       rw [e2] at r
       exact r
theorem sc_read_of:FnScope ["flags", "word", "flag"] ["flags"] (aG fO):=⟨rfl,rfl,rfl,by decide +kernel,rfl,by decide +kernel,by decide +kernel⟩
theorem xZ {Zw Zz Zx Zy:Addr} {f:Addr} {fd:FuncData} (F:Fun K "read_of" "read_of" fO f fd) (G:Gs K mg Zw Zz Zx Zy) (c_is_hoist:Cal P w K mg base 3 "is_hoist" ["flags"] nA):FnOk P w K mg base (CXr P w) 4 f fd ["flags"] (oG Zy):=by
 refine F.okX sc_read_of (fun vs H Q E h => ?_) (fun cdv A outer s H vs Q E hr h => ?_)
 · obtain ⟨a,zs,rfl,_⟩:=h; rfl
 obtain ⟨a,zs,rfl,ha,hl,hz,q,qe⟩:=h
 refine ⟨_,(@aD _ _ _ _ _ (cS (uC (lQ (aU c_is_hoist hr (by decide) rfl (aA (mv 0) aF)))) (@aH _ _ _ (bQG nX rfl rfl rfl G.c_NoHoist G.x_NoHoist Fj (@cJO _ _ _ _ _ _ aF))) bO) (@aD _ _ _ _ _ (@aP _ _ 1 _ _ _ _ sc_read_of.nd (by rfl) (by exact (Or.inl rfl)) bM (by rfl) (by first | exact Or.inl rfl | exact Or.inr rfl)) (@aD _ _ _ _ _ (PS.nox (bV Bf rfl (cB (mv 0)) (aV (i:=2) sc_read_of.nd rfl (Or.inl rfl)) (@aH _ _ _ (cS (bB zX (mv 2) (jV rfl G.s_SUBSTITUTES) (by rfl)) (@aH _ _ _ (@aP _ _ 1 _ _ _ _ sc_read_of.nd (by rfl) (by exact (Or.inl rfl)) (aX cH (mv 1) (bL cO (mv 1) (aX kE (bT zR rfl G.b_int uL (aA (mv 2) aF)) aL) (fun _ _ => rfl))) (by rfl) (by first | exact Or.inl rfl | exact Or.inr rfl))) (@aH _ _ _ (@aP _ _ 1 _ _ _ _ sc_read_of.nd (by rfl) (by exact (Or.inl rfl)) (aX cH (mv 1) (mv 2)) (by rfl) (by first | exact Or.inl rfl | exact Or.inr rfl))))))) (@aH _ _ _ (aT (mv 1)))))),?_⟩
 walk_at "go"
 refine ⟨a,zs,rfl,ha,hl,hz,fun H1 s1 => ?_⟩
 have ha1:=aJ s1 ha
 walk_at "go"
 cases hh:cI zs with
 | false =>
   walk_at "go"
   exact ⟨by show 1 ≤ sizeLine; decide,qe hh H1 s1⟩
 | true =>
   walk_at "go"
   have h7:=eY hh
   refine dB (xs:=zs.map V.str) (fun i σ H' => ∃ v,σ = [some (.ref a),some (.str (bE (rdC ((zs.map gD).take i)))),v] ∧ H' = H1)
     ⟨none,rfl,rfl⟩ (fun i σ H' _ ⟨_,_,e⟩ => by rw [e]; exact ha1) ?_ ?_
   · rintro i x σ H' hx ⟨v,rfl,rfl⟩
     obtain ⟨z,hzi,rfl⟩:=kM hx
     obtain ⟨c,rfl,hci,hcc⟩:=iI hh hzi
     have hi:i < (zs.map gD).length:=(Ad.mp hci).1
     have hll:(zs.map gD).length = zs.length:=Ab ..
     have hrl:(rdC ((zs.map gD).take i)).length = i:=hV (by omega)
     have hst:=jG hci
     generalize rdC ((zs.map gD).take i) = wd at hrl hst ⊢
     have hwl:(bE wd).length = i:=(eM wd).trans hrl
     walk_at "go"
     rw [if_neg Al,show subIn (one c) (Str.ofString "1234") = decide (dC c) from kP c]
     refine fZ (fun hd => ?_) (fun hd => ?_)
     · have hs:=Be hd
       have hlt:c - 49 < i:=(hcc.resolve_left fun l => fE l hs).2
       have h49:49 ≤ c:=hs.1
       walk_at "go"
       refine uG (nU hs) (by show 1 ≤ 640; decide) ?_
       walk_at "go"
       have e1:atI (bE wd).cps.toList ((c:Int) - 48 - 1) = some (wd.getD (c - 49) 0):=by
         rw [show ((c:Int) - 48 - 1) = ((c - 49:Nat):Int) by omega]
         refine eK ?_
         rw [mW,Ac,Aa (by omega)]
         rfl
       have h2:(⟨#[wd.getD (c - 49) 0]⟩:Str).length = 1:=rfl
       refine iZ (by rw [hwl]; exact bI (by omega)) e1 ?_
       walk_at "go"
       refine ⟨some (.str (one c)),?_,rfl⟩
       rw [hst,show stp wd c = wd.getD (c - 49) 0 from if_pos hs,← gW]
       rfl
     · have hs:=Bq (Bw.mpr hd)
       have h2:(one c).length = 1:=rfl
       walk_at "go"
       refine ⟨some (.str (one c)),?_,rfl⟩
       rw [hst,show stp wd c = c from if_neg hs,← gW]
       rfl
   · rintro σ H' ⟨v,rfl,rfl⟩
     walk_at "go"
     have e:(zs.map gD).take (zs.map V.str).length = zs.map gD:=Bm (by rw [Ab,Ab]; exact Ah _)
     rw [e]
     exact q hh _ s1
abbrev Wt:=Nat × Nat
def cA (w:Wt):List Key:=[Sum.inl (w.1:Int),Sum.inl (w.2:Int)]
theorem iU {a b:Wt} (h:cA a = cA b):a = b:=by
 unfold cA at h
 injection h with h1 h2
 injection h2 with h2 _
 have e1:=Sum.inl.inj h1
 have e2:=Sum.inl.inj h2
 exact Prod.ext (by omega) (by omega)
def dJ (m:List (Wt × Nat)) (w:Wt):Option Nat:=(m.find? fun x => decide (x.1 = w)).map (·.2)
def dW (m:List (Wt × Nat)) (f:Nat):List Wt:=(m.filter fun x => decide (x.2 = f)).map (·.1)
def ctm (m:List (Wt × Nat)) (f:Nat):Nat:=m.countP fun x => decide (x.2 = f)
theorem eX {x:Wt × Nat} {m:List (Wt × Nat)} {w:Wt}:dJ (x :: m) w = if x.1 = w then some x.2 else dJ m w:=by
 unfold dJ
 rw [List.find?_cons]
 by_cases h:x.1 = w
 · simp [h]
 · simp [h]
theorem wI {m:List (Wt × Nat)} {w:Wt} {f:Nat} (h:dJ m w = some f):(w,f) ∈ m:=by
 induction m with
 | nil => cases h
 | cons x m ih =>
   rw [eX] at h
   by_cases e:x.1 = w
   · rw [if_pos e] at h
     cases h
     rw [← e]
     exact An
   · rw [if_neg e] at h
     exact Ao _ (ih h)
theorem lL {m:List (Wt × Nat)} (nd:(m.map (·.1)).Nodup) {w:Wt} {f:Nat} (h:(w,f) ∈ m):dJ m w = some f:=by
 induction m with
 | nil => cases h
 | cons x m ih =>
   rw [eX]
   rw [Ap,Bx] at nd
   rcases Ba.mp h with e | e
   · rw [← e,if_pos rfl]
   · rw [if_neg (fun z => nd.1 (by rw [z]; exact Bc.mpr ⟨_,e,rfl⟩)),ih nd.2 e]
theorem hget_none {m:List (Wt × Nat)} {w:Wt}:dJ m w = none ↔ w ∉ m.map (·.1):=by
 induction m with
 | nil => exact ⟨fun _ z => (nomatch z),fun _ => rfl⟩
 | cons x m ih =>
   rw [eX,Ap,Ba]
   by_cases e:x.1 = w
   · rw [if_pos e]
     exact ⟨fun z => (nomatch z),fun z => absurd (Or.inl e.symm) z⟩
   · rw [if_neg e,ih]
     exact ⟨fun z y => y.elim (fun q => e q.symm) z,fun z y => z (Or.inr y)⟩
theorem by_mem {m:List (Wt × Nat)} {f:Nat} {w:Wt}:w ∈ dW m f ↔ (w,f) ∈ m:=by
 unfold dW
 rw [Bc]
 constructor
 · rintro ⟨x,hx,rfl⟩
   rw [Dc,Bp] at hx
   rw [← hx.2]
   exact hx.1
 · intro h
   exact ⟨(w,f),Dc.mpr ⟨h,Ar rfl⟩,rfl⟩
theorem zA (m:List (Wt × Nat)) (f:Nat):(dW m f).length = ctm m f:=by
 unfold dW ctm
 rw [Ab,Fa]
structure Asking (ch:Wt → List Nat) (m:List (Wt × Nat)) (first:Wt) (A:List (Nat × Wt)):Prop where
 nd:(A.map (·.1)).Nodup
 ok:∀ (j:Nat) f w,A[j]? = some (f,w) → f ∈ ch w ∧ (w = first ∨ ∃ (g:Nat) (i:Nat) (v:Wt),i < j ∧ A[i]? = some (g,v) ∧ dJ m w = some g)
def cC (m:List (Wt × Nat)) (first:Wt) (A:List (Nat × Wt)):List Wt:=first :: (A.map (·.1)).flatMap (dW m)
theorem kR (m:List (Wt × Nat)) (first:Wt) (A:List (Nat × Wt)) (f:Nat) (w:Wt):cC m first (A ++ [(f,w)]) = cC m first A ++ dW m f:=by
 unfold cC
 rw [Ak,Dy]
 simp
theorem reach_mem {m:List (Wt × Nat)} {first:Wt} {A:List (Nat × Wt)} {w:Wt}:w ∈ cC m first A ↔ w = first ∨ ∃ f ∈ A.map (·.1),(w,f) ∈ m:=by
 unfold cC
 rw [Ba,Fp]
 constructor
 · rintro (h | ⟨f,hf,h⟩)
   · exact .inl h
   · exact .inr ⟨f,hf,by_mem.mp h⟩
 · rintro (h | ⟨f,hf,h⟩)
   · exact .inl h
   · exact .inr ⟨f,hf,by_mem.mpr h⟩
theorem pE (m:List (Wt × Nat)):∀ {fs:List Nat},fs.Nodup → (fs.flatMap (dW m)).length = m.countP (fun x => decide (x.2 ∈ fs))
 | [],_ => by simp
 | f :: fs,nd => by
   rw [Fh,Aj,zA,pE m (Bx.mp nd).2]
   have hf:=(Bx.mp nd).1
   unfold ctm
   clear nd
   induction m with
   | nil => rfl
   | cons x m ih =>
     rw [Di,Di,Di,← ih]
     by_cases h1:x.2 = f
     · rw [if_pos (Ar h1),if_neg (by rw [Bp,h1]; exact hf),if_pos (Ar (by rw [h1]; exact An))]
       omega
     · rw [if_neg (by rw [Bp]; exact h1)]
       by_cases h2:x.2 ∈ fs
       · rw [if_pos (Ar h2),if_pos (Ar (Ao _ h2))]
         omega
       · rw [if_neg (by rw [Bp]; exact h2),if_neg (by rw [Bp]; exact fun z => (Ba.mp z).elim h1 h2)]
         omega
theorem rF {m:List (Wt × Nat)} {first:Wt} {A:List (Nat × Wt)} (nd:(A.map (·.1)).Nodup):(cC m first A).length ≤ 1 + m.length:=by
 unfold cC
 rw [Az,pE m nd]
 have:=List.countP_le_length (p:=fun x:Wt × Nat => decide (x.2 ∈ A.map (·.1))) (l:=m)
 omega
theorem Asking.snoc {ch:Wt → List Nat} {m:List (Wt × Nat)} {first w:Wt} {A:List (Nat × Wt)} {f:Nat} (ndm:(m.map (·.1)).Nodup) (h:Asking ch m first A) (hf:f ∉ A.map (·.1)) (hc:f ∈ ch w) (hw:w ∈ cC m first A):Asking ch m first (A ++ [(f,w)]):=by
 refine ⟨?_,fun j g v hj => ?_⟩
 · rw [Ak]
   exact List.nodup_append.mpr ⟨h.nd,by simp,fun x hx y hy => by rw [List.mem_singleton.mp hy]; intro z; have z2:x = f:=z; rw [z2] at hx; exact hf hx⟩
 · by_cases hlt:j < A.length
   · rw [Au hlt] at hj
     obtain ⟨h1,h2⟩:=h.ok j g v hj
     refine ⟨h1,h2.imp id ?_⟩
     rintro ⟨g',i,v',hi,hA,hg⟩
     exact ⟨g',i,v',hi,by rw [Au (by omega)]; exact hA,hg⟩
   · have hj2:j = A.length:=by
       have:=(Ad.mp hj).1
       rw [Aj] at this
       have:j < A.length + 1:=this
       omega
     subst hj2
     rw [Ay (Ah _),Gg] at hj
     cases hj
     refine ⟨hc,?_⟩
     rcases reach_mem.mp hw with e | ⟨g',hg',hm⟩
     · exact .inl e
     · obtain ⟨x,hx,rfl⟩:=Bc.mp hg'
       obtain ⟨i,hi,ei⟩:=Ca.mp hx
       exact .inr ⟨x.1,i,x.2,hi,by rw [Au hi,Aa hi,ei],lL ndm hm⟩
structure Asked (ch:Wt → List Nat) (m:List (Wt × Nat)) (first:Wt) (A:List (Nat × Wt)):Prop extends Asking ch m first A where
 all1:∀ f ∈ ch first,f ∈ A.map (·.1)
 all:∀ w g,(w,g) ∈ m → g ∈ A.map (·.1) → ∀ f ∈ ch w,f ∈ A.map (·.1)
theorem Asking.done {ch:Wt → List Nat} {m:List (Wt × Nat)} {first:Wt} {A:List (Nat × Wt)} (h:Asking ch m first A) (hc:∀ w ∈ cC m first A,∀ f ∈ ch w,f ∈ A.map (·.1)):Asked ch m first A :=
 ⟨h,hc first (reach_mem.mpr (.inl rfl)),fun w g hm hg => hc w (reach_mem.mpr (.inr ⟨g,hg,hm⟩))⟩
def aXU (m:List (Wt × Nat)) (w:Wt) (f:Nat):List (Wt × Nat):=if (dJ m w).isSome = true then m.map fun x => if x.1 = w then (x.1,f) else x else m ++ [(w,f)]
theorem bQD {m:List (Wt × Nat)} {w v:Wt} {f:Nat}:dJ (m.map fun x => if x.1 = w then (x.1,f) else x) v = (dJ m v).map fun g => if v = w then f else g:=by
 induction m with
 | nil => rfl
 | cons x m ih =>
   rw [Ap,eX,eX,ih]
   by_cases e:x.1 = w
   · rw [if_pos e]
     by_cases e2:x.1 = v
     · rw [if_pos e2,if_pos e2,Du,if_pos (e2.symm.trans e)]
     · rw [if_neg e2,if_neg e2]
   · rw [if_neg e]
     by_cases e2:x.1 = v
     · rw [if_pos e2,if_pos e2,Du,if_neg (fun z => e (e2.trans z))]
     · rw [if_neg e2,if_neg e2]
theorem keys_map {m:List (Wt × Nat)} {w:Wt} {f:Nat}:(m.map fun x => if x.1 = w then (x.1,f) else x).map (·.1) = m.map (·.1):=by
 rw [Ci]
 refine Cj fun x _ => ?_
 show (if x.1 = w then (x.1,f) else x).1 = x.1
 by_cases e:x.1 = w
 · rw [if_pos e]
 · rw [if_neg e]
theorem cJE {m:List (Wt × Nat)} {w:Wt} {f g:Nat} (nd:(m.map (·.1)).Nodup) (h:dJ m w = some g) (c:Nat) :
   ctm (m.map fun x => if x.1 = w then (x.1,f) else x) c + (if c = g then 1 else 0) = ctm m c + (if c = f then 1 else 0):=by
 induction m with
 | nil => cases h
 | cons x m ih =>
   rw [Ap,Bx] at nd
   rw [eX] at h
   unfold ctm at ih ⊢
   rw [Ap,Di,Di]
   by_cases e:x.1 = w
   · rw [if_pos e] at h
     cases h
     have hm:(m.map fun x => if x.1 = w then (x.1,f) else x) = m:=by
       refine (Cj fun y hy => ?_).trans (List.map_id _)
       show (if y.1 = w then (y.1,f) else y) = y
       rw [if_neg (fun z => nd.1 (by rw [e,← z]; exact Bc.mpr ⟨y,hy,rfl⟩))]
     rw [if_pos e,hm]
     have e1:(decide ((x.1,f).2 = c) = true) = (c = f):=by rw [Bp]; exact propext ⟨fun z => z.symm,fun z => z.symm⟩
     have e2:(decide (x.2 = c) = true) = (c = x.2):=by rw [Bp]; exact propext ⟨fun z => z.symm,fun z => z.symm⟩
     simp only [e1,e2]
     omega
   · rw [if_neg e] at h
     rw [if_neg e]
     have r:=ih nd.2 h
     omega
structure Along (ch:Wt → List Nat) (m0:List (Wt × Nat)) (A:List (Nat × Wt)) (f0:Nat) (m:List (Wt × Nat)) (c j:Nat) (w:Wt):Prop where
 keys:m.map (·.1) = m0.map (·.1)
 ok:∀ v f,(v,f) ∈ m → f ∈ ch v
 ct:∀ f,ctm m f + (if f = c then 1 else 0) = ctm m0 f + (if f = f0 then 1 else 0)
 at_:A[j]? = some (c,w)
 same:∀ v g i u,dJ m0 v = some g → A[i]? = some (g,u) → i < j → dJ m v = some g
theorem bJ3 {A:List (Nat × Wt)} (nd:(A.map (·.1)).Nodup) {i j g:Nat} {u v:Wt} (hi:A[i]? = some (g,u)) (hj:A[j]? = some (g,v)):i = j:=by
 obtain ⟨h1,e1⟩:=Ad.mp hi
 obtain ⟨h2,e2⟩:=Ad.mp hj
 refine (Fk (h₀:=by rw [Ab]; exact h1) (h₁:=by rw [Ab]; exact h2) nd).mp ?_
 rw [List.getElem_map,List.getElem_map,e1,e2]
theorem Along.step {ch:Wt → List Nat} {m0 m:List (Wt × Nat)} {A:List (Nat × Wt)} {f0 c j g i:Nat} {first w v:Wt} (ha:Asking ch m0 first A) (nd0:(m0.map (·.1)).Nodup) (h:Along ch m0 A f0 m c j w) (hg:dJ m0 w = some g) (hi:A[i]? = some (g,v)) (hij:i < j) :
   dJ m w = some g ∧ Along ch m0 A f0 (m.map fun x => if x.1 = w then (x.1,c) else x) g i v:=by
 have nd:(m.map (·.1)).Nodup:=by rw [h.keys]; exact nd0
 have hw:=h.same w g i v hg hi hij
 refine ⟨hw,keys_map.trans h.keys,fun u f hu => ?_,fun f => ?_,hi,fun u g' i' u' h1 h2 h3 => ?_⟩
 · obtain ⟨x,hx,e⟩:=Bc.mp hu
   by_cases ex:x.1 = w
   · rw [if_pos ex] at e
     cases e
     rw [ex]
     exact (ha.ok j c w h.at_).1
   · rw [if_neg ex] at e
     exact h.ok u f (e ▸ hx)
 · have r1:=cJE (f:=c) nd hw f
   have r2:=h.ct f
   omega
 · rw [bQD,h.same u g' i' u' h1 h2 (by omega),Du]
   by_cases e:u = w
   · subst e
     rw [hg] at h1
     cases h1
     exact absurd (bJ3 ha.nd hi h2) (by omega)
   · rw [if_neg e]
theorem Along.last {ch:Wt → List Nat} {m0 m:List (Wt × Nat)} {A:List (Nat × Wt)} {f0 c j:Nat} {first:Wt} (ha:Asking ch m0 first A) (hf:first ∉ m0.map (·.1)) (h:Along ch m0 A f0 m c j first) :
   dJ m first = none ∧ (m ++ [(first,c)]).map (·.1) = m0.map (·.1) ++ [first] ∧ (∀ v f,(v,f) ∈ m ++ [(first,c)] → f ∈ ch v) ∧ ∀ f,ctm (m ++ [(first,c)]) f = ctm m0 f + (if f = f0 then 1 else 0):=by
 refine ⟨hget_none.mpr (by rw [h.keys]; exact hf),by rw [Ak,h.keys]; rfl,fun v f hv => ?_,fun f => ?_⟩
 · rcases Bi.mp hv with e | e
   · exact h.ok v f e
   · cases As.mp e
     exact (ha.ok j c first h.at_).1
 · have r:=h.ct f
   unfold ctm at r ⊢
   rw [Fx]
   have e:List.countP (fun x:Wt × Nat => decide (x.2 = f)) [(first,c)] = if f = c then 1 else 0:=by
     rw [List.countP_singleton]
     by_cases z:f = c
     · rw [if_pos z,if_pos (Ar z.symm)]
     · rw [if_neg z,if_neg (by rw [Bp]; exact fun y => z y.symm)]
   rw [e]
   exact r
def jJ (m:List (Wt × Nat)) (first:Wt) (A:List (Nat × Wt)) (wl:List Wt):List Wt:=wl.filter fun w => decide (w = first) || (match dJ m w with | some g => decide (g ∈ A.map (·.1)) | none => false)
def iN (m:List (Wt × Nat)) (first:Wt) (A:List (Nat × Wt)) (w:Wt):Bool:=decide (w = first) || (match dJ m w with | some g => decide (g ∈ A.map (·.1)) | none => false)
theorem vR {m:List (Wt × Nat)} {first w:Wt} {A:List (Nat × Wt)} (h:w = first):iN m first A w = true:=by
 unfold iN
 rw [Ar h,Bool.true_or]
theorem pA {m:List (Wt × Nat)} {first w:Wt} {A:List (Nat × Wt)} (h:w ≠ first) (e:dJ m w = none):iN m first A w = false:=by
 unfold iN
 rw [Av h,e]
 rfl
theorem oZ {m:List (Wt × Nat)} {first w:Wt} {A:List (Nat × Wt)} {g:Nat} (h:w ≠ first) (e:dJ m w = some g):iN m first A w = decide (g ∈ A.map (·.1)):=by
 unfold iN
 rw [Av h,e,Gk]
theorem oO {m:List (Wt × Nat)} {first:Wt} {A:List (Nat × Wt)} {ws:List Wt} {w:Wt}:jJ m first A (ws ++ [w]) = jJ m first A ws ++ if iN m first A w = true then [w] else []:=by
 have e:∀ l,jJ m first A l = l.filter (iN m first A):=fun l => rfl
 rw [e,e,Ez,Fn]
 rfl
theorem lackW_mem {m:List (Wt × Nat)} {first w:Wt} {A:List (Nat × Wt)} {ws:List Wt}:w ∈ jJ m first A ws ↔ w ∈ ws ∧ iN m first A w = true:=by
 have e:∀ l,jJ m first A l = l.filter (iN m first A):=fun l => rfl
 rw [e,Dc]
theorem aJ4 {m:List (Wt × Nat)} {first:Wt} {A:List (Nat × Wt)} {l r:List Wt} (hk:m.map (·.1) = l) (nd:(l ++ first :: r).Nodup):(jJ m first A (l ++ first :: r)).length = 1 + m.countP (fun x => decide (x.2 ∈ A.map (·.1))):=by
 have hl:(m.map (·.1)).Nodup:=by rw [hk]; exact (Cr.mp nd).1
 have hfl:first ∉ l:=fun z => (Cr.mp nd).2.2 first z first An rfl
 have hfr:first ∉ r:=(Bx.mp (Cr.mp nd).2.1).1
 have hrl:∀ w ∈ r,w ∉ l:=fun w hw z => (Cr.mp nd).2.2 w z w (Ao _ hw) rfl
 unfold jJ
 rw [Ez,Aj,Fn,if_pos (by rw [Ar rfl]; rfl),Az]
 have er:r.filter (fun w => decide (w = first) || (match dJ m w with | some g => decide (g ∈ A.map (·.1)) | none => false)) = []:=by
   refine List.filter_eq_nil_iff.mpr fun w hw => ?_
   have e:dJ m w = none:=hget_none.mpr (by rw [hk]; exact hrl w hw)
   rw [Av (show ¬ w = first from fun z => by rw [z] at hw; exact hfr hw),e,Gk]
   exact Al
 have el:(l.filter (fun w => decide (w = first) || (match dJ m w with | some g => decide (g ∈ A.map (·.1)) | none => false))).length = m.countP (fun x => decide (x.2 ∈ A.map (·.1))):=by
   rw [← hk,List.filter_map,Ab,← Fa]
   refine List.countP_congr fun x hx => ?_
   show (decide (x.1 = first) || (match dJ m x.1 with | some g => decide (g ∈ A.map (·.1)) | none => false)) = true ↔ _
   rw [lL hl (w:=x.1) (f:=x.2) hx,Av (fun z => hfl (by rw [← z,← hk]; exact Bc.mpr ⟨x,hx,rfl⟩)),Gk]
 rw [er,el,List.length_nil]
 omega
theorem cX7 (m:List (Wt × Nat)):∀ {fs:List Nat},fs.Nodup → m.countP (fun x => decide (x.2 ∈ fs)) = (fs.map (ctm m)).sum:=fun {fs} nd => by
 rw [← pE m nd]
 induction fs with
 | nil => rfl
 | cons f fs ih => rw [Fh,Aj,zA,Ap,Cp,ih (Bx.mp nd).2]
def lT (cws:List (List Nat)) (k:Nat):List Wt:=(List.range (cws.getD k []).length).map fun j => (k,1 + j)
def wlP (cws:List (List Nat)) (i:Nat):List Wt:=(List.range i).flatMap (lT cws)
def wl (cws:List (List Nat)):List Wt:=wlP cws cws.length
def wV (w:Wt):List V:=[.int (w.1:Int),.int (w.2:Int)]
theorem jK (cws:List (List Nat)) (i:Nat):wlP cws (i + 1) = wlP cws i ++ lT cws i:=by
 unfold wlP
 rw [Cb,Dy]
 simp
theorem pP (cws:List (List Nat)):∀ i,kY cws i = (wlP cws i).map wV
 | 0 => rfl
 | i + 1 => by
   rw [iV,jK,Ak,pP cws i]
   congr 1
   unfold yV lT
   rw [Ci]
   refine Cj fun j _ => ?_
   show [V.int ((i:Nat):Int),V.int (1 + (j:Int))] = [V.int ((i:Nat):Int),V.int ((1 + j:Nat):Int)]
   rw [show ((1 + j:Nat):Int) = 1 + (j:Int) by omega]
theorem wlP_mem {cws:List (List Nat)} {w:Wt}:∀ {i:Nat},w ∈ wlP cws i ↔ w.1 < i ∧ 1 ≤ w.2 ∧ w.2 ≤ (cws.getD w.1 []).length:=fun {i} => by
 unfold wlP lT
 rw [Fp]
 constructor
 · rintro ⟨k,hk,h⟩
   obtain ⟨j,hj,rfl⟩:=Bc.mp h
   have:=Cc.mp hk
   have:=Cc.mp hj
   exact ⟨by omega,by show 1 ≤ 1 + j; omega,by show 1 + j ≤ (cws.getD k []).length; omega⟩
 · rintro ⟨h1,h2,h3⟩
   refine ⟨w.1,Cc.mpr h1,Bc.mpr ⟨w.2 - 1,Cc.mpr (by omega),?_⟩⟩
   exact Prod.ext rfl (by show 1 + (w.2 - 1) = w.2; omega)
theorem kQ (cws:List (List Nat)):∀ i,(wlP cws i).Nodup
 | 0 => List.nodup_nil
 | i + 1 => by
   rw [jK]
   refine Cr.mpr ⟨kQ cws i,?_,fun a ha b hb e => ?_⟩
   · unfold lT
     exact List.Pairwise.map _ (fun a b h => fun z => h (by have:=Dq Prod.snd z; have e:1 + a = 1 + b:=this; omega)) List.nodup_range
   · subst e
     have h1:=(wlP_mem.mp ha).1
     unfold lT at hb
     obtain ⟨j,_,rfl⟩:=Bc.mp hb
     exact absurd h1 (Dk _)
theorem sR {cws:List (List Nat)} (h7:∀ c ∈ cws,c.length ≤ 7) (i:Nat):(wlP cws i).length ≤ 7 * i:=by
 have:=kL h7 i
 rw [pP,Ab] at this
 exact this
def chW (cws:List (List Nat)) (w:Wt):List Nat:=chs (cws.getD w.1 []) (w.2 - 1)
def dP (ws:List Wt) (ds:List Addr):List (List Key × V):=List.zipWith (fun w d => (cA w,V.ref d)) ws ds
def dZG (H:Hp) (r:Addr) (cws:List (List Nat)) (i:Nat):Prop:=∃ ds:List Addr,ds.length = i ∧ H r = some (.dT (dP ((wl cws).take i) ds)) ∧ ∀ (j:Nat) w d,j < i → (wl cws)[j]? = some w → ds[j]? = some d → H d = some (.lst (((chW cws w).map one).map V.str))
theorem aZP {ws:List Wt} {ds:List Addr} (nd:ws.Nodup) (hl:ds.length = ws.length) {j:Nat} {w:Wt} {d:Addr} (hw:ws[j]? = some w) (hd:ds[j]? = some d):bR (dP ws ds) (cA w) = some (.ref d):=by
 induction ws generalizing ds j with
 | nil => cases hw
 | cons x ws ih =>
   cases ds with
   | nil => cases hl
   | cons e ds =>
     show bR ((cA x,V.ref e) :: dP ws ds) _ = _
     cases j with
     | zero => cases hw; cases hd; exact bZ rfl
     | succ j =>
       have hm:=Ai (show ws[j]? = some w from hw)
       rw [bU (fun z => (Bx.mp nd).1 (by rw [iU z]; exact hm))]
       exact ih (List.nodup_cons.mp nd).2 (by simpa using hl) hw hd
theorem xI {ws:List Wt} {ds:List Addr} {w:Wt} (h:w ∉ ws):bR (dP ws ds) (cA w) = none:=by
 induction ws generalizing ds with
 | nil => rfl
 | cons x ws ih =>
   cases ds with
   | nil => rfl
   | cons e ds =>
     show bR ((cA x,V.ref e) :: dP ws ds) _ = _
     rw [bU (fun z => h (by rw [iU z]; exact An))]
     exact ih fun z => h (Ao _ z)
theorem qP {ws:List Wt} {ds:List Addr} (hl:ds.length = ws.length):(dP ws ds).length = ws.length:=by
 unfold dP
 rw [List.length_zipWith]
 omega
theorem zD {ws:List Wt} {ds:List Addr} {w:Wt} {d:Addr} (hl:ds.length = ws.length):dP (ws ++ [w]) (ds ++ [d]) = dP ws ds ++ [(cA w,V.ref d)]:=by
 unfold dP
 rw [List.zipWith_append (by omega)]
 rfl
def kJ:Sp:=fun vs H Q _ => ∃ (a:Addr) (cws:List (List Nat)),vs = [.ref a] ∧ rdL H a = some ((cws.map bE).map V.str) ∧ cws.length ≤ 8 ∧ (∀ c ∈ cws,c.length ≤ 7) ∧
 ∀ (r:Addr) (H':Hp),H r = none → Same H H' → dZG H' r cws (wl cws).length → Q (.ref r) H'
theorem sc_choices_of:FnScope ["words", "choices", "want"] ["words"] (aG dE):=⟨rfl,rfl,rfl,by decide +kernel,rfl,by decide +kernel,by decide +kernel⟩
theorem pZ {Zw Zz Zx Zy:Addr} {f:Addr} {fd:FuncData} (F:Fun K "choices_of" "choices_of" dE f fd) (G:Gs K mg Zw Zz Zx Zy) (c_wants_of:Cal P w K mg base 1 "wants_of" ["words"] nM) (c_choices_at:Cal P w K mg base 1 "choices_at" ["word", "place"] kF):FnOk P w K mg base CX0 2 f fd ["words"] kJ:=by
 refine F.ok sc_choices_of (fun vs H Q E h => ?_) (fun cdv A outer s H vs Q E hr h => ?_)
 · obtain ⟨a,cws,rfl,_⟩:=h; rfl
 obtain ⟨a,cws,rfl,ha,h8,h7,q⟩:=h
 refine ⟨_,(@aD _ _ _ _ _ (@aP _ _ 1 _ _ _ _ sc_choices_of.nd (by rfl) (by exact (Or.inl rfl)) oH (by rfl) (by first | exact Or.inl rfl | exact Or.inr rfl)) (@aD _ _ _ _ _ (bV Bf rfl (cB (aU c_wants_of hr (by decide) rfl (aA (mv 0) aF))) (aV (i:=2) sc_choices_of.nd rfl (Or.inl rfl)) (@aH _ _ _ (cX (Room.u1 hr) (mv 1) (mv 2) (aU c_choices_at hr (by decide) rfl (aA (bL cO (mv 0) (bL cO (mv 2) aL (fun _ _ => rfl)) (fun _ _ => rfl)) (aA (bL cO (mv 2) aL (fun _ _ => rfl)) aF))) rfl))) (@aH _ _ _ (aT (mv 1))))),?_⟩
 walk_at "go"
 intro pc hpc
 walk_at "go"
 refine ⟨a,cws,rfl,aJ (aE hpc _) ha,h8,h7,fun r ps H1 hr s1 e1 tp => ?_⟩
 have s01:=(aE hpc (.dT [])).trans s1
 have ec1:=s1 _ _ (aB (H:=H) (a:=pc) (o:=.dT []))
 have hlw:(wl cws).length ≤ 56:=Bb (sR h7 _) (by omega)
 rw [pP] at tp
 have hpl:ps.length = (wl cws).length:=by rw [tp.1,Ab]; rfl
 have hpm:(ps.map V.ref).length = (wl cws).length:=by rw [Ab,hpl]
 have tat:∀ (j:Nat) p w,ps[j]? = some p → (wl cws)[j]? = some w → H1 p = some (.tup (wV w)):=fun j p w hp hw => (tp.2 j p _ hp (by rw [Ag]; exact Dq (Option.map wV) hw)).2
 have r1:=aQ e1
 have hcr:pc ≠ r:=fun z => by rw [← z,aB] at hr; cases hr
 walk_at "go"
 refine dB (xs:=ps.map V.ref) (fun i σ H' => ∃ (v:Option V),σ = [some (.ref a),some (.ref pc),v] ∧ Same H H' ∧ (∀ b u,b ≠ pc → H1 b = some u → H' b = some u) ∧ dZG H' pc cws i)
   ⟨_,rfl,s01,fun b u _ h => h,[],rfl,ec1,fun j w d hj => absurd hj (Nat.not_lt_zero _)⟩ (fun i σ H' _ ⟨_,_,_,k,_⟩ => aQ (k _ _ (Ne.symm hcr) e1)) ?_ ?_
 · rintro i x σ H2 hx ⟨v,rfl,s2,k2,ds,dl,ed,hds⟩
   rw [Ag] at hx
   cases e:ps[i]? with
   | none => rw [e] at hx; cases hx
   | some p =>
     rw [e] at hx
     cases hx
     have hi:i < (wl cws).length:=by rw [← hpl]; exact (Ad.mp e).1
     have ew:(wl cws)[i]? = some (wl cws)[i]:=Aa hi
     have hm:=wlP_mem.mp (Br hi)
     have htp1:=tat i p _ e ew
     have hpne:p ≠ pc:=fun z => by rw [z,ec1] at htp1; cases htp1
     have ht:=k2 _ _ hpne htp1
     have hnew:(wl cws)[i] ∉ (wl cws).take i:=fun z => by
       obtain ⟨j,hj,ej⟩:=Ca.mp z
       rw [Bl] at hj
       rw [List.getElem_take] at ej
       have:=(Fk (kQ cws cws.length)).mp ej
       omega
     have htk:(wl cws).take (i + 1) = (wl cws).take i ++ [(wl cws)[i]]:=by rw [Aw,ew]; rfl
     generalize hw:(wl cws)[i] = w at hm ht hnew htk ew
     obtain ⟨h1,h2,h3⟩:=hm
     have ecw:cws[w.1]? = some (cws.getD w.1 []):=by rw [Ac,Aa h1]; rfl
     have h7w:=h7 _ (Ai ecw)
     have ha2:=aJ s2 ha
     walk_at "go"
     refine jI ht (v:=.int (w.1:Int)) rfl ?_
     walk_at "go"
     refine eC ha2 (v:=.str (bE (cws.getD w.1 []))) (eK (by rw [Ag,Ag,ecw]; rfl)) ?_
     walk_at "go"
     refine jI ht (v:=.int (w.2:Int)) rfl ?_
     walk_at "go"
     refine ⟨cws.getD w.1 [],w.2 - 1,_,rfl,by omega,by omega,h7w,fun d H3 hd s3 e3 => ?_⟩
     walk_at "go"
     have dl2:ds.length = ((wl cws).take i).length:=by rw [dl,Bl]; omega
     refine oA (k:=cA w) (s3 _ _ ed) (s3 _ _ ht) (bD (by rw [qP dl2,Bl]; omega)) ?_
     have hdp:d ≠ pc:=fun z => by rw [z,ed] at hd; cases hd
     refine ⟨_,rfl,aY hpc (s2.trans s3),fun b u hb hu => by rw [aI hb]; exact s3 _ _ (k2 b u hb hu),ds ++ [d],by rw [Aj,dl]; rfl,?_,fun j v' d' hj hv hd' => ?_⟩
     · rw [aB,gZ _ (xI hnew),htk,zD dl2]
     · by_cases hjl:j < i
       · rw [Au (by omega)] at hd'
         have hold:=hds j v' d' hjl hv hd'
         rw [aI (fun z => by rw [z,ed] at hold; cases hold)]
         exact s3 _ _ hold
       · have hj2:j = i:=by omega
         subst hj2
         rw [ew] at hv
         cases hv
         rw [Ay (by omega),dl,Gg] at hd'
         cases hd'
         rw [aI hdp]
         exact e3
 · rintro σ H2 ⟨v,rfl,s2,k2,hch⟩
   rw [hpm] at hch
   walk_at "go"
   exact q pc H2 hpc s2 hch
def gA (m:List (Wt × Nat)):List (List Key × V):=m.map fun x => (cA x.1,V.str (one x.2))
theorem jC (m:List (Wt × Nat)) (w:Wt):bR (gA m) (cA w) = (dJ m w).map fun f => V.str (one f):=by
 induction m with
 | nil => rfl
 | cons x m ih =>
   show bR ((cA x.1,V.str (one x.2)) :: gA m) _ = _
   rw [eX]
   by_cases e:x.1 = w
   · rw [if_pos e,bZ (by show cA x.1 = cA w; rw [e])]
     rfl
   · rw [if_neg e,bU (fun z => e (iU z)),ih]
def fH (A:List (Nat × Wt)) (bs:List Addr):List (Key × V):=List.zipWith (fun x b => (Sum.inr (one x.1),V.ref b)) A bs
theorem jN {A:List (Nat × Wt)} {bs:List Addr} (hl:bs.length = A.length) (f:Nat):(bR (fH A bs) (Sum.inr (one f))).isSome = decide (f ∈ A.map (·.1)):=by
 induction A generalizing bs with
 | nil => rfl
 | cons x A ih =>
   cases bs with
   | nil => cases hl
   | cons b bs =>
     show (bR ((Sum.inr (one x.1),V.ref b) :: fH A bs) _).isSome = _
     by_cases e:x.1 = f
     · rw [bZ (by show (Sum.inr (one x.1):Key) = Sum.inr (one f); rw [e]),Ar (by rw [← e]; exact An)]
       rfl
     · rw [bU (fun z => e (key_one.mp z)),ih (by simpa using hl)]
       exact Dh.mpr ⟨fun z => Ao _ z,fun z => (Ba.mp z).resolve_left fun y => e y.symm⟩
theorem aX8 {A:List (Nat × Wt)} {bs:List Addr} (hl:bs.length = A.length) {f:Nat} (h:f ∉ A.map (·.1)):bR (fH A bs) (Sum.inr (one f)) = none:=by
 have r:=jN hl f
 rw [Av h] at r
 cases e:bR (fH A bs) (Sum.inr (one f)) with
 | none => rfl
 | some v => rw [e] at r; cases r
theorem aZE {A:List (Nat × Wt)} {bs:List Addr} {x:Nat × Wt} {b:Addr} (hl:bs.length = A.length):fH (A ++ [x]) (bs ++ [b]) = fH A bs ++ [(Sum.inr (one x.1),V.ref b)]:=by
 unfold fH
 rw [List.zipWith_append (by omega)]
 rfl
theorem pY {A:List (Nat × Wt)} {bs:List Addr} (hl:bs.length = A.length):(fH A bs).length = A.length:=by
 unfold fH
 rw [List.length_zipWith]
 omega
theorem aJB {A:List (Nat × Wt)} {bs:List Addr} (nd:(A.map (·.1)).Nodup) (hl:bs.length = A.length) {j f:Nat} {w:Wt} {b:Addr} (hA:A[j]? = some (f,w)) (hb:bs[j]? = some b):bR (fH A bs) (Sum.inr (one f)) = some (.ref b):=by
 induction A generalizing bs j with
 | nil => cases hA
 | cons x A ih =>
   cases bs with
   | nil => cases hl
   | cons e bs =>
     show bR ((Sum.inr (one x.1),V.ref e) :: fH A bs) _ = _
     rw [Ap,Bx] at nd
     cases j with
     | zero => cases hA; cases hb; exact bZ rfl
     | succ j =>
       have hm:f ∈ A.map (·.1):=Bc.mpr ⟨(f,w),Ai (show A[j]? = some (f,w) from hA),rfl⟩
       rw [bU (fun z => nd.1 (by rw [key_one.mp z]; exact hm))]
       exact ih nd.2 (by simpa using hl) hA hb
def WtsAt (H:Hp) (rs:List Addr) (ws:List Wt):Prop:=rs.length = ws.length ∧ ∀ (j:Nat) r w,rs[j]? = some r → ws[j]? = some w → H r = some (.tup (wV w))
theorem WtsAt.keep {H H':Hp} {rs:List Addr} {ws:List Wt} (h:WtsAt H rs ws) (k:∀ r w,H r = some (.tup (wV w)) → H' r = some (.tup (wV w))):WtsAt H' rs ws:=⟨h.1,fun j r w hr hw => k _ _ (h.2 j r w hr hw)⟩
theorem WtsAt.app {H:Hp} {rs qs:List Addr} {ws vs:List Wt} (h:WtsAt H rs ws) (g:WtsAt H qs vs):WtsAt H (rs ++ qs) (ws ++ vs):=by
 refine ⟨by rw [Aj,Aj,h.1,g.1],fun j r w hr hw => ?_⟩
 by_cases hj:j < rs.length
 · rw [Au hj] at hr
   rw [Au (by rw [← h.1]; exact hj)] at hw
   exact h.2 j r w hr hw
 · rw [Ay (by omega)] at hr
   rw [Ay (by rw [← h.1]; omega),← h.1] at hw
   exact g.2 _ r w hr hw
theorem WtsAt.one {H:Hp} {r:Addr} {w:Wt} (h:H r = some (.tup (wV w))):WtsAt H [r] [w]:=⟨rfl,fun j q v hq hv => by
 cases j with
 | zero => cases hq; cases hv; exact h
 | succ j => cases hq⟩
def ChRd (H:Hp) (r:Addr) (cws:List (List Nat)):Prop:=∃ ds:List Addr,ds.length = (wl cws).length ∧ Rd H r (.dT (dP (wl cws) ds)) ∧ ∀ (j:Nat) w d,(wl cws)[j]? = some w → ds[j]? = some d → H d = some (.lst (((chW cws w).map one).map V.str))
theorem ChRd.keep {H H':Hp} {r:Addr} {cws:List (List Nat)} (h:ChRd H r cws) (s:Same H H'):ChRd H' r cws:=by
 obtain ⟨ds,h1,h2,h3⟩:=h
 exact ⟨ds,h1,h2.elim (fun e => .inl (s _ _ e)) fun ⟨o,e⟩ => .inr ⟨o,s _ _ e⟩,fun j w d hw hd => s _ _ (h3 j w d hw hd)⟩
structure HungOk (cws:List (List Nat)) (m:List (Wt × Nat)):Prop where
 nd:(m.map (·.1)).Nodup
 sub:∀ x ∈ m,x.1 ∈ wl cws
theorem bX2 {cws:List (List Nat)} (hL:∀ c ∈ cws,c.length ≤ 7 ∧ ∀ d ∈ c,bS d) {w:Wt} (hw:w ∈ wl cws) {f:Nat} (hf:f ∈ chW cws w):fJ f:=by
 obtain ⟨h1,h2,h3⟩:=wlP_mem.mp hw
 have ecw:cws[w.1]? = some (cws.getD w.1 []):=by rw [Ac,Aa h1]; rfl
 rcases ch_iff.mp hf with e | ⟨n,_,h4,_,e⟩
 · rw [e]
   exact .inl (vY (hL _ (Ai ecw)).2 (by omega))
 · rw [e]
   exact .inr ⟨by omega,by omega⟩
theorem bXC {cws:List (List Nat)} {m:List (Wt × Nat)} {first:Wt} {A:List (Nat × Wt)} (hm:HungOk cws m) (hfw:first ∈ wl cws) (h:Asking (chW cws) m first A) {j f:Nat} {w:Wt} (hj:A[j]? = some (f,w)):w ∈ wl cws:=by
 rcases (h.ok j f w hj).2 with e | ⟨g,i,v,_,_,hg⟩
 · rw [e]; exact hfw
 · exact hm.sub _ (wI hg)
theorem zW {cws:List (List Nat)} {m:List (Wt × Nat)} {first:Wt} {A:List (Nat × Wt)} (hm:HungOk cws m) (hfw:first ∈ wl cws) (hL:∀ c ∈ cws,c.length ≤ 7 ∧ ∀ d ∈ c,bS d) (h:Asking (chW cws) m first A):A.length ≤ 27:=by
 have r:=oE (m:=flagsT.cps.toList) h.nd fun f hf => by
   obtain ⟨x,hx,rfl⟩:=Bc.mp hf
   obtain ⟨j,hj,e⟩:=Ca.mp hx
   have hj2:A[j]? = some (x.1,x.2):=by rw [Aa hj,e]
   exact flags_mem.mpr (bX2 hL (bXC hm hfw h hj2) (h.ok j _ _ hj2).1)
 rw [Ab] at r
 exact r
def kG:Sp:=fun vs H Q _ => ∃ (bf ac ah:Addr) (cws:List (List Nat)) (m:List (Wt × Nat)) (first:Wt),vs = [.ref bf,.ref ac,.ref ah] ∧ H bf = some (.tup (wV first)) ∧ first ∈ wl cws ∧ ChRd H ac cws ∧ H ah = some (.dT (gA m)) ∧ HungOk cws m ∧ m.length ≤ 56 ∧ cws.length ≤ 8 ∧ (∀ c ∈ cws,c.length ≤ 7 ∧ ∀ d ∈ c,bS d) ∧
 ∀ (r:Addr) (A:List (Nat × Wt)) (bs:List Addr) (H':Hp),H r = none → Same H H' → H' r = some (.dK (fH A bs)) → WtsAt H' bs (A.map (·.2)) → Asked (chW cws) m first A → Q (.ref r) H'
theorem sc_asked_from:FnScope ["first", "choices", "hung", "asked", "reached", "at", "asking", "flag"] ["first", "choices", "hung"] (aG cU):=⟨rfl,rfl,rfl,by decide +kernel,rfl,by decide +kernel,by decide +kernel⟩
theorem qA {Zw Zz Zx Zy:Addr} {f:Addr} {fd:FuncData} (F:Fun K "asked_from" "asked_from" cU f fd) (G:Gs K mg Zw Zz Zx Zy)  : FnOk P w K mg base CX0 1 f fd ["first", "choices", "hung"] kG:=by
 refine F.ok sc_asked_from (fun vs H Q E h => ?_) (fun cdv A outer s H vs Q E hr h => ?_)
 · obtain ⟨bf,ac,ah,cws,m,first,rfl,_⟩:=h; rfl
 obtain ⟨bf,ac,ah,cws,m,first,rfl,hbf,hfw,hch,hah,hm,hml,h8,hL,q⟩:=h
 refine ⟨_,(@aD _ _ _ _ _ (@aP _ _ 3 _ _ _ _ sc_asked_from.nd (by rfl) (by exact (Or.inl rfl)) lU (by rfl) (by first | exact Or.inl rfl | exact Or.inr rfl)) (@aD _ _ _ _ _ (@aP _ _ 4 _ _ _ _ sc_asked_from.nd (by rfl) (by exact (Or.inl rfl)) (cD (aA (mv 0) aF)) (by rfl) (by first | exact Or.inl rfl | exact Or.inr rfl)) (@aD _ _ _ _ _ (@aP _ _ 5 _ _ _ _ sc_asked_from.nd (by rfl) (by exact (Or.inl rfl)) aL (by rfl) (by first | exact Or.inl rfl | exact Or.inr rfl)) (@aD _ _ _ _ _ (wM Bf (bB bX5 (mv 5) (bJ eU rfl G.b_len cQ (aA (mv 4) aF)) (bF _)) (@aD _ _ _ _ _ (@aP _ _ 6 _ _ _ _ sc_asked_from.nd (by rfl) (by exact (Or.inl rfl)) (bL cO (mv 4) (mv 5) (fun _ _ => rfl)) (by rfl) (by first | exact Or.inl rfl | exact Or.inr rfl)) (@aD _ _ _ _ _ (bV Bf rfl (cB (bP (Room.u1 hr) (mv 1) (mv 6) (fun _ _ => rfl))) (aV (i:=7) sc_asked_from.nd rfl (Or.inr rfl)) (@aH _ _ _ (cS (bB (aJ1 (Room.u1 hr)) (mv 7) (mv 3) (by rfl)) (@aD _ _ _ _ _ (cX (Room.u1 hr) (mv 3) (mv 7) (mv 6) rfl) (@aH _ _ _ (dD (fD Ce Do Dp uY (mv 4) (aA (bX7 (eP rfl (lJ (mv 2)) (gP (N:=["want", "flag", "hung"]) ["first", "choices", "hung", "asked", "reached", "at", "asking", "flag"] (aG cU) [none,some 7,some 2] rfl rfl rfl (fun x h => cG h) (by decide +kernel)) (by decide +kernel) rfl (by decide +kernel) (fun C s₀ H₀ ex => (aV (i:=0) (show List.Nodup (["want", "flag", "hung"]:List Str) by decide +kernel) rfl (Or.inl rfl))) (fun C s₀ H₀ ex => (kO (bB xC (bP (Room.u1 hr) (mv 2) (mv 0) (fun _ _ => rfl)) (mv 1) (bF _)))) (fun C s₀ H₀ ex => (mv 0)))) aF))))) bO))) (@aH _ _ _ (@aP _ _ 5 _ _ _ _ sc_asked_from.nd (by rfl) (by exact (Or.inl rfl)) (aX cH (mv 5) aL) (by rfl) (by first | exact Or.inl rfl | exact Or.inr rfl)))))) (@aH _ _ _ (aT (mv 3))))))),?_⟩
 walk_at "go"
 intro pa hpa
 walk_at "go"
 refine ⟨by show 1 ≤ sizeLine; decide,fun pr hpr => ?_⟩
 have s1:=(aE hpa (.dK [])).trans (aE hpr (.lst [.ref bf]))
 have npr:pa ≠ pr:=fun z => by rw [← z,aB] at hpr; cases hpr
 have ea1:(upd (upd H pa (.dK [])) pr (.lst [.ref bf])) pa = some (.dK []):=by rw [aI npr,aB]
 have er1:(upd (upd H pa (.dK [])) pr (.lst [.ref bf])) pr = _:=aB
 have hpr0:H pr = none:=none_of (aE hpa _) hpr
 generalize upd (upd H pa (.dK [])) pr (.lst [.ref bf]) = H1 at s1 ea1 er1 ⊢
 walk_at "go"
 refine ⟨fun n σ H' => ∃ (A:List (Nat × Wt)) (bs rs:List Addr) (t:Nat) (v1 v2:Option V),σ = [some (.ref bf),some (.ref ac),some (.ref ah),some (.ref pa),some (.ref pr),some (.int (t:Int)),v1,v2] ∧ Same H H' ∧ H' pa = some (.dK (fH A bs)) ∧ WtsAt H' bs (A.map (·.2)) ∧ H' pr = some (.lst (rs.map V.ref)) ∧ WtsAt H' rs (cC m first A) ∧
     Asking (chW cws) m first A ∧ t ≤ (cC m first A).length ∧ (∀ (j:Nat) w,j < t → (cC m first A)[j]? = some w → ∀ f ∈ chW cws w,f ∈ A.map (·.1)) ∧ n = 1 + m.length - t,⟨_,[],[],[bf],0,_,_,rfl,s1,ea1,⟨rfl,fun j r w hr => (nomatch hr)⟩,er1,.one (s1 _ _ hbf),⟨List.nodup_nil,fun j f w hj => (nomatch hj)⟩,Ct _,fun j w hj => absurd hj (Nat.not_lt_zero _),rfl⟩,?_⟩
 rintro n σ H2 ⟨A,bs,rs,t,v1,v2,rfl,s2,ea2,wb2,er2,wr2,hask,htl,hcl,rfl⟩
 have hrl:(rs.map V.ref).length = (cC m first A).length:=by rw [Ab,wr2.1]
 have rr2:=aQ er2
 walk_at "go"
 rw [hrl]
 refine fZ (fun hd => ?_) (fun hd => ?_)
 · have hd':=Be hd
   have ht:t < (cC m first A).length:=by omega
   have hrm:=rF (m:=m) (first:=first) hask.nd
   have htr:t < rs.length:=by rw [wr2.1]; exact ht
   have ew:(cC m first A)[t]? = some (cC m first A)[t]:=Aa ht
   have er:rs[t]? = some rs[t]:=Aa htr
   have hwt:=wr2.2 t _ _ er ew
   have hww:(cC m first A)[t] ∈ wl cws:=by
     rcases reach_mem.mp (Br ht) with e | ⟨f,_,hm2⟩
     · rw [e]; exact hfw
     · exact hm.sub _ hm2
   generalize hbw:rs[t] = b at hwt er
   generalize hwe:(cC m first A)[t] = w at hwt hww ew
   clear hbw hwe hd hd'
   obtain ⟨ds,d1,d2,d3⟩:=id hch
   obtain ⟨jw,hjw,ejw⟩:=Ca.mp hww
   have ejw2:(wl cws)[jw]? = some w:=by rw [Aa hjw,ejw]
   have edw:ds[jw]? = some (ds[jw]'(by omega)):=Aa (by omega)
   have hdlH:=d3 jw w _ ejw2 edw
   have hdv:=aZP (kQ cws cws.length) d1 ejw2 edw
   generalize (ds[jw]'(by omega)) = dl at hdlH hdv
   have hdl:=s2 _ _ hdlH
   have d22:Rd H2 ac (.dT (dP (wl cws) ds)):=d2.elim (fun e => .inl (s2 _ _ e)) fun ⟨o,e⟩ => .inr ⟨o,s2 _ _ e⟩
   refine ⟨fun σ' H' => ∃ (A:List (Nat × Wt)) (bs rs:List Addr) (v1 v2:Option V),σ' = [some (.ref bf),some (.ref ac),some (.ref ah),some (.ref pa),some (.ref pr),some (.int ((t + 1:Nat):Int)),v1,v2] ∧ Same H H' ∧ H' pa = some (.dK (fH A bs)) ∧ WtsAt H' bs (A.map (·.2)) ∧ H' pr = some (.lst (rs.map V.ref)) ∧ WtsAt H' rs (cC m first A) ∧
     Asking (chW cws) m first A ∧ t + 1 ≤ (cC m first A).length ∧ (∀ (j:Nat) w,j < t + 1 → (cC m first A)[j]? = some w → ∀ f ∈ chW cws w,f ∈ A.map (·.1)),?_,?_⟩
   · rintro σ' H' ⟨A',bs',rs',v1',v2',rfl,g1,g2,g3,g4,g5,g6,g7,g8⟩
     exact ⟨1 + m.length - (t + 1),by omega,A',bs',rs',t + 1,v1',v2',rfl,g1,g2,g3,g4,g5,g6,g7,g8,rfl⟩
   walk_at "go"
   refine eC rr2 (v:=.ref b) (eK (by rw [Ag,er]; rfl)) ?_
   walk_at "go"
   refine yY (k:=cA w) d22 hwt hdv ?_
   have rdl:=aQ hdl
   have hcl5:=(bJH (cws.getD w.1 []) (w.2 - 1)).2
   have hcm:(((chW cws w).map one).map V.str).length = (chW cws w).length:=by rw [Ab,Ab]
   walk_at "go"
   have kt:∀ {H':Hp} {p:Addr} {u u':HO},H' p = some u → (∀ ws,u ≠ .tup ws) → ∀ r w,H' r = some (.tup (wV w)) → (upd H' p u') r = some (.tup (wV w)):=fun {H' p u u'} e ne r w h => by
     rw [aI (fun z => by rw [z,e] at h; cases h; exact ne _ rfl)]
     exact h
   refine dB (xs:=((chW cws w).map one).map V.str) (fun i σ H' => ∃ (A:List (Nat × Wt)) (bs rs:List Addr) (v2:Option V),σ = [some (.ref bf),some (.ref ac),some (.ref ah),some (.ref pa),some (.ref pr),some (.int (t:Int)),some (.ref b),v2] ∧ Same H H' ∧ H' pa = some (.dK (fH A bs)) ∧ WtsAt H' bs (A.map (·.2)) ∧ H' pr = some (.lst (rs.map V.ref)) ∧ WtsAt H' rs (cC m first A) ∧
       H' b = some (.tup (wV w)) ∧ Asking (chW cws) m first A ∧ (cC m first A)[t]? = some w ∧ (∀ (j:Nat) v,j < t → (cC m first A)[j]? = some v → ∀ f ∈ chW cws v,f ∈ A.map (·.1)) ∧ ∀ f ∈ (chW cws w).take i,f ∈ A.map (·.1))
     ⟨A,bs,rs,_,rfl,s2,ea2,wb2,er2,wr2,hwt,hask,ew,hcl,fun f hf => (nomatch hf)⟩ (fun i σ H' _ ⟨_,_,_,_,_,e,_⟩ => aQ (e _ _ hdlH)) ?_ ?_
   · clear hask ew hcl hrm htl hrl rr2 wr2 er2 wb2 ea2 er
     rintro i x σ H3 hx ⟨A,bs,rs,v2,rfl,s3,ea,wb,er,wr,hb,hask,ew,hcl,hpre⟩
     rw [Ag,Ag] at hx
     cases ef:(chW cws w)[i]? with
     | none => rw [ef] at hx; cases hx
     | some f =>
       rw [ef] at hx
       cases hx
       have hfc:=Ai ef
       have htk:(chW cws w).take (i + 1) = (chW cws w).take i ++ [f]:=by rw [Aw,ef]; rfl
       have hbl:bs.length = A.length:=by rw [wb.1,Ab]
       have hAl:=zW hm hfw hL hask
       walk_at "go"
       refine cXH (neg:=true) (z:=one f) (.inl ea) ?_
       rw [if_pos rfl,jN hbl]
       refine fZ (fun hd => ?_) (fun hd => ?_)
       · have hni:f ∉ A.map (·.1):=fun z => by rw [Ar z] at hd; cases hd
         walk_at "go"
         refine dR (z:=one f) ea (bD (by rw [pY hbl]; omega)) ?_
         rw [gZ _ (aX8 hbl hni),← aZE (x:=(f,w)) hbl]
         have s4:Same H (upd H3 pa (.dK (fH (A ++ [(f,w)]) (bs ++ [b])))):=aY hpa s3
         have ea4:(upd H3 pa (.dK (fH (A ++ [(f,w)]) (bs ++ [b])))) pa = _:=aB
         have er4:(upd H3 pa (.dK (fH (A ++ [(f,w)]) (bs ++ [b])))) pr = _:=(aI (Ne.symm npr)).trans er
         have k4:=kt (u':=.dK (fH (A ++ [(f,w)]) (bs ++ [b]))) ea (fun ws z => nomatch z)
         have wb4:=wb.keep k4
         have wr4:=wr.keep k4
         have hb4:=k4 _ _ hb
         generalize upd H3 pa (.dK (fH (A ++ [(f,w)]) (bs ++ [b]))) = H4 at s4 ea4 er4 wb4 wr4 hb4 ⊢
         have ah4:=s4 _ _ hah
         clear k4 wb wr er ea s3 hb
         walk_at "go"
         refine sL ah4 fun o => ?_
         have fz:(upd H4 ah (.frz o (.dT (gA m)))) ah = _:=aB
         have hkl:(gA m).length = m.length:=by unfold gA; rw [Ab]
         refine gJ (n:=m.length) (fun D i ys Hc => Same (upd H4 ah (.frz o (.dT (gA m)))) Hc ∧ ∃ qs,ys = qs.map V.ref ∧ WtsAt Hc qs (dW (m.take i) f)) (bD (by omega)) (fun D hD => ⟨aE hD _,[],rfl,rfl,fun j r w hr => (nomatch hr)⟩) (fun D i ys Hc _ r h => ⟨r.1 _ _ fz,by omega⟩) (fun D ys Hc _ r => ⟨r.1 _ _ fz,hkl⟩) ?_ ?_
         · rintro D i2 ys Hc x H' A' B' hD hi2 ⟨sm,qs,rfl,wq⟩ hDc ⟨rfl,kv,b2,hkv,rfl,hb2⟩ hA' hB'
           have em:m[i2]? = some m[i2]:=Aa hi2
           unfold gA at hkv
           rw [Ag,em] at hkv
           cases hkv
           have hbt:H' b2 = some (.tup (wV m[i2].1)):=hb2
           have hv:bR (gA m) (cA m[i2].1) = some (.str (one m[i2].2)):=by
             rw [jC,lL hm.nd (w:=m[i2].1) (f:=m[i2].2) (Br hi2)]
             rfl
           have tk:m.take (i2 + 1) = m.take i2 ++ [m[i2]]:=by rw [Aw,em]; rfl
           rw [tk] at hA' hB'
           generalize m[i2] = x2 at hbt hv hA' hB'
           walk_at "go"
           refine ⟨Wk.set rfl (Wk.refl _),?_⟩
           walk_at "go"
           refine yY (k:=cA x2.1) (.inr ⟨o,sm _ _ fz⟩) hbt hv ?_
           walk_at "go"
           rw [show decide (one x2.2 = one f) = decide (x2.2 = f) from tB _ _]
           refine fZ (fun he => ?_) (fun he => ?_)
           · have he':=Be he
             walk_at "go"
             refine hA' _ _ hDc ⟨aY hD sm,qs ++ [b2],by rw [Ak]; rfl,?_⟩
             rw [show dW (m.take i2 ++ [x2]) f = dW (m.take i2) f ++ [x2.1] by unfold dW; rw [List.filter_append,List.map_append]; simp [he']]
             exact (wq.app (.one hbt)).keep (kt hDc (fun ws z => nomatch z))
           · have he':=Bq (Bw.mpr he)
             walk_at "go"
             refine hB' _ hDc ⟨sm,qs,rfl,?_⟩
             rw [show dW (m.take i2 ++ [x2]) f = dW (m.take i2) f by unfold dW; rw [List.filter_append,List.map_append]; simp [he']]
             exact wq
         · rintro D ys Hc hD ⟨sm,qs,rfl,wq⟩ hDc _
           rw [Bh] at wq
           have hD4:H4 D = none:=by
             by_cases z:D = ah
             · rw [z,aB] at hD; cases hD
             · rw [aI z] at hD; exact hD
           have su:=pX ah4 (fun o v z => nomatch z) sm
           have eu:=dI (Hs:=H4) hDc (fun o v z => nomatch z)
           have wqu:WtsAt (unf H4 Hc) qs (dW m f):=wq.keep fun r w h => dI h (fun o v z => nomatch z)
           generalize unf H4 Hc = Hu at su eu wqu
           have eru:=su _ _ er4
           have hmr:=bG eru
           have hmd:=bG eu
           have nDr:pr ≠ D:=bH er4 hD4
           have hq1:qs.length ≤ 56:=by rw [wqu.1,zA]; unfold ctm; exact Bb List.countP_le_length hml
           have hr1:rs.length ≤ 57:=by rw [wr4.1]; exact Bb (rF hask.nd) (by omega)
           have hlen:(rs.map V.ref).length + (qs.map V.ref).length ≤ sizeLine:=bI (by rw [Ab,Ab]; omega)
           walk_at "go"
           have kr:=kt (u':=.lst (rs.map V.ref ++ qs.map V.ref)) eru (fun ws z => nomatch z)
           have hRt:=(Ad.mp ew).1
           refine ⟨A ++ [(f,w)],bs ++ [b],rs ++ qs,_,rfl,aY hpr0 (s4.trans su),?_,?_,?_,?_,?_,hask.snoc hm.nd hni hfc (Ai ew),?_,fun j v hj hv => ?_,fun g hg => ?_⟩
           · rw [aI npr]
             exact su _ _ ea4
           · rw [Ak]
             exact ((wb4.keep fun r w h => su _ _ h).app (.one (su _ _ hb4))).keep kr
           · rw [aB,Ak]
           · rw [kR]
             exact ((wr4.keep fun r w h => su _ _ h).app wqu).keep kr
           · exact kr _ _ (su _ _ hb4)
           · rw [kR,Au hRt]
             exact ew
           · rw [kR,Au (by omega)] at hv
             intro g hg
             rw [Ak]
             exact Bt _ (hcl j v hj hv g hg)
           · rw [htk] at hg
             rw [Ak]
             rcases Bi.mp hg with z | z
             · exact Bt _ (hpre g z)
             · rw [As.mp z]; exact Bg _ (As.mpr rfl)
       · have hin:f ∈ A.map (·.1):=by
           rw [Bool.not_eq_true,Bool.not_eq_false'] at hd
           exact Be hd
         walk_at "go"
         refine ⟨A,bs,rs,_,rfl,s3,ea,wb,er,wr,hb,hask,ew,hcl,fun g hg => ?_⟩
         rw [htk] at hg
         rcases Bi.mp hg with z | z
         · exact hpre g z
         · rw [As.mp z]; exact hin
   · clear hask ew hcl hrm htl hrl rr2 wr2 er2 wb2 ea2 er
     rintro σ H3 ⟨A,bs,rs,v2,rfl,s3,ea,wb,er,wr,hb,hask,ew,hcl,hpre⟩
     rw [hcm,Bh] at hpre
     walk_at "go"
     refine ⟨A,bs,rs,_,_,rfl,s3,ea,wb,er,wr,hask,(Ad.mp ew).1,fun j v hj hv => ?_⟩
     by_cases hjt:j < t
     · exact hcl j v hjt hv
     · have:j = t:=by omega
       subst this
       rw [ew] at hv
       cases hv
       exact hpre
 · have hd':=Bq (Bw.mpr hd)
   walk_at "go"
   refine q pa A bs H2 hpa s2 ea2 wb2 (hask.done fun w hw f hf => ?_)
   obtain ⟨j,hj,ej⟩:=Ca.mp hw
   exact hcl j w (by omega) (by rw [Aa hj,ej]) f hf
theorem vK {m:List (Wt × Nat)} {w:Wt} {f:Nat}:cP (gA m) (cA w) (.str (one f)) = gA (aXU m w f):=by
 have e:((gA m).any fun kv => decide (kv.1 = cA w)) = (dJ m w).isSome:=by
   rw [dM,jC]
   cases dJ m w <;> rfl
 unfold cP aXU
 rw [e]
 by_cases h:(dJ m w).isSome = true
 · rw [if_pos h,if_pos h]
   unfold gA
   rw [Ci,Ci]
   refine Cj fun x _ => ?_
   show (if cA x.1 = cA w then (cA x.1,V.str (one f)) else (cA x.1,V.str (one x.2))) = (fun x:Wt × Nat => (cA x.1,V.str (one x.2))) (if x.1 = w then (x.1,f) else x)
   by_cases ex:x.1 = w
   · rw [if_pos ex,if_pos (by rw [ex])]
   · rw [if_neg ex,if_neg (fun z => ex (iU z))]
 · rw [if_neg h,if_neg h]
   unfold gA
   rw [Ak]
   rfl
def kH:Sp:=fun vs H Q _ => ∃ (aa ah:Addr) (cws:List (List Nat)) (m:List (Wt × Nat)) (first:Wt) (A:List (Nat × Wt)) (bs:List Addr) (f0:Nat),vs = [.str (one f0),.ref aa,.ref ah] ∧ H aa = some (.dK (fH A bs)) ∧ WtsAt H bs (A.map (·.2)) ∧ Asking (chW cws) m first A ∧ H ah = some (.dT (gA m)) ∧ (m.map (·.1)).Nodup ∧ first ∉ m.map (·.1) ∧ (∀ v f,(v,f) ∈ m → f ∈ chW cws v) ∧ f0 ∈ A.map (·.1) ∧ m.length ≤ 56 ∧
 ∀ (m':List (Wt × Nat)) (H':Hp),(∀ b u,b ≠ ah → H b = some u → H' b = some u) → H' ah = some (.dT (gA m')) → m'.map (·.1) = m.map (·.1) ++ [first] → (∀ v f,(v,f) ∈ m' → f ∈ chW cws v) → (∀ f,ctm m' f = ctm m f + (if f = f0 then 1 else 0)) → Q .non H'
theorem sc_hang_along:FnScope ["flag", "asked", "hung", "want", "given"] ["flag", "asked", "hung"] (aG dG):=⟨rfl,rfl,rfl,by decide +kernel,rfl,by decide +kernel,by decide +kernel⟩
theorem qO {Zw Zz Zx Zy:Addr} {f:Addr} {fd:FuncData} (F:Fun K "hang_along" "hang_along" dG f fd) (G:Gs K mg Zw Zz Zx Zy)  : FnOk P w K mg base CX0 1 f fd ["flag", "asked", "hung"] kH:=by
 refine F.ok sc_hang_along (fun vs H Q E h => ?_) (fun cdv A outer s H vs Q E hr h => ?_)
 · obtain ⟨aa,ah,cws,m,first,A,bs,f0,rfl,_⟩:=h; rfl
 obtain ⟨aa,ah,cws,m,first,A,bs,f0,rfl,haa,hwb,hask,hah,nd,hnf,hmc,hf0,hml,q⟩:=h
 refine ⟨_,(@aH _ _ _ (wM Bf (bB mG (mv 0) dA (bF _)) (@aD _ _ _ _ _ (@aP _ _ 3 _ _ _ _ sc_hang_along.nd (by rfl) (by exact (Or.inl rfl)) (bP (Room.u1 hr) (mv 1) (mv 0) (fun _ _ => rfl)) (by rfl) (by first | exact Or.inl rfl | exact Or.inr rfl)) (@aD _ _ _ _ _ (@aP _ _ 4 _ _ _ _ sc_hang_along.nd (by rfl) (by exact (Or.inl rfl)) (fF Bv Cq (aJT (Room.u1 hr)) (mv 2) (aA (mv 3) aF)) (by rfl) (by first | exact Or.inl rfl | exact Or.inr rfl)) (@aD _ _ _ _ _ (cX (Room.u1 hr) (mv 2) (mv 3) (mv 0) rfl) (@aH _ _ _ (@aP _ _ 0 _ _ _ _ sc_hang_along.nd (by rfl) (by exact (Or.inl rfl)) (mv 4) (by rfl) (by first | exact Or.inl rfl | exact Or.inr rfl)))))))),?_⟩
 have hbl:bs.length = A.length:=by rw [hwb.1,Ab]
 have nah:aa ≠ ah:=fun z => by rw [z,hah] at haa; cases haa
 obtain ⟨x0,hx0,e0⟩:=Bc.mp hf0
 obtain ⟨j0,hj0,ej0⟩:=Ca.mp hx0
 have ej:A[j0]? = some (f0,x0.2):=by rw [Aa hj0,ej0,← e0]
 walk_at "go"
 refine ⟨fun n σ H' => (∃ (m2:List (Wt × Nat)) (c j:Nat) (w:Wt) (v1 v2:Option V),σ = [some (.str (one c)),some (.ref aa),some (.ref ah),v1,v2] ∧ (∀ b u,b ≠ ah → H b = some u → H' b = some u) ∧ H' ah = some (.dT (gA m2)) ∧ Along (chW cws) m A f0 m2 c j w ∧ n = j + 1) ∨
     (∃ (m':List (Wt × Nat)) (v1 v2:Option V),σ = [some .non,some (.ref aa),some (.ref ah),v1,v2] ∧ (∀ b u,b ≠ ah → H b = some u → H' b = some u) ∧ H' ah = some (.dT (gA m')) ∧ m'.map (·.1) = m.map (·.1) ++ [first] ∧ (∀ v f,(v,f) ∈ m' → f ∈ chW cws v) ∧ (∀ f,ctm m' f = ctm m f + (if f = f0 then 1 else 0)) ∧ n = 0),
   ⟨_,.inl ⟨m,f0,j0,x0.2,none,none,rfl,fun b u _ h => h,hah,⟨rfl,hmc,fun f => rfl,ej,fun v g i u hg _ _ => hg⟩,rfl⟩⟩,?_⟩
 rintro n σ H2 (⟨m2,c,j,w,v1,v2,rfl,fr,eh,al,rfl⟩ | ⟨m',v1,v2,rfl,fr,eh,hk,hc,hct,rfl⟩)
 · walk_at "go"
   rw [show (!decide (V.str (one c) = V.non)) = true from rfl]
   walk_at "go"
   have hjl:=(Ad.mp al.at_).1
   have ebj:bs[j]? = some (bs[j]'(by omega)):=Aa (by omega)
   have hbt:=hwb.2 j _ w ebj (by rw [Ag,al.at_]; rfl)
   have hav:=aJB hask.nd hbl al.at_ ebj
   generalize (bs[j]'(by omega)) = b at hbt hav
   have nb:b ≠ ah:=fun z => by rw [z,hah] at hbt; cases hbt
   have haa2:=fr _ _ nah haa
   have hb2:=fr _ _ nb hbt
   have hkl:(gA m2).length < sizeLine:=by
     have:m2.length = m.length:=by rw [← Ab (f:=(·.1)) (as:=m2),al.keys,Ab]
     unfold gA
     rw [Ab]
     exact bD (by omega)
   have hdd:isD H2 ah = true:=by unfold isD; rw [eh]
   refine ⟨_,fun σ' H' h => h,?_⟩
   walk_at "go"
   refine cK (z:=one c) (.inl haa2) hav ?_
   walk_at "go"
   refine aQ2 (k:=cA w) (.inl eh) hb2 ?_
   rw [jC]
   have fr2:∀ o,∀ b u,b ≠ ah → H b = some u → (upd H2 ah o) b = some u:=fun o b u hb hu => by rw [aI hb]; exact fr b u hb hu
   rcases (hask.ok j c w al.at_).2 with rfl | ⟨g,i,v,hij,hi,hg⟩
   · obtain ⟨l1,l2,l3,l4⟩:=al.last hask hnf
     rw [l1]
     walk_at "go"
     refine oA (k:=cA w) eh hb2 hkl ?_
     rw [vK,show aXU m2 w c = m2 ++ [(w,c)] by unfold aXU; rw [l1]; rfl]
     walk_at "go"
     exact ⟨0,by omega,.inr ⟨m2 ++ [(w,c)],_,_,rfl,fr2 _,aB,l2,l3,l4,rfl⟩⟩
   · obtain ⟨l1,l2⟩:=al.step hask nd hg hi hij
     rw [l1]
     walk_at "go"
     refine oA (k:=cA w) eh hb2 hkl ?_
     rw [vK,show aXU m2 w c = m2.map fun x => if x.1 = w then (x.1,c) else x by unfold aXU; rw [l1]; rfl]
     walk_at "go"
     exact ⟨i + 1,by omega,.inl ⟨_,g,i,v,_,_,rfl,fr2 _,aB,l2,rfl⟩⟩
 · walk_at "go"
   exact q m' H2 fr eh hk hc hct
def fK (aC:Addr):Sp:=fun vs H Q _ => ∃ (ea p q:Addr) (xs ys:List V),vs = [.ref ea,.ref p,.ref q] ∧ H ea = some (eJ ea aC none) ∧ rdL H p = some xs ∧ rdL H q = some ys ∧
 ∀ (dx l1 l2:Addr) (H':Hp),(∀ b u,b ≠ ea → H b = some u → H' b = some u) → H dx = none → dx ≠ ea → H' ea = some (eJ ea aC (some dx)) → H' dx = some (xdO dx [("flags",.ref l2),("wants",.ref l1)]) → H' l1 = some (.lst xs) → H' l2 = some (.lst ys) → H l1 = none → H l2 = none → Q .non H'
theorem tU:FnScope ["self", "wants", "flags"] ["self", "wants", "flags"] (aG eF):=⟨rfl,rfl,rfl,by decide +kernel,rfl,by decide +kernel,by decide +kernel⟩
theorem sZ {Zw Zz Zx Zy:Addr} {f:Addr} {fd:FuncData} (F:Fun K "__init__" "Lack.__init__" eF f fd) (G:Gs K mg Zw Zz Zx Zy)  : FnOk P w K mg base CX0 1 f fd ["self", "wants", "flags"] (fK Zw):=by
 refine F.ok tU (fun vs H Q E h => ?_) (fun cdv A outer s H vs Q E hr h => ?_)
 · obtain ⟨ea,p,q,xs,ys,rfl,_⟩:=h; rfl
 obtain ⟨ea,p,q,xs,ys,rfl,he,hp,hq,qq⟩:=h
 refine ⟨_,(@aD _ _ _ _ _ (dD (wH rfl G.c_TowerError G.t1_TowerError G.t2_TowerError G.t3_TowerError (aA (mv 0) (aA (bT mU rfl G.b_list hX (aA (mv 1) aF)) (aA (bT mU rfl G.b_list hX (aA (mv 2) aF)) aF))))) (@aD _ _ _ _ _ (tX (mv 0) (bT mU rfl G.b_list hX (aA (mv 1) aF)) rfl) (@aH _ _ _ (tX (mv 0) (bT mU rfl G.b_list hX (aA (mv 2) aF)) rfl)))),?_⟩
 walk_at "go"
 intro l1 hl1
 have s1:=aE hl1 (.lst xs)
 generalize upd H l1 (.lst xs) = H1 at s1 ⊢
 have hq1:=aJ s1 hq
 walk_at "go"
 intro l2 hl2
 have s2:=s1.trans (aE hl2 (.lst ys))
 generalize upd H1 l2 (.lst ys) = H2 at s2 ⊢
 have he2:=s2 _ _ he
 walk_at "go"
 refine ⟨ea,[.ref l1,.ref l2],Zw,Zz,none,rfl,by show 2 ≤ sizeLine; decide,he2,(fun _ z => nomatch z),G.xc_Lack,?_⟩
 have hp2:=aJ s2 hp
 walk_at "go"
 intro l3 hl3
 have s3:=s2.trans (aE hl3 (.lst xs))
 have e3:(upd H2 l3 (.lst xs)) l3 = _:=aB
 generalize upd H2 l3 (.lst xs) = H3 at s3 e3 ⊢
 have he3:=s3 _ _ he
 walk_at "go"
 refine ⟨ea,Zw,Zz,rfl,G.xc_Lack,G.xn_Lack_wants,.inl ⟨he3,fun dx hdx => ?_⟩⟩
 have nde:dx ≠ ea:=fun z => by rw [z,he3] at hdx; cases hdx
 have fr4:∀ b u,b ≠ ea → H b = some u → (upd (upd H3 ea (eJ ea Zw (some dx))) dx (xdO dx [("wants",.ref l3)])) b = some u:=fun b u hb hu => by
   have e:=s3 _ _ hu
   rw [aI (fun z => by rw [z,hdx] at e; cases e),aI hb]
   exact e
 have ee4:(upd (upd H3 ea (eJ ea Zw (some dx))) dx (xdO dx [("wants",.ref l3)])) ea = some (eJ ea Zw (some dx)):=by rw [aI nde.symm,aB]
 have ed4:(upd (upd H3 ea (eJ ea Zw (some dx))) dx (xdO dx [("wants",.ref l3)])) dx = _:=aB
 have n3e:l3 ≠ ea:=fun z => by rw [z,he3] at e3; cases e3
 have n3d:l3 ≠ dx:=fun z => by rw [z,hdx] at e3; cases e3
 have el4:(upd (upd H3 ea (eJ ea Zw (some dx))) dx (xdO dx [("wants",.ref l3)])) l3 = some (.lst xs):=by rw [aI n3d,aI n3e]; exact e3
 have hqe:q ≠ ea:=fun z => by rw [z] at hq; unfold rdL at hq; rw [he] at hq; cases hq
 have hq4:rdL (upd (upd H3 ea (eJ ea Zw (some dx))) dx (xdO dx [("wants",.ref l3)])) q = some ys:=by
   have hq3:=aJ s3 hq
   rw [yG (fun z => by rw [z] at hq3; unfold rdL at hq3; rw [hdx] at hq3; cases hq3),yG hqe]
   exact hq3
 generalize upd (upd H3 ea (eJ ea Zw (some dx))) dx (xdO dx [("wants",.ref l3)]) = H4 at fr4 ee4 ed4 el4 hq4 ⊢
 walk_at "go"
 intro l4 hl4
 have s5:=aE hl4 (.lst ys)
 have e5:(upd H4 l4 (.lst ys)) l4 = _:=aB
 have ee5:=s5 _ _ ee4
 have ed5:=s5 _ _ ed4
 have el5:=s5 _ _ el4
 have n4d:l4 ≠ dx:=fun z => by rw [z,ed4] at hl4; cases hl4
 have n4e:l4 ≠ ea:=fun z => by rw [z,ee4] at hl4; cases hl4
 have h40:H l4 = none:=by
   cases e:H l4 with
   | none => rfl
   | some u => rw [fr4 _ _ n4e e] at hl4; cases hl4
 generalize upd H4 l4 (.lst ys) = H5 at s5 e5 ee5 ed5 el5 ⊢
 walk_at "go"
 refine ⟨ea,Zw,Zz,rfl,G.xc_Lack,G.xn_Lack_flags,.inr ⟨dx,_,ee5,ed5,(by show 1 < 100; decide),?_⟩⟩
 refine qq dx l3 l4 _ (fun b u hb hu => ?_) (none_of s3 hdx) nde (by rw [aI nde.symm]; exact ee5) aB (by rw [aI n3d]; exact el5) (by rw [aI n4d]; exact e5) (none_of s2 hl3) h40
 have e:=s5 _ _ (fr4 b u hb hu)
 rw [aI (fun z => by have q9:=s3 _ _ hu; rw [z,hdx] at q9; cases q9)]
 exact e
structure LackOk (cws:List (List Nat)) (n:Nat → Int) (W:List Wt) (F:List Nat):Prop where
 sub:W.Sublist (wl cws)
 flags:∃ p:Nat → Bool,F = flagsT.cps.toList.filter p
 all:∀ w ∈ W,∀ f ∈ chW cws w,f ∈ F
 few:(F.map n).sum < (W.length:Int)
def ctn (fs:List Nat) (c:Nat):Nat:=fs.countP fun x => decide (x = c)
theorem mS (g:Nat → Nat):∀ L:List Nat,(L.map fun c => ((g c:Nat):Int)).sum = (((L.map g).sum:Nat):Int)
 | [] => rfl
 | c :: r => by
   rw [Ap,Cp,Ap,Cp,mS g r]
   omega
theorem bJT {cws:List (List Nat)} {n0:Nat → Int} {m:List (Wt × Nat)} {first:Wt} {A:List (Nat × Wt)} {fl:Nat → Option Int} {l r:List Wt} (hw:wl cws = l ++ first :: r) (hk:m.map (·.1) = l) (hL:∀ c ∈ cws,c.length ≤ 7 ∧ ∀ d ∈ c,bS d) (hmo:HungOk cws m) (hfw:first ∈ wl cws)
   (hA:Asked (chW cws) m first A) (hct:∀ c,aK fl c = n0 c - (ctm m c:Int) ∧ 0 ≤ aK fl c) (h0:∀ c ∈ A.map (·.1),¬ 0 < aK fl c):LackOk cws n0 (jJ m first A (wl cws)) (flagsT.cps.toList.filter fun c => decide (c ∈ A.map (·.1))):=by
 have hAf:∀ c ∈ A.map (·.1),fJ c:=fun c hc => by
   obtain ⟨x,hx,rfl⟩:=Bc.mp hc
   obtain ⟨j,hj,e⟩:=Ca.mp hx
   have hj2:A[j]? = some (x.1,x.2):=by rw [Aa hj,e]
   exact bX2 hL (bXC hmo hfw hA.toAsking hj2) (hA.ok j _ _ hj2).1
 have hF:∀ c,c ∈ flagsT.cps.toList.filter (fun c => decide (c ∈ A.map (·.1))) ↔ c ∈ A.map (·.1):=fun c => by
   rw [Dc,Bp]
   exact ⟨fun h => h.2,fun h => ⟨flags_mem.mpr (hAf c h),h⟩⟩
 have ndF:(flagsT.cps.toList.filter fun c => decide (c ∈ A.map (·.1))).Nodup:=List.Nodup.sublist Ep (by decide)
 have nd:=kQ cws cws.length
 replace nd:(wl cws).Nodup:=nd
 refine ⟨Ep,⟨_,rfl⟩,fun w hwm f hf => ?_,?_⟩
 · refine (hF f).mpr ?_
   have h2:=(lackW_mem.mp hwm).2
   by_cases e:w = first
   · subst e
     exact hA.all1 f hf
   · cases eg:dJ m w with
     | none => rw [pA e eg] at h2; cases h2
     | some g =>
       rw [oZ e eg] at h2
       exact hA.all w g (wI eg) (Be h2) f hf
 · have e1:(jJ m first A (wl cws)).length = 1 + m.countP (fun x => decide (x.2 ∈ A.map (·.1))):=by
     rw [hw] at nd ⊢
     exact aJ4 hk nd
   have e2:m.countP (fun x => decide (x.2 ∈ A.map (·.1))) = m.countP (fun x => decide (x.2 ∈ flagsT.cps.toList.filter fun c => decide (c ∈ A.map (·.1)))):=by
     congr 1
     funext x
     exact Dh.mpr (hF x.2).symm
   have e3:=cX7 m ndF
   have e4:(flagsT.cps.toList.filter fun c => decide (c ∈ A.map (·.1))).map n0 = (flagsT.cps.toList.filter fun c => decide (c ∈ A.map (·.1))).map fun c => ((ctm m c:Nat):Int):=Cj fun c hc => by
     have h1:=hct c
     have h2:=h0 c ((hF c).mp hc)
     omega
   rw [e4,mS,e1,e2,e3]
   omega
def iW (aC:Addr):Sp:=fun vs H Q E => ∃ (a b:Addr) (kvs:List (Key × V)) (f:Nat → Option Int) (cws:List (List Nat)),vs = [.ref a,.ref b] ∧ Rd H a (.dK kvs) ∧ Lk kvs f ∧ rdL H b = some ((cws.map bE).map V.str) ∧ cws.length ≤ 8 ∧ (∀ c ∈ cws,c.length ≤ 7 ∧ ∀ d ∈ c,bS d) ∧
 (∀ (r:Addr) (ps:List Addr) (fs:List Nat) (H':Hp),H r = none → Same H H' → H' r = some (.lst (ps.map V.ref)) → (∀ p ∈ ps,p ≠ r) → Lsts H H' ps ((List.range cws.length).map (kT cws fs)) → fs.length = (wl cws).length → (∀ (j:Nat) w g,(wl cws)[j]? = some w → fs[j]? = some g → g ∈ chW cws w) → (∀ c,(ctn fs c:Int) ≤ aK (bA (aK f)) c) → Q (.ref r) H') ∧
 (∀ (dx l1 l2:Addr) (rs:List Addr) (W:List Wt) (F:List Nat) (H':Hp),Same H H' → H' dx = some (xdO dx [("flags",.ref l2),("wants",.ref l1)]) → H' l1 = some (.lst (rs.map V.ref)) → WtsAt H' rs W → H' l2 = some (.lst ((F.map one).map V.str)) → LackOk cws (aK (bA (aK f))) W F → H l1 = none → H l2 = none → E (.ref aC) (some dx) H')
theorem sc_hang_all:FnScope ["locker", "words", "choices", "left", "hung", "first", "asked", "free", "wants"] ["locker", "words"] (aG cN):=⟨rfl,rfl,rfl,by decide +kernel,rfl,by decide +kernel,by decide +kernel⟩
theorem uQ {Zw Zz Zx Zy:Addr} {f:Addr} {fd:FuncData} (F:Fun K "hang_all" "hang_all" cN f fd) (G:Gs K mg Zw Zz Zx Zy) (c_choices_of:Cal P w K mg base 2 "choices_of" ["words"] kJ) (c_plain_locker:Cal P w K mg base 1 "plain_locker" ["locker"] dQ) (c_hoists_of:Cal P w K mg base 1 "hoists_of" ["words", "flags"] lX) (c_asked_from:Cal P w K mg base 1 "asked_from" ["first", "choices", "hung"] kG) (c_hang_along:Cal P w K mg base 1 "hang_along" ["flag", "asked", "hung"] kH) (c_Lack_init:xM P w K mg base 1 Zw ["self", "wants", "flags"] (fK Zw)):FnOk P w K mg base (CXr P w) 3 f fd ["locker", "words"] (iW Zw):=by
 refine F.okX sc_hang_all (fun vs H Q E h => ?_) (fun cdv A outer s H vs Q E hr h => ?_)
 · obtain ⟨a,b,kvs,f,cws,rfl,_⟩:=h; rfl
 obtain ⟨a,b,kvs,f,cws,rfl,ha,lk,hb,h8,hL,q,qe⟩:=h
 refine ⟨_,(@aD _ _ _ _ _ (@aP _ _ 2 _ _ _ _ sc_hang_all.nd (by rfl) (by exact (Or.inl rfl)) (aU c_choices_of hr (by decide) rfl (aA (mv 1) aF)) (by rfl) (by first | exact Or.inl rfl | exact Or.inr rfl)) (@aD _ _ _ _ _ (@aP _ _ 3 _ _ _ _ sc_hang_all.nd (by rfl) (by exact (Or.inr rfl)) (aU c_plain_locker hr (by decide) rfl (aA (mv 0) aF)) (by rfl) (by first | exact Or.inl rfl | exact Or.inr rfl)) (@aD _ _ _ _ _ (@aP _ _ 4 _ _ _ _ sc_hang_all.nd (by rfl) (by exact (Or.inr rfl)) oH (by rfl) (by first | exact Or.inl rfl | exact Or.inr rfl)) (@aD _ _ _ _ _ (sM (bV PassesOwn.leaving rfl (lJ (mv 2)) (aV (i:=5) sc_hang_all.nd rfl (Or.inr rfl)) (@aD _ _ _ _ _ (@aP _ _ 6 _ _ _ _ sc_hang_all.nd (by rfl) (by exact (Or.inr rfl)) (aU c_asked_from hr (by decide) rfl (aA (mv 5) (aA (mv 2) (aA (mv 4) aF)))) (by rfl) (by first | exact Or.inl rfl | exact Or.inr rfl)) (@aD _ _ _ _ _ (sM (nY (i:=7) sc_hang_all.nd rfl (Or.inl rfl) rfl (zZ (mv 6)) (gP (N:=["flag", "left"]) ["locker", "words", "choices", "left", "hung", "first", "asked", "free", "wants"] (aG cN) [none,some 3] rfl rfl rfl (fun x h => cG h) (by decide +kernel)) (by decide +kernel) rfl (by decide +kernel) (fun C s₀ H₀ ex => (aV (i:=0) (show List.Nodup (["flag", "left"]:List Str) by decide +kernel) rfl (Or.inl rfl))) (fun C s₀ H₀ ex => (kO (bB bXU (fF Bv Cq (rL (Room.u1 hr)) (mv 1) (aA (mv 0) (aA aL aF))) aL (bF _)))) (fun C s₀ H₀ ex => (mv 0)))) (@aD _ _ _ _ _ (cS (bB (dQU hr.units0) (mv 7) (cD aF) (bF _)) (@aD _ _ _ _ _ (sM (nY (i:=8) sc_hang_all.nd rfl (Or.inl rfl) rfl (lJ (mv 2)) (gP (N:=["want", "first", "asked", "hung"]) ["locker", "words", "choices", "left", "hung", "first", "asked", "free", "wants"] (aG cN) [none,some 5,some 6,some 4] rfl rfl rfl (fun x h => cG h) (by decide +kernel)) (by decide +kernel) rfl (by decide +kernel) (fun C s₀ H₀ ex => (aV (i:=0) (show List.Nodup (["want", "first", "asked", "hung"]:List Str) by decide +kernel) rfl (Or.inl rfl))) (fun C s₀ H₀ ex => (kO (PW.pt (qQ (bB (dXV hr.units0) (mv 0) (mv 1) (bF _)) (pI (bB (cZM (Room.u1 hr)) (fF Bv Cq (aJT (Room.u1 hr)) (mv 3) (aA (mv 0) aF)) (mv 2) (by rfl))))))) (fun C s₀ H₀ ex => (mv 0)))) (@aH _ _ _ (mC nX rfl rfl rfl G.c_Lack G.xm_Lack c_Lack_init hr (by decide) (aA (mv 8) (aA (eP rfl (zF (jV rfl G.s_FLAGS)) (gP (N:=["flag", "asked"]) ["locker", "words", "choices", "left", "hung", "first", "asked", "free", "wants"] (aG cN) [none,some 6] rfl rfl rfl (fun x h => cG h) (by decide +kernel)) (by decide +kernel) rfl (by decide +kernel) (fun C s₀ H₀ ex => (aV (i:=0) (show List.Nodup (["flag", "asked"]:List Str) by decide +kernel) rfl (Or.inl rfl))) (fun C s₀ H₀ ex => (kO (bB (cXI (Room.u1 hr)) (mv 0) (mv 1) (by rfl)))) (fun C s₀ H₀ ex => (mv 0))) aF))))) bO) (@aD _ _ _ _ _ (cX (Room.u1 hr) (mv 3) (bL cO (mv 7) aL (fun _ _ => rfl)) (aX kE (bP (Room.u1 hr) (mv 3) (bL cO (mv 7) aL (fun _ _ => rfl)) (fun _ _ => rfl)) aL) rfl) (@aH _ _ _ (dD (aU c_hang_along hr (by decide) rfl (aA (bL cO (mv 7) aL (fun _ _ => rfl)) (aA (mv 6) (aA (mv 4) aF)))))))))))) (@aH _ _ _ (aT (aU c_hoists_of hr (by decide) rfl (aA (mv 1) (aA (bX7 (eP rfl (lJ (mv 2)) (gP (N:=["want", "hung"]) ["locker", "words", "choices", "left", "hung", "first", "asked", "free", "wants"] (aG cN) [none,some 4] rfl rfl rfl (fun x h => cG h) (by decide +kernel)) (by decide +kernel) rfl (by decide +kernel) (fun C s₀ H₀ ex => (aV (i:=0) (show List.Nodup (["want", "hung"]:List Str) by decide +kernel) rfl (Or.inl rfl))) (fun C s₀ H₀ ex => jA) (fun C s₀ H₀ ex => (bP (Room.u1 hr) (mv 1) (mv 0) (fun _ _ => rfl))))) aF))))))))),?_⟩
 have h7:∀ c ∈ cws,c.length ≤ 7:=fun c hc => (hL c hc).1
 have hlw:(wl cws).length ≤ 56:=Bb (sR h7 _) (by omega)
 walk_at "go"
 refine ⟨b,cws,rfl,hb,h8,h7,fun ac H1 hac s1 hch => ?_⟩
 walk_at "go"
 refine ⟨a,kvs,f,rfl,ha.elim (fun e => .inl (s1 _ _ e)) (fun ⟨o,e⟩ => .inr ⟨o,s1 _ _ e⟩),lk,fun al H2 hal s2 el => ?_⟩
 walk_at "go"
 intro ah hah
 have s3:=s2.trans (aE hah (.dT []))
 have eh3:(upd H2 ah (.dT [])) ah = _:=aB
 have el3:=aE hah (.dT []) _ _ el
 generalize upd H2 ah (.dT []) = H3 at s3 eh3 el3 ⊢
 obtain ⟨ds,dl,ed,hds⟩:=hch
 rw [Bh] at ed
 have ed3:=s3 _ _ ed
 walk_at "go"
 refine sL ed3 fun o => ?_
 have fz:(upd H3 ac (.frz o (.dT (dP (wl cws) ds)))) ac = _:=aB
 have kl:(dP (wl cws) ds).length = (wl cws).length:=qP dl
 have nac:ah ≠ ac:=fun z => by have e:=s2 _ _ ed; rw [← z,hah] at e; cases e
 have nla:al ≠ ac:=fun z => by rw [z,ed3] at el3; cases el3
 have nlh:al ≠ ah:=fun z => by rw [z,eh3] at el3; cases el3
 have s13:Same H1 H3:=s3
 have hah1:H1 ah = none:=none_of s2 hah
 generalize hn0:aK (bA (aK f)) = n0
 refine aZ2 (fun i σ H' => ∃ (m:List (Wt × Nat)) (kl2:List (Key × V)) (fl:Nat → Option Int) (v5 v6 v7 v8:Option V),σ = [some (.ref a),some (.ref b),some (.ref ac),some (.ref al),some (.ref ah),v5,v6,v7,v8] ∧ (∀ p u,p ≠ ac → p ≠ al → p ≠ ah → H1 p = some u → H' p = some u) ∧ H' ac = some (.frz o (.dT (dP (wl cws) ds))) ∧ H' ah = some (.dT (gA m)) ∧ H' al = some (.dK kl2) ∧ Lk kl2 fl ∧ kl2.length ≤ 27 ∧ m.map (·.1) = (wl cws).take i ∧ (∀ v g,(v,g) ∈ m → g ∈ chW cws v) ∧ (∀ c,aK fl c = n0 c - (ctm m c:Int) ∧ 0 ≤ aK fl c))
   ⟨[],_,bA (aK f),_,_,_,_,rfl,fun p u h1 h2 h3 hu => by rw [aI h1]; exact s13 _ _ hu,fz,by rw [aI nac]; exact eh3,by rw [aI nla]; exact el3,gM _,by unfold kvL; rw [Ab]; exact iC _ _,rfl,(fun v g hv => nomatch hv),fun c => ?_⟩ (fun i σ H' _ ⟨_,_,_,_,_,_,_,_,_,e,_⟩ => e) ?_ ?_
 · rw [hn0]
   refine ⟨by show n0 c = n0 c - ((0:Nat):Int); omega,?_⟩
   rw [← hn0]
   show 0 ≤ (bA (aK f) c).getD 0
   unfold bA
   split
   · rename_i h; exact Int.le_of_lt h.2
   · exact Gq 0
 · rintro i kv bf σ H4 hkv hbf ⟨m,kl2,fl,v5,v6,v7,v8,rfl,fr,ec,eh,el4,lkl,l27,hk,hmc,hct⟩
   have hi:i < (wl cws).length:=by rw [← kl]; exact (Ad.mp hkv).1
   have ew:(wl cws)[i]? = some (wl cws)[i]:=Aa hi
   have ekv:kv = (cA (wl cws)[i],V.ref (ds[i]'(by omega))):=by
     unfold dP at hkv
     rw [Fd,ew,Aa (show i < ds.length by omega)] at hkv
     exact (Bs hkv).symm
   rw [ekv] at hbf
   have hnd:=kQ cws cws.length
   have hfw:(wl cws)[i] ∈ wl cws:=Br hi
   have htk:(wl cws).take (i + 1) = (wl cws).take i ++ [(wl cws)[i]]:=by rw [Aw,ew]; rfl
   have hfn:(wl cws)[i] ∉ m.map (·.1):=by
     rw [hk]
     intro z
     obtain ⟨j,hj,ej⟩:=Ca.mp z
     rw [Bl] at hj
     rw [List.getElem_take] at ej
     have:=(Fk hnd).mp ej
     omega
   have hml:m.length ≤ 56:=by
     have e:m.length = (m.map (·.1)).length:=(Ab _).symm
     rw [e,hk,Bl]
     omega
   have hmo:HungOk cws m:=⟨by rw [hk]; exact hnd.sublist (Ga ..),fun x hx => List.mem_of_mem_take (by rw [← hk]; exact Bc.mpr ⟨x,hx,rfl⟩)⟩
   have hcr:ChRd H4 ac cws:=⟨ds,dl,.inr ⟨o,ec⟩,fun j w d hw hd => by
     have h1:=hds j w d (Ad.mp hw).1 hw hd
     exact fr d _ (fun z => by rw [z,ed] at h1; cases h1) (fun z => by rw [z,hal] at h1; cases h1) (fun z => by rw [z,hah1] at h1; cases h1) h1⟩
   replace hbf:H4 bf = some (.tup (wV (wl cws)[i])):=hbf
   clear ekv hkv
   generalize (wl cws)[i] = first at hbf ew hfw htk hfn
   walk_at "go"
   refine ⟨bf,ac,ah,cws,m,first,rfl,hbf,hfw,hcr,eh,hmo,hml,h8,hL,fun pa A bs H5 hpa s5 ea wb hask => ?_⟩
   have el5:=s5 _ _ el4
   have hbl:bs.length = A.length:=by rw [wb.1,Ab]
   have hA27:=zW hmo hfw hL hask.toAsking
   have hdl5:=mZ el5
   walk_at "go"
   refine aJH ea fun oa => ?_
   have fza:(upd H5 pa (.frz oa (.dK (fH A bs)))) pa = _:=aB
   have nlp:al ≠ pa:=fun z => by rw [z,hpa] at el4; cases el4
   have elf:(upd H5 pa (.frz oa (.dK (fH A bs)))) al = _:=(aI nlp).trans el5
   refine gJ (n:=A.length) (fun D i ys Hc => Same (upd H5 pa (.frz oa (.dK (fH A bs)))) Hc ∧ ys = ((((A.take i).map (·.1)).filter fun c => decide (0 < aK fl c)).map one).map V.str) (bD (by omega)) (fun D hD => ⟨aE hD _,rfl⟩) (fun D i ys Hc _ r h => ⟨r.1 _ _ fza,by rw [pY hbl]; exact h⟩) (fun D ys Hc _ r => ⟨r.1 _ _ fza,pY hbl⟩) ?_ ?_
   · rintro D i2 ys Hc x H' A' B' hD hi2 ⟨sm,rfl⟩ hDc ⟨rfl,kv,hkv,rfl⟩ hA' hB'
     have eA:A[i2]? = some A[i2]:=Aa hi2
     unfold fH at hkv
     rw [Fd,eA,Aa (show i2 < bs.length by omega)] at hkv
     cases hkv
     have tk:A.take (i2 + 1) = A.take i2 ++ [A[i2]]:=by rw [Aw,eA]; rfl
     rw [tk,Ak,Ez] at hA' hB'
     generalize A[i2] = xa at hA' hB'
     have elc:=sm _ _ elf
     have hdc:=mZ elc
     dsimp only [kV]
     walk_at "go"
     refine ⟨Wk.set rfl (Wk.refl _),?_⟩
     walk_at "go"
     refine rG (z:=one xa.1) (.inl elc) ?_
     rw [lkl.val xa.1,jX]
     walk_at "go"
     refine fZ (fun he => ?_) (fun he => ?_)
     · have he':=Be he
       walk_at "go"
       refine hA' _ _ hDc ⟨aY hD sm,?_⟩
       rw [show ([xa].map (·.1)).filter (fun c => decide (0 < aK fl c)) = [xa.1] by simp [he'],List.map_append,List.map_append]
       rfl
     · have he':=Bq (Bw.mpr he)
       walk_at "go"
       refine hB' _ hDc ⟨sm,?_⟩
       rw [show ([xa].map (·.1)).filter (fun c => decide (0 < aK fl c)) = [] by simp; omega,List.append_nil]
   · rintro D ys Hc hD ⟨sm,rfl⟩ hDc _
     rw [Bh] at hDc
     have su:=pX ea (fun o v z => nomatch z) sm
     have eu:=dI (Hs:=H5) hDc (fun o v z => nomatch z)
     refine uH ?_
     unfold aQ9
     dsimp only
     generalize unf H5 Hc = H6 at su eu ⊢
     have s46:=s5.trans su
     have ea6:=su _ _ ea
     have wb6:WtsAt H6 bs (A.map (·.2)):=wb.keep fun r w h => su _ _ h
     have ec6:=s46 _ _ ec
     have eh6:=s46 _ _ eh
     have el6:=s46 _ _ el4
     have hbf6:=s46 _ _ hbf
     have fr6:∀ p u,p ≠ ac → p ≠ al → p ≠ ah → H1 p = some u → H6 p = some u:=fun p u h1 h2 h3 hu => s46 _ _ (fr p u h1 h2 h3 hu)
     have hD4:H4 D = none:=by
       have h5:H5 D = none:=by
         by_cases z:D = pa
         · rw [z,aB] at hD; cases hD
         · rw [aI z] at hD; exact hD
       exact none_of s5 h5
     clear sm hDc hD fza elf hdl5 el5
     walk_at "go"
     refine ⟨by decide,fun pe hpe => ?_⟩
     refine dQB (neg:=false) (aJ (aE hpe _) (aQ eu)) eQ (iP _) rfl ?_
     have s67:=aE hpe (.lst [])
     generalize upd H6 pe (.lst []) = H7 at s67 ⊢
     have en:∀ xs:List V,mO xs [] = xs.isEmpty:=fun xs => by cases xs <;> rfl
     rw [if_neg (by decide),en]
     cases hfr:(A.map (·.1)).filter (fun c => decide (0 < aK fl c)) with
     | nil =>
       rw [hfr] at eu
       rw [show (List.map V.str (List.map one [])).isEmpty = true from rfl]
       have ec7:=s67 _ _ ec6
       have eh7:=s67 _ _ eh6
       have ea7:=s67 _ _ ea6
       have hbf7:=s67 _ _ hbf6
       have fr7:∀ p u,p ≠ ac → p ≠ al → p ≠ ah → H1 p = some u → H7 p = some u:=fun p u h1 h2 h3 hu => s67 _ _ (fr6 p u h1 h2 h3 hu)
       clear eu wb6 hpe s67 fr6 fr ec6 eh6 ea6 hbf6 el6 su hD4 s46 hpa s5 ea wb el4 nlp
       walk_at "go"
       refine aJK ec7 ?_
       refine gJ (n:=(wl cws).length) (fun D i ys Hc => Same H7 Hc ∧ ∃ rs,ys = rs.map V.ref ∧ WtsAt Hc rs (jJ m first A ((wl cws).take i))) (bD (by omega)) (fun D hD => ⟨aE hD _,[],rfl,rfl,fun j r w hr => nomatch hr⟩) (fun D i ys Hc _ r h => ⟨r.1 _ _ ec7,by rw [kl]; exact h⟩) (fun D ys Hc _ r => ⟨r.1 _ _ ec7,kl⟩) ?_ ?_
       · rintro D i2 ys Hc x H' A' B' hD hi2 ⟨sm,rs,rfl,hwt⟩ hDc ⟨rfl,kv,bk,hkv,rfl,hbk⟩ hA' hB'
         have ew2:(wl cws)[i2]? = some (wl cws)[i2]:=Aa hi2
         have ekv:kv = (cA (wl cws)[i2],V.ref (ds[i2]'(by omega))):=by
           unfold dP at hkv
           rw [Fd,ew2,Aa (show i2 < ds.length by omega)] at hkv
           exact (Bs hkv).symm
         rw [ekv] at hbk
         replace hbk:H' bk = some (.tup (wV (wl cws)[i2])):=hbk
         have tk:(wl cws).take (i2 + 1) = (wl cws).take i2 ++ [(wl cws)[i2]]:=by rw [Aw,ew2]; rfl
         rw [tk] at hA' hB'
         clear ekv hkv ew2 tk
         generalize (wl cws)[i2] = wx at hbk hA' hB'
         have ehc:=sm _ _ eh7
         have eac:=sm _ _ ea7
         have hfc:=sm _ _ hbf7
         have yes:iN m first A wx = true → A' (.ref bk) H':=fun hb => by
           refine hA' _ _ hDc ⟨aY hD sm,rs ++ [bk],by rw [Ak]; rfl,?_⟩
           rw [oO,hb,if_pos rfl]
           refine WtsAt.keep (hwt.app (.one hbk)) fun r w h => ?_
           rw [aI (fun z => by rw [z,hDc] at h; cases h)]
           exact h
         have no:iN m first A wx = false → B' H':=fun hb => by
           refine hB' _ hDc ⟨sm,rs,rfl,?_⟩
           rw [oO,hb,if_neg (by decide),Bk]
           exact hwt
         clear hA' hB'
         walk_at "go"
         refine ⟨Wk.set rfl (Wk.refl _),?_⟩
         walk_at "go"
         refine dXZ hbk hfc ?_
         have hd2:decide ((wx.1:Int) = (first.1:Int) ∧ (wx.2:Int) = (first.2:Int)) = decide (wx = first):=Dh.mpr ⟨fun h => Prod.ext (by omega) (by omega),fun h => by rw [h]; exact ⟨rfl,rfl⟩⟩
         rw [hd2]
         by_cases e:wx = first
         · rw [Ar e]
           walk_at "go"
           exact yes (vR e)
         · rw [Av e]
           have hdd:isD H' ah = true:=by unfold isD; rw [ehc]
           walk_at "go"
           refine aQ2 (k:=cA wx) (.inl ehc) hbk ?_
           rw [jC]
           cases eg:dJ m wx with
           | none =>
             refine cJZ (.inl eac) ?_
             walk_at "go"
             exact no (pA e eg)
           | some g =>
             have hlb:=oZ (A:=A) e eg
             refine bJ6 (z:=one g) (.inl eac) ?_
             rw [jN hbl]
             refine fZ (fun hg => ?_) (fun hg => ?_)
             · walk_at "go"
               exact yes (hlb.trans hg)
             · walk_at "go"
               exact no (hlb.trans (Bw.mpr hg))
       · rintro D ys Hc hD ⟨sm,rs,rfl,hwt⟩ hDc _
         rw [Bh] at hwt
         have su:=aXB sm
         have eu:=dI (Hs:=H7) hDc (fun o v z => nomatch z)
         have hwu:WtsAt (unf H7 Hc) rs (jJ m first A (wl cws)):=hwt.keep fun r w h => dI h fun o v z => nomatch z
         refine uH ?_
         unfold aQ9
         dsimp only
         generalize unf H7 Hc = H8 at su eu hwu ⊢
         have ea8:=su _ _ ea7
         walk_at "go"
         refine cQH (fun c => if decide (c ∈ A.map (·.1)) = true then some (.str (one c)) else none) (by decide) (fun i3 c Hc2 A' B' hc sm2 hA' => ?_) (fun D2 H9 hD2 s9 hr9 => ?_)
         · have r:=hA' _ (Same.refl _)
           walk_at "go"
           refine ⟨Wk.set rfl (Wk.refl _),?_⟩
           walk_at "go"
           refine cXH (z:=one c) (neg:=false) (.inl (sm2 _ _ ea8)) ?_
           rw [if_neg (by decide),jN hbl]
           refine fZ (fun hg => ?_) (fun hg => ?_)
           · rw [if_pos hg] at r
             walk_at "go"
             exact r
           · rw [if_neg hg] at r
             exact r
         · have ef:(Str.ofString "abcdefghijklmnopqrstuvw1234").cps.toList.filterMap (fun c => if decide (c ∈ A.map (·.1)) = true then some (V.str (one c)) else none) = ((flagsT.cps.toList.filter fun c => decide (c ∈ A.map (·.1))).map one).map V.str:=by
             rw [show (Str.ofString "abcdefghijklmnopqrstuvw1234") = flagsT from rfl]
             generalize flagsT.cps.toList = L
             induction L with
             | nil => rfl
             | cons c r ih =>
               rw [Dw,Fn]
               by_cases hg:decide (c ∈ A.map (·.1)) = true
               · rw [if_pos hg,if_pos hg,Ap,Ap,← ih]
               · rw [if_neg hg,if_neg hg,← ih]
           rw [ef] at hr9
           have eD9:=s9 _ _ eu
           walk_at "go"
           refine ⟨by show 2 ≤ sizeLine; decide,fun ea hea => ⟨ea,D,D2,_,_,rfl,aB,aJ (aE hea _) (aQ eD9),aJ (aE hea _) (aQ hr9),fun dx l1 l2 H' frx hdx nde e1 e2 e3 e4 hl1 hl2 => ⟨rfl,some dx,e1,?_⟩⟩⟩
           have n1:l1 ≠ ea:=fun z => by rw [z,e1] at e3; cases e3
           have n2:l2 ≠ ea:=fun z => by rw [z,e1] at e4; cases e4
           have go9:∀ b u,H9 b = some u → (del H' ea) b = some u:=fun b u hu => by
             have nb:b ≠ ea:=fun z => by rw [z,hea] at hu; cases hu
             rw [dL nb]
             exact frx b u nb (by rw [aI nb]; exact hu)
           have hto:∀ b u,H b = some u → H9 b = some u:=fun b u hu => by
             refine s9 _ _ (su _ _ (fr7 b u (fun z => by rw [z,hac] at hu; cases hu) (fun z => ?_) (fun z => ?_) (s1 _ _ hu)))
             · have:=s1 _ _ hu
               rw [z,hal] at this
               cases this
             · have:=s1 _ _ hu
               rw [z,hah1] at this
               cases this
           refine qe dx l1 l2 rs _ _ (del H' ea) (fun b u hu => go9 _ _ (hto b u hu)) ((dL nde).trans e2) ((dL n1).trans e3) (hwu.keep fun r w h => go9 _ _ (s9 _ _ h)) ((dL n2).trans e4) ?_ (none_of hto (by rw [aI n1] at hl1; exact hl1)) (none_of hto (by rw [aI n2] at hl2; exact hl2))
           · rw [hn0]
             refine bJT (l:=(wl cws).take i) (r:=(wl cws).drop (i + 1)) (fl:=fl) ?_ hk hL hmo hfw hask hct (fun c hc => ?_)
             · have e:=List.take_append_drop (i + 1) (wl cws)
               rw [htk,Gb] at e
               exact e.symm
             · have:=List.filter_eq_nil_iff.mp hfr c hc
               rw [Bp] at this
               exact this
     | cons f0 fr0 =>
       rw [hfr] at eu
       rw [show (List.map V.str (List.map one (f0 :: fr0))).isEmpty = false from rfl]
       have hf0m:f0 ∈ (A.map (·.1)).filter (fun c => decide (0 < aK fl c)):=by rw [hfr]; exact An
       rw [Dc,Bp] at hf0m
       obtain ⟨hf0A,hf0p⟩:=hf0m
       obtain ⟨n1,hn1⟩:∃ n1,fl f0 = some n1:=by
         cases e:fl f0 with
         | none => rw [show aK fl f0 = 0 by unfold aK; rw [e]; rfl] at hf0p; omega
         | some n => exact ⟨n,rfl⟩
       have hcn1:aK fl f0 = n1:=by unfold aK; rw [hn1]; rfl
       have el7:=s67 _ _ el6
       have ea7:=s67 _ _ ea6
       have eh7:=s67 _ _ eh6
       have ec7:=s67 _ _ ec6
       have eD7:=s67 _ _ eu
       have wb7:WtsAt H7 bs (A.map (·.2)):=wb6.keep fun r w h => s67 _ _ h
       have hdl7:=mZ el7
       have at0:atI (List.map V.str (List.map one (f0 :: fr0))) 0 = some (V.str (one f0)):=eK (show (List.map V.str (List.map one (f0 :: fr0)))[0]? = some (V.str (one f0)) from rfl)
       walk_at "go"
       refine eC (aQ eD7) (v:=.str (one f0)) at0 ?_
       walk_at "go"
       refine cK (z:=one f0) (.inl el7) (by rw [lkl.val f0,hn1]; rfl) ?_
       walk_at "go"
       refine eC (aQ eD7) (v:=.str (one f0)) at0 ?_
       walk_at "go"
       refine dR (z:=one f0) el7 (bD (by omega)) ?_
       have nDl:D ≠ al:=fun z => by rw [z] at hD4; rw [hD4] at el4; cases el4
       have npl:pa ≠ al:=fun z => by rw [z] at hpa; rw [hpa] at el4; cases el4
       have nhl:ah ≠ al:=Ne.symm nlh
       have ncl:ac ≠ al:=Ne.symm nla
       have el8:(upd H7 al (.dK (cP kl2 (Sum.inr (one f0)) (V.int (n1 - 1))))) al = _:=aB
       have ea8:(upd H7 al (.dK (cP kl2 (Sum.inr (one f0)) (V.int (n1 - 1))))) pa = _:=(aI npl).trans ea7
       have eh8:(upd H7 al (.dK (cP kl2 (Sum.inr (one f0)) (V.int (n1 - 1))))) ah = _:=(aI nhl).trans eh7
       have ec8:(upd H7 al (.dK (cP kl2 (Sum.inr (one f0)) (V.int (n1 - 1))))) ac = _:=(aI ncl).trans ec7
       have eD8:(upd H7 al (.dK (cP kl2 (Sum.inr (one f0)) (V.int (n1 - 1))))) D = _:=(aI nDl).trans eD7
       have wb8:WtsAt (upd H7 al (.dK (cP kl2 (Sum.inr (one f0)) (V.int (n1 - 1))))) bs (A.map (·.2)):=wb7.keep fun r w h => by
         rw [aI (fun z => by rw [z,el7] at h; cases h)]
         exact h
       have fr8:∀ p u,p ≠ ac → p ≠ al → p ≠ ah → H1 p = some u → (upd H7 al (.dK (cP kl2 (Sum.inr (one f0)) (V.int (n1 - 1))))) p = some u:=fun p u h1 h2 h3 hu => by
         rw [aI h2]
         exact s67 _ _ (fr6 p u h1 h2 h3 hu)
       generalize upd H7 al (.dK (cP kl2 (Sum.inr (one f0)) (V.int (n1 - 1)))) = H8 at el8 ea8 eh8 ec8 eD8 wb8 fr8 ⊢
       walk_at "go"
       refine eC (aQ eD8) (v:=.str (one f0)) at0 ?_
       walk_at "go"
       refine ⟨pa,ah,cws,m,first,A,bs,f0,rfl,ea8,wb8,hask.toAsking,eh8,hmo.nd,hfn,hmc,hf0A,hml,fun m' H9 fr9 eh9 hk9 hc9 hct9 => ?_⟩
       walk_at "go"
       refine ⟨m',_,_,_,_,_,_,rfl,fun p u h1 h2 h3 hu => fr9 p u h3 (fr8 p u h1 h2 h3 hu),fr9 _ _ (Ne.symm nac) ec8,eh9,fr9 _ _ nlh el8,lkl.put f0 (n1 - 1),?_,?_,hc9,fun c => ?_⟩
       · have hv:bR kl2 (Sum.inr (one f0)) ≠ none:=by rw [lkl.val f0,hn1]; exact fun z => nomatch z
         have e:=Dq List.length (wB kl2 (Sum.inr (one f0)) (.int (n1 - 1)) hv)
         rw [Ab,Ab] at e
         omega
       · rw [hk9,hk,htk]
       · have h1:=hct c
         have h2:=hct9 c
         have h3:aK (fun d => if d = f0 then some (n1 - 1) else fl d) c = if c = f0 then n1 - 1 else aK fl c:=by
           show ((if c = f0 then some (n1 - 1) else fl c):Option Int).getD 0 = _
           by_cases z:c = f0
           · rw [if_pos z,if_pos z]; rfl
           · rw [if_neg z,if_neg z]; rfl
         rw [h3]
         by_cases z:c = f0
         · subst z
           rw [if_pos rfl] at h2 ⊢
           omega
         · rw [if_neg z] at h2 ⊢
           omega
 · rintro σ H4 ⟨m,kl2,fl,v5,v6,v7,v8,rfl,fr,ec,eh,el4,lkl,l27,hk,hmc,hct⟩
   rw [kl,Bh] at hk
   have ec5:=nS (Hs:=H3) ec (fun o v z => by rw [ed3] at z; cases z)
   have eh5:=dI (Hs:=H3) eh (fun o v z => nomatch z)
   have sh5:Same H (unf H3 H4):=fun b u hu => by
     have h1:=s1 _ _ hu
     have h4:=fr b u (fun z => by rw [z,hac] at hu; cases hu) (fun z => by rw [z,hal] at h1; cases h1) (fun z => by rw [z,hah1] at h1; cases h1) h1
     by_cases hf:∃ o v,u = .frz o v
     · obtain ⟨o',v',rfl⟩:=hf
       exact jL h4 (s13 _ _ h1)
     · exact dI h4 fun o v z => hf ⟨o,v,z⟩
   unfold aQ9
   dsimp only
   generalize unf H3 H4 = H5 at ec5 eh5 sh5 ⊢
   have hml:m.length = (wl cws).length:=by rw [← hk,Ab]
   have hnd:(m.map (·.1)).Nodup:=by rw [hk]; exact kQ cws cws.length
   walk_at "go"
   refine sL ec5 fun o2 => ?_
   have fz2:(upd H5 ac (.frz o2 (.dT (dP (wl cws) ds)))) ac = _:=aB
   have eh6:(upd H5 ac (.frz o2 (.dT (dP (wl cws) ds)))) ah = _:=(aI nac).trans eh5
   refine gJ (n:=(wl cws).length) (fun D i ys Hc => Same (upd H5 ac (.frz o2 (.dT (dP (wl cws) ds)))) Hc ∧ ys = (((m.take i).map (·.2)).map one).map V.str) (bD (by omega)) (fun D hD => ⟨aE hD _,rfl⟩) (fun D i ys Hc _ r h => ⟨r.1 _ _ fz2,by rw [kl]; exact h⟩) (fun D ys Hc _ r => ⟨r.1 _ _ fz2,kl⟩) ?_ ?_
   · rintro D i2 ys Hc x H' A' B' hD hi2 ⟨sm,rfl⟩ hDc ⟨rfl,kv,bk,hkv,rfl,hbk⟩ hA' hB'
     have ew2:(wl cws)[i2]? = some (wl cws)[i2]:=Aa hi2
     have ekv:kv = (cA (wl cws)[i2],V.ref (ds[i2]'(by omega))):=by
       unfold dP at hkv
       rw [Fd,ew2,Aa (show i2 < ds.length by omega)] at hkv
       exact (Bs hkv).symm
     rw [ekv] at hbk
     have em:m[i2]? = some m[i2]:=Aa (by omega)
     have e1:m[i2].1 = (wl cws)[i2]:=by
       have e0:(m.map (·.1))[i2]? = some (wl cws)[i2]:=by rw [hk]; exact ew2
       rw [Ag,em] at e0
       exact Bs e0
     have tk:m.take (i2 + 1) = m.take i2 ++ [m[i2]]:=by rw [Aw,em]; rfl
     rw [tk] at hA'
     replace hbk:H' bk = some (.tup ((cA m[i2].1).map kV)):=by rw [e1]; exact hbk
     have hval:bR (gA m) (cA m[i2].1) = some (.str (one m[i2].2)):=by
       have hm2:(m[i2].1,m[i2].2) ∈ m:=Ai em
       rw [jC,lL hnd hm2]
       rfl
     clear ekv hkv ew2 tk e1 em
     generalize m[i2] = mx at hbk hA' hval
     have ehc:=sm _ _ eh6
     walk_at "go"
     refine ⟨Wk.set rfl (Wk.refl _),?_⟩
     walk_at "go"
     refine yY (k:=cA mx.1) (.inl ehc) hbk hval ?_
     refine hA' _ _ hDc ⟨aY hD sm,?_⟩
     rw [Ak,Ak,Ak]
     rfl
   · rintro D ys Hc hD ⟨sm,rfl⟩ hDc _
     rw [← hml,Bh] at hDc
     have su:=pX ec5 (fun o v z => nomatch z) sm
     have eu:=dI (Hs:=H5) hDc (fun o v z => nomatch z)
     generalize unf H5 Hc = H6 at su eu ⊢
     have s06:=sh5.trans su
     refine ⟨b,D,cws,m.map (·.2),rfl,aJ s06 hb,aQ eu,h8,h7,fun r ps H7 hr s7 er hne hls => ?_⟩
     refine q r ps (m.map (·.2)) H7 (none_of s06 hr) (s06.trans s7) er hne (hls.older s06) (by rw [Ab,hml]) (fun j w g hw hg => ?_) (fun c => ?_)
     · rw [← hk,Ag] at hw
       rw [Ag] at hg
       cases em:m[j]? with
       | none => rw [em] at hw; cases hw
       | some x =>
         rw [em] at hw hg
         cases hw
         cases hg
         exact hmc x.1 x.2 (Ai em)
     · rw [hn0]
       have h1:=hct c
       have h2:ctn (m.map (·.2)) c = ctm m c:=by
         unfold ctn ctm
         rw [List.countP_map]
         rfl
       rw [h2]
       omega
def CanH (n:Nat → Int) (cws:List (List Nat)):Prop:=∃ fs:List Nat,fs.length = (wl cws).length ∧ (∀ (j:Nat) w g,(wl cws)[j]? = some w → fs[j]? = some g → g ∈ chW cws w) ∧ ∀ c,(ctn fs c:Int) ≤ n c
theorem aQ0 (x:Nat):∀ {F:List Nat},F.Nodup → (F.map fun c => if x = c then 1 else 0).sum = if x ∈ F then 1 else 0
 | [],_ => rfl
 | c :: r,h => by
   have n1:=Bx.mp h
   rw [Ap,Cp,aQ0 x n1.2]
   by_cases e:x = c
   · subst e
     rw [if_pos rfl,if_neg n1.1,if_pos An]
   · rw [if_neg e]
     by_cases m:x ∈ r
     · rw [if_pos m,if_pos (Ao _ m)]
     · rw [if_neg m,if_neg fun z => (Ba.mp z).elim e m]
theorem zT (g h:Nat → Nat):∀ F:List Nat,(F.map fun c => g c + h c).sum = (F.map g).sum + (F.map h).sum
 | [] => rfl
 | c :: r => by
   rw [Ap,Cp,zT g h r,Ap,Cp,Ap,Cp]
   omega
theorem aQE {F:List Nat} (nd:F.Nodup):∀ fs:List Nat,(F.map (ctn fs)).sum = fs.countP fun x => decide (x ∈ F)
 | [] => by
   have:∀ F:List Nat,(F.map (ctn [])).sum = 0:=fun F => by
     induction F with
     | nil => rfl
     | cons c r ih => rw [Ap,Cp,ih]; rfl
   rw [this]
   rfl
 | x :: r => by
   have e:ctn (x :: r) = fun c => ctn r c + if x = c then 1 else 0:=by
     funext c
     unfold ctn
     rw [Di]
     by_cases h:x = c
     · rw [if_pos h,if_pos (Ar h)]
     · rw [if_neg h,if_neg (by rw [Bp]; exact h)]
   rw [e,zT,aQE nd r,aQ0 x nd,Di]
   by_cases h:x ∈ F
   · rw [if_pos h,if_pos (Ar h)]
   · rw [if_neg h,if_neg (by rw [Bp]; exact h)]
theorem pC {α β:Type} {p:α → Bool} {q:β → Bool}:∀ (L:List α) (M:List β),L.length = M.length → (∀ (j:Nat) a b,L[j]? = some a → M[j]? = some b → p a = true → q b = true) → L.countP p ≤ M.countP q
 | [],_,_,_ => Ct _
 | a :: L,[],h,_ => by cases h
 | a :: L,b :: M,h,hpq => by
   rw [Di,Di]
   have ih:=pC L M (by simpa using h) fun j x y hx hy => hpq (j + 1) x y hx hy
   have h0:=hpq 0 a b rfl rfl
   by_cases pa:p a = true
   · rw [if_pos pa,if_pos (h0 pa)]; omega
   · rw [if_neg pa]; omega
theorem wG {g h:Nat → Int} (e:∀ c,g c ≤ h c):∀ F:List Nat,(F.map g).sum ≤ (F.map h).sum
 | [] => Gq _
 | c :: r => by
   rw [Ap,Cp,Ap,Cp]
   have:=wG e r
   have:=e c
   omega
theorem aZU {W L:List Wt} (s:W.Sublist L):W.length ≤ L.countP fun w => decide (w ∈ W):=by
 have h:=s.countP_le (p:=fun w => decide (w ∈ W))
 have e:W.countP (fun w => decide (w ∈ W)) = W.length:=List.countP_eq_length.mpr fun w hw => Ar hw
 omega
theorem aQG {cws:List (List Nat)} {n:Nat → Int} {W:List Wt} {F:List Nat} (h:LackOk cws n W F):F.Nodup:=by
 obtain ⟨p,rfl⟩:=h.flags
 exact List.Nodup.sublist Ep (by decide)
theorem vL {cws:List (List Nat)} {n:Nat → Int} {W:List Wt} {F:List Nat} (h:LackOk cws n W F):¬ CanH n cws:=by
 rintro ⟨fs,hl,hch,hct⟩
 have h1:=aZU h.sub
 have h2:((wl cws).countP fun w => decide (w ∈ W)) ≤ fs.countP fun x => decide (x ∈ F):=pC _ _ hl.symm fun j w g hw hg hp => Ar (h.all w (Be hp) g (hch j w g hw hg))
 have h3:=aQE (aQG h) fs
 have h4:=wG hct F
 rw [mS (ctn fs) F] at h4
 have h5:=h.few
 omega
def oU:Sp:=fun vs H Q _ => ∃ (a b:Addr) (kvs:List (Key × V)) (f:Nat → Option Int) (cws:List (List Nat)),vs = [.ref a,.ref b] ∧ Rd H a (.dK kvs) ∧ Lk kvs f ∧ rdL H b = some ((cws.map bE).map V.str) ∧ cws.length ≤ 8 ∧ (∀ c ∈ cws,c.length ≤ 7 ∧ ∀ d ∈ c,bS d) ∧
 (CanH (aK (bA (aK f))) cws → ∀ H',Same H H' → Q .non H') ∧ (∀ (t l1 l2:Addr) (rs:List Addr) (W:List Wt) (F:List Nat) (H':Hp),Same H H' → H t = none → H' t = some (.tup [.ref l1,.ref l2]) → H' l1 = some (.lst (rs.map V.ref)) → WtsAt H' rs W → H' l2 = some (.lst ((F.map one).map V.str)) → LackOk cws (aK (bA (aK f))) W F → H l1 = none → H l2 = none → Q (.ref t) H')
theorem sc_lack_of:FnScope ["locker", "words", "lack"] ["locker", "words"] (aG fU):=⟨rfl,rfl,rfl,by decide +kernel,rfl,by decide +kernel,by decide +kernel⟩
theorem zC {Zw Zz Zx Zy:Addr} {f:Addr} {fd:FuncData} (F:Fun K "lack_of" "lack_of" fU f fd) (G:Gs K mg Zw Zz Zx Zy) (c_hang_all:tV P w K mg base 3 "hang_all" ["locker", "words"] (iW Zw)):FnOk P w K mg base CX0 4 f fd ["locker", "words"] oU:=by
 refine F.ok sc_lack_of (fun vs H Q E h => ?_) (fun cdv A outer s H vs Q E hr h => ?_)
 · obtain ⟨a,b,kvs,f,cws,rfl,_⟩:=h; rfl
 obtain ⟨a,b,kvs,f,cws,rfl,ha,lk,hb,h8,hL,q1,q2⟩:=h
 refine ⟨_,(@aD _ _ _ _ _ (aZ6 (i:=2) rfl rfl rfl sc_lack_of.nd rfl rfl rfl G.c_Lack (fun pins R => (@aH _ _ _ (dD (aQV c_hang_all (oV rfl) hr (by decide) rfl (aA (mv 0) (aA (mv 1) aF)))))) (fun pins ea => (@aH _ _ _ (aT (iT (aA (lZ (K:=K) rfl (mv 2) rfl) (aA (lZ (K:=K) rfl (mv 2) rfl) aF))))))) (@aH _ _ _ (aT dA))),?_⟩
 walk_at "go"
 refine ⟨a,b,kvs,f,cws,rfl,ha,lk,hb,h8,hL,fun rh ps fs H1 hrh s1 er hne hls hfl hch hct => ?_,fun dx l1 l2 rs W F H1 s1 ed el1 hwt el2 hlo hn1 hn2 => ⟨G.m_Lack,fun ea hea => ?_⟩⟩
 · walk_at "go"
   exact q1 ⟨fs,hfl,hch,hct⟩ _ s1
 · have k2:=aE hea (mQ ea (.ref Zw) (some dx))
   have e2:(upd H1 ea (mQ ea (.ref Zw) (some dx))) ea = _:=aB
   have ed2:=k2 _ _ ed
   generalize upd H1 ea (mQ ea (.ref Zw) (some dx)) = H2 at k2 e2 ed2 ⊢
   walk_at "go"
   refine ⟨ea,Zw,dx,_,_,rfl,.inl e2,ed2,G.xx_Lack,G.xn_Lack_wants,rfl,?_⟩
   walk_at "go"
   refine ⟨ea,Zw,dx,_,_,rfl,.inl e2,ed2,G.xx_Lack,G.xn_Lack_flags,rfl,?_⟩
   walk_at "go"
   refine ⟨by show 2 ≤ sizeLine; decide,fun t ht => ?_⟩
   have s3:=k2.trans (aE ht (.tup [.ref l1,.ref l2]))
   exact q2 t l1 l2 rs W F _ (s1.trans s3) (none_of (s1.trans k2) ht) aB (s3 _ _ el1) ⟨hwt.1,fun j p w hp hw => s3 _ _ (hwt.2 j p w hp hw)⟩ (s3 _ _ el2) hlo hn1 hn2
theorem jU {ks:List Nat} {j:Nat} {x:V} (h:(ks.map fun k => V.int ((k:Nat):Int))[j]? = some x):∃ k,ks[j]? = some k ∧ x = .int ((k:Nat):Int):=by
 rw [Ag] at h
 cases e:ks[j]? with
 | none => rw [e] at h; cases h
 | some k => rw [e] at h; cases h; exact ⟨k,rfl,rfl⟩
def cF:List Nat → Nat → List (List Nat)
 | _,0 => [[]]
 | ks,m + 1 => (List.range ks.length).flatMap fun j => (cF (ks.drop (j + 1)) m).map fun l => ks.getD j 0 :: l
theorem iK (ks:List Nat):cF ks 0 = [[]]:=by cases ks <;> rfl
theorem iF (ks:List Nat) (m:Nat):cF ks (m + 1) = (List.range ks.length).flatMap fun j => (cF (ks.drop (j + 1)) m).map fun l => ks.getD j 0 :: l:=by rw [cF]
theorem wC {x:Nat} {l:List Nat}:∀ {ks:List Nat},(x :: l).Sublist ks → ∃ j,j < ks.length ∧ ks.getD j 0 = x ∧ l.Sublist (ks.drop (j + 1))
 | [],h => by cases h
 | k :: ks,h => by
   rcases List.sublist_cons_iff.mp h with e | ⟨r,e,hr⟩
   · obtain ⟨j,h1,h2,h3⟩:=wC e
     exact ⟨j + 1,Nat.succ_lt_succ h1,h2,h3⟩
   · cases e
     exact ⟨0,Nat.succ_pos _,rfl,hr⟩
theorem mem_combs:∀ {m:Nat} {ks l:List Nat},l ∈ cF ks m ↔ l.Sublist ks ∧ l.length = m
 | 0,ks,l => by
   rw [iK,As]
   constructor
   · rintro rfl
     exact ⟨List.nil_sublist _,rfl⟩
   · exact fun h => List.eq_nil_of_length_eq_zero h.2
 | m + 1,ks,l => by
   rw [iF,Fp]
   constructor
   · rintro ⟨j,hj,hl⟩
     rw [Cc] at hj
     obtain ⟨l',h1,rfl⟩:=Bc.mp hl
     obtain ⟨h2,h3⟩:=mem_combs.mp h1
     refine ⟨?_,by rw [Az,h3]⟩
     have e:ks.getD j 0 :: ks.drop (j + 1) = ks.drop j:=by
       rw [Ac,Aa hj]
       exact (List.drop_eq_getElem_cons hj).symm
     have h4:(ks.getD j 0 :: l').Sublist (ks.getD j 0 :: ks.drop (j + 1)):=h2.cons_cons _
     rw [e] at h4
     exact h4.trans (List.drop_sublist _ _)
   · rintro ⟨h1,h2⟩
     cases l with
     | nil => cases h2
     | cons x l =>
       obtain ⟨j,h3,h4,h5⟩:=wC h1
       exact ⟨j,List.mem_range.mpr h3,List.mem_map.mpr ⟨l,mem_combs.mpr ⟨h5,by simpa using h2⟩,by rw [h4]⟩⟩
theorem mV {α β:Type} (f:α → List β) (b:Nat):∀ (L:List α),(∀ x ∈ L,(f x).length ≤ b) → (L.flatMap f).length ≤ L.length * b
 | [],_ => Ct _
 | x :: r,h => by
   rw [Fh,Aj,Az,Nat.succ_mul]
   have h1:=mV f b r fun y hy => h y (Ao _ hy)
   have h2:=h x An
   omega
theorem gU:∀ {m:Nat} {ks:List Nat},ks.length ≤ 6 → (cF ks m).length ≤ 6 ^ m
 | 0,ks,_ => by rw [iK]; decide
 | m + 1,ks,h => by
   rw [iF]
   refine Bb (mV _ (6 ^ m) _ fun j _ => ?_) ?_
   · rw [Ab]
     exact gU (by rw [Ck]; omega)
   · rw [Bz,Nat.pow_succ,Nat.mul_comm]
     exact Nat.mul_le_mul_left _ h
theorem bXK (ks:List Nat) (j:Nat):(ks.map fun k => V.int ((k:Nat):Int)).drop j = ((ks.drop j).map fun k => V.int ((k:Nat):Int)):=(List.map_drop ..).symm
theorem aZV {xs:List V} {k:Nat}:mR xs (some ((k:Nat):Int)) none = xs.drop k:=by
 unfold mR
 show (xs.drop (if ((k:Nat):Int) < 0 then (((k:Nat):Int) + (xs.length:Int)).toNat else min ((k:Nat):Int).toNat xs.length)).take (xs.length - (if ((k:Nat):Int) < 0 then (((k:Nat):Int) + (xs.length:Int)).toNat else min ((k:Nat):Int).toNat xs.length)) = _
 rw [if_neg (by omega),Cw]
 by_cases h:k ≤ xs.length
 · rw [Nat.min_eq_left h,Bm (by rw [Ck]; omega)]
 · rw [Gi (by omega),List.drop_length,List.take_nil,List.drop_eq_nil_of_le (by omega)]
def mH (ks:List Nat) (m i:Nat):List (List Nat):=(List.range i).flatMap fun j => (cF (ks.drop (j + 1)) m).map fun l => ks.getD j 0 :: l
theorem uT (ks:List Nat) (m i:Nat):mH ks m (i + 1) = mH ks m i ++ (cF (ks.drop (i + 1)) m).map fun l => ks.getD i 0 :: l:=by
 unfold mH
 rw [Cb,Dy,Fh,List.flatMap_nil,Bk]
theorem dZP {m:Nat} (h:m ≤ 7):6 ^ m ≤ 279936:=Bb (Nat.pow_le_pow_right (by decide) h) (by decide)
theorem yA {ks:List Nat} {m i:Nat} (h:ks.length ≤ 6):(mH ks m i).length ≤ i * 6 ^ m:=by
 have:=mV (fun j => (cF (ks.drop (j + 1)) m).map fun l => ks.getD j 0 :: l) (6 ^ m) (List.range i) fun j _ => by
   rw [Ab]
   exact gU (by rw [Ck]; omega)
 rwa [Bz] at this
theorem zG {ps:List Addr} {j:Nat} {x:V} (h:(ps.map V.ref)[j]? = some x):∃ p,ps[j]? = some p ∧ x = .ref p:=by
 rw [Ag] at h
 cases e:ps[j]? with
 | none => rw [e] at h; cases h
 | some p => rw [e] at h; cases h; exact ⟨p,rfl,rfl⟩
theorem yN (k:Nat) (L:List (List Nat)):(List.range L.length).map (fun j => V.int ((k:Nat):Int) :: ((L.getD j []).map fun k => V.int ((k:Nat):Int))) = (L.map fun l => k :: l).map fun l => (l.map fun k => V.int ((k:Nat):Int)):=by
 rw [Ci]
 have h:∀ n,n ≤ L.length → (List.range n).map (fun j => V.int ((k:Nat):Int) :: ((L.getD j []).map fun k => V.int ((k:Nat):Int))) = (L.take n).map ((fun l => (l.map fun k => V.int ((k:Nat):Int))) ∘ fun l => k :: l):=fun n => by
   induction n with
   | zero => intro _; rfl
   | succ n ih =>
     intro hn
     have e:L[n]? = some L[n]:=Aa (by omega)
     rw [Cb,Ak,ih (by omega),Aw,e,Ak]
     refine Dq _ ?_
     show [V.int ((k:Nat):Int) :: ((L.getD n []).map fun k => V.int ((k:Nat):Int))] = [((k :: L[n]).map fun k => V.int ((k:Nat):Int))]
     rw [Ac,e]
     rfl
 have r:=h L.length (Ah _)
 rwa [Bh] at r
def cJ (n:Nat):Sp:=fun vs H Q _ => ∃ (b:Addr) (ks:List Nat) (m:Nat),vs = [.ref b,.int ((m:Nat):Int)] ∧ rdL H b = some (ks.map fun k => V.int ((k:Nat):Int)) ∧ ks.length ≤ 6 ∧ m < n ∧ m ≤ 7 ∧
 ∀ (r:Addr) (ps:List Addr) (H':Hp),H r = none → Same H H' → H' r = some (.lst (ps.map V.ref)) → Lsts H H' ps ((cF ks m).map fun l => (l.map fun k => V.int ((k:Nat):Int))) → (∀ p ∈ ps,p ≠ r) → Q (.ref r) H'
theorem mT:∀ vs H Q E,¬ cJ 0 vs H Q E:=fun vs H Q E ⟨_,_,_,_,_,_,h,_⟩ => Nat.not_lt_zero _ h
theorem sc_rising_lists:FnScope ["numbers", "many", "lists", "at", "number", "behind"] ["numbers", "many"] (aG cE):=⟨rfl,rfl,rfl,by decide +kernel,rfl,by decide +kernel,by decide +kernel⟩
theorem nP {Zw Zz Zx Zy:Addr} {f:Addr} {fd:FuncData} {d n:Nat} (F:Fun K "rising_lists" "rising_lists" cE f fd) (G:Gs K mg Zw Zz Zx Zy) (c_rising_lists:Cal P w K mg base (d + 1) "rising_lists" ["numbers", "many"] (cJ n)):FnOk P w K mg base CX0 (d + 2) f fd ["numbers", "many"] (cJ (n + 1)):=by
 refine F.ok sc_rising_lists (fun vs H Q E h => ?_) (fun cdv A outer s H vs Q E hr h => ?_)
 · obtain ⟨b,ks,m,rfl,_⟩:=h; rfl
 obtain ⟨b,ks,m,rfl,hb,h6,hmn,h7,q⟩:=h
 refine ⟨_,(@aD _ _ _ _ _ (cS (bB xC (mv 1) aL (bF _)) (@aH _ _ _ (aT (cD (aA (cD aF) aF)))) bO) (@aD _ _ _ _ _ (@aP _ _ 2 _ _ _ _ sc_rising_lists.nd (by rfl) (by exact (Or.inl rfl)) (cD aF) (by rfl) (by first | exact Or.inl rfl | exact Or.inr rfl)) (@aD _ _ _ _ _ (bV Bf rfl (uN rfl G.b_enumerate (aA (mv 0) aF)) (iL (K:=K) (i:=3) (j:=4) (by rfl) (by rfl) sc_rising_lists.nd (by rfl) (by exact (Or.inl rfl)) (by exact Or.inl rfl) (by rfl) (by exact (Or.inr rfl)) (by exact Or.inl rfl)) (@aD _ _ _ _ _ (@aP _ _ 5 _ _ _ _ sc_rising_lists.nd (by rfl) (by exact (Or.inl rfl)) (aU c_rising_lists hr (Ah _) rfl (aA (pT dXP (mv 0) (lW (aX cH (mv 3) aL)) bJW) (aA (aX kE (mv 1) aL) aF))) (by rfl) (by first | exact Or.inl rfl | exact Or.inr rfl)) (@aH _ _ _ (dD (fD Ce Do Dp uY (mv 2) (aA (eP rfl (cB (mv 5)) (gP (N:=["rest", "number"]) ["numbers", "many", "lists", "at", "number", "behind"] (aG cE) [none,some 4] rfl rfl rfl (fun x h => cG h) (by decide +kernel)) (by decide +kernel) rfl (by decide +kernel) (fun C s₀ H₀ ex => (aV (i:=0) (show List.Nodup (["rest", "number"]:List Str) by decide +kernel) rfl (Or.inl rfl))) (fun C s₀ H₀ ex => jA) (fun C s₀ H₀ ex => (aX cH (cD (aA (mv 1) aF)) (mv 0)))) aF)))))) (@aH _ _ _ (aT (mv 2)))))),?_⟩
 cases m with
 | zero =>
   walk_at "go"
   rw [show decide (((0:Nat):Int) = 0) = true from rfl]
   walk_at "go"
   refine ⟨by decide,fun p hp => ?_⟩
   have s1:=aE hp (.lst [])
   have e1:(upd H p (.lst [])) p = some (.lst ((([]:List Nat)).map fun k => V.int ((k:Nat):Int))):=aB
   generalize upd H p (.lst []) = H1 at s1 e1 ⊢
   walk_at "go"
   refine ⟨by show 1 ≤ sizeLine; decide,fun r hr => ?_⟩
   have s2:=aE hr (.lst [.ref p])
   have npr:p ≠ r:=fun z => by rw [z,hr] at e1; cases e1
   refine q r [p] _ (none_of s1 hr) (s1.trans s2) aB ?_ (fun z hz => by rw [As.mp hz]; exact npr)
   rw [iK]
   exact Lsts.snoc (ps:=[]) (fs:=[]) .nil hp (s2 _ _ e1)
 | succ m =>
   have h6m:=dZP (m:=m + 1) h7
   rw [Nat.pow_succ] at h6m
   walk_at "go"
   rw [show decide (((m + 1:Nat):Int) = 0) = false from Av (by omega)]
   walk_at "go"
   refine ⟨by decide,fun p hp => ?_⟩
   have s1:=aE hp (.lst [])
   have e1:(upd H p (.lst [])) p = some (.lst (([]:List Addr).map V.ref)):=aB
   generalize upd H p (.lst []) = H1 at s1 e1 ⊢
   have hb1:=aJ s1 hb
   walk_at "go"
   refine aQW (xs:=(ks.map fun k => V.int ((k:Nat):Int))) (fun i σ H' => ∃ (ps:List Addr) (v3 v4 v5:Option V),σ = [some (.ref b),some (.int ((m + 1:Nat):Int)),some (.ref p),v3,v4,v5] ∧ Same H H' ∧ H' p = some (.lst (ps.map V.ref)) ∧ Lsts H H' ps ((mH ks m i).map fun l => (l.map fun k => V.int ((k:Nat):Int))) ∧ ∀ z ∈ ps,z ≠ p)
     ⟨[],_,_,_,rfl,s1,e1,.nil,fun z hz => nomatch hz⟩ (fun i σ H' _ ⟨_,_,_,_,_,e,_⟩ => aJ e hb) ?_ ?_
   · rintro i x σ H2 pt hx ⟨ps,v3,v4,v5,rfl,s2,e2,ls,nd⟩ hpt
     obtain ⟨k,ek,rfl⟩:=jU hx
     have hi:i < ks.length:=(Ad.mp ek).1
     have hps:ps.length = (mH ks m i).length:=by rw [ls.1,Ab]
     have hpl:=yA (m:=m) (i:=i) h6
     have hpl2:i * 6 ^ m ≤ 5 * 6 ^ m:=Nat.mul_le_mul_right _ (by omega)
     have s3:=s2.trans (aE hpt (.tup [.int ((0 + i:Nat):Int),.int ((k:Nat):Int)]))
     have s23:=aE hpt (.tup [.int ((0 + i:Nat):Int),.int ((k:Nat):Int)])
     have et3:(upd H2 pt (.tup [.int ((0 + i:Nat):Int),.int ((k:Nat):Int)])) pt = some (.tup [.int ((0 + i:Nat):Int),.int ((k:Nat):Int)]):=aB
     generalize upd H2 pt (.tup [.int ((0 + i:Nat):Int),.int ((k:Nat):Int)]) = H3 at s3 s23 et3 ⊢
     have hb3:=aJ s3 hb
     have tt3:=jY et3
     walk_at "go"
     rw [show ((0 + i:Nat):Int) + 1 = ((i + 1:Nat):Int) by omega]
     intro ra hra
     rw [aZV,bXK]
     have s4:=aE hra (.lst ((ks.drop (i + 1)).map fun k => V.int ((k:Nat):Int)))
     have e4:rdL (upd H3 ra (.lst ((ks.drop (i + 1)).map fun k => V.int ((k:Nat):Int)))) ra = some ((ks.drop (i + 1)).map fun k => V.int ((k:Nat):Int)):=eQ
     generalize upd H3 ra (.lst ((ks.drop (i + 1)).map fun k => V.int ((k:Nat):Int))) = H4 at s4 e4 ⊢
     have s24:=s23.trans s4
     walk_at "go"
     rw [show ((m + 1:Nat):Int) - 1 = ((m:Nat):Int) by omega]
     refine ⟨ra,ks.drop (i + 1),m,rfl,e4,by rw [Ck]; omega,by omega,by omega,fun rb qs H5 hrb s5 e5 lq nq => ?_⟩
     have s25:=s24.trans s5
     have rb5:=aQ e5
     have rp5:=aQ (s25 _ _ e2)
     have hqs:qs.length = (cF (ks.drop (i + 1)) m).length:=by rw [lq.1,Ab]
     have hql:(cF (ks.drop (i + 1)) m).length ≤ 6 ^ m:=gU (by rw [Ck]; omega)
     walk_at "go"
     refine bJF (fun j => V.int ((k:Nat):Int) :: (((cF (ks.drop (i + 1)) m).getD j []).map fun k => V.int ((k:Nat):Int))) rb5 (by rw [Ab,hqs]; exact Nat.lt_of_le_of_lt (Bb hql (Bb (Nat.le_mul_of_pos_right _ (by decide:0 < 6)) h6m)) (by decide)) (fun j x Hc A B hx sm hA => ?_) (fun D Hd us hD sd eD hul lu nu => ?_)
     · obtain ⟨u,eu,rfl⟩:=zG hx
       have hj:j < (cF (ks.drop (i + 1)) m).length:=by rw [← hqs]; exact (Ad.mp eu).1
       obtain ⟨l,el⟩:∃ l,(cF (ks.drop (i + 1)) m)[j]? = some l:=⟨_,Aa hj⟩
       have hu:=sm _ _ (lq.2 j u (l.map fun k => V.int ((k:Nat):Int)) eu (by rw [Ag,el]; rfl)).2
       have hll:l.length = m:=(mem_combs.mp (Ai el)).2
       have hgl:(cF (ks.drop (i + 1)) m).getD j [] = l:=by rw [Ac,el]; rfl
       rw [hgl] at hA
       walk_at "go"
       refine ⟨Wk.set rfl (Wk.refl _),?_⟩
       walk_at "go"
       refine ⟨by show 1 ≤ sizeLine; decide,fun p6 hp6 => ?_⟩
       have s6:=aE hp6 (.lst [V.int ((k:Nat):Int)])
       have e6:(upd Hc p6 (.lst [V.int ((k:Nat):Int)])) p6 = some (.lst [V.int ((k:Nat):Int)]):=aB
       have hu6:=s6 _ _ hu
       generalize upd Hc p6 (.lst [V.int ((k:Nat):Int)]) = H6 at s6 e6 hu6 ⊢
       refine lF (bG e6) (bG hu6) (bI (by rw [Ab]; show 1 + _ ≤ _; omega)) fun p7 hp7 => ?_
       exact hA p7 _ (none_of s6 hp7) (s6.trans (aE hp7 _)) aB
     · rw [Ab,hqs,yN] at lu
       rw [Ab] at hul
       have s2d:=s25.trans sd
       have e2d:=s2d _ _ e2
       have npD:∀ z ∈ us,z ≠ p:=fun z hz zp => by
         obtain ⟨g,_,h1,_⟩:=lu.mem hz
         rw [zp,s25 _ _ e2] at h1
         cases h1
       have hek:ks.getD i 0 = k:=by rw [Ac,ek]; rfl
       walk_at "go"
       refine cQS (bG e2d) (bG eD) (Bb (by rw [Ab,Ab,hps,hul,hqs]; omega:_ ≤ 279936) (by decide)) ?_
       walk_at "go"
       refine ⟨ps ++ us,_,_,_,rfl,aY hp (s2.trans s2d),by rw [Ak]; exact aB,?_,fun z hz => ?_⟩
       · rw [uT,Ak,hek]
         refine Lsts.put ?_ fun z hz => ?_
         · exact (ls.keep s2d).app (lu.older (s2.trans s25))
         · rcases Bi.mp hz with e | e
           · exact nd z e
           · exact npD z e
       · rcases Bi.mp hz with e | e
         · exact nd z e
         · exact npD z e
   · rintro σ H2 ⟨ps,v3,v4,v5,rfl,s2,e2,ls,nd⟩
     walk_at "go"
     refine q p ps H2 hp s2 e2 ?_ nd
     rw [iF]
     rw [Ab] at ls
     exact ls
theorem pG {α:Type} (F:α → V):∀ xs:List α,(List.range xs.length).filterMap (fun j => (xs[j]?).map F) = xs.map F:=fun xs => by
 have h:∀ n,n ≤ xs.length → (List.range n).filterMap (fun j => (xs[j]?).map F) = (xs.take n).map F:=fun n => by
   induction n with
   | zero => intro _; rfl
   | succ n ih =>
     intro hn
     have e:xs[n]? = some xs[n]:=Aa (by omega)
     rw [dN (y:=F xs[n]) (by rw [e]; rfl),ih (by omega),Aw,e,Ak]
     rfl
 have r:=h xs.length (Ah _)
 rw [Bh] at r
 exact r
def dJB:Option (List Nat) → Str
 | none => ⟨#[45]⟩
 | some cs => bE cs
def HalV (H:Hp) (v:V):Option (List Nat) → Prop
 | none => v = .non
 | some cs => ∃ p,v = .ref p ∧ H p = some (.lst ((cs.map one).map V.str))
def dO (hs:List (Option (List Nat))):Prop:=∀ cs,some cs ∈ hs → cI (cs.map one) = true
structure HalsAt (H:Hp) (vs:List V) (hs:List (Option (List Nat))):Prop where
 len:vs.length = hs.length
 val:∀ (j:Nat) v h,vs[j]? = some v → hs[j]? = some h → HalV H v h
theorem HalV.keep {H H':Hp} {v:V} {h:Option (List Nat)} (a:HalV H v h) (s:∀ p xs,H p = some (.lst xs) → v = .ref p → H' p = some (.lst xs)):HalV H' v h:=by
 cases h with
 | none => exact a
 | some cs =>
   obtain ⟨p,e,hp⟩:=a
   exact ⟨p,e,s p _ hp e⟩
theorem HalsAt.keep {H H':Hp} {vs:List V} {hs:List (Option (List Nat))} (a:HalsAt H vs hs) (s:Same H H'):HalsAt H' vs hs:=⟨a.len,fun j v h hv hh => (a.val j v h hv hh).keep fun p xs hp _ => s _ _ hp⟩
theorem HalsAt.nil {H:Hp}:HalsAt H [] []:=⟨rfl,fun j v h hv => nomatch hv⟩
theorem HalsAt.snoc {H:Hp} {vs:List V} {hs:List (Option (List Nat))} {v:V} {h:Option (List Nat)} (a:HalsAt H vs hs) (b:HalV H v h):HalsAt H (vs ++ [v]) (hs ++ [h]):=by
 refine ⟨by rw [Aj,Aj,a.len]; rfl,fun j x g hx hg => ?_⟩
 by_cases hj:j < vs.length
 · rw [Au hj] at hx
   rw [Au (by rw [← a.len]; exact hj)] at hg
   exact a.val j x g hx hg
 · have e:j = vs.length:=by
     have:=(Ad.mp hx).1
     rw [Aj] at this
     have:j < vs.length + 1:=this
     omega
   subst e
   rw [Ay (Ah _),Gg] at hx
   rw [a.len,Ay (Ah _),Gg] at hg
   cases hx
   cases hg
   exact b
theorem HalV.ne {H:Hp} {r:Addr} {vs:List V} {h:Option (List Nat)} {j:Nat} {v:V} (hr:H r = some (.lst vs)) (hj:vs[j]? = some v) (a:HalV H v h):v ≠ .ref r:=fun z => by
 cases h with
 | none => rw [show v = .non from a] at z; cases z
 | some cs =>
   obtain ⟨p,e,hp⟩:=a
   rw [z] at e
   cases e
   rw [hr] at hp
   cases hp
   obtain ⟨u,_,hu⟩:=kM hj
   rw [z] at hu
   cases hu
theorem HalsAt.put {H:Hp} {r:Addr} {vs us:List V} {hs:List (Option (List Nat))} (hr:H r = some (.lst vs)) (a:HalsAt H vs hs):HalsAt (upd H r (.lst us)) vs hs:=⟨a.len,fun j v h hv hh => (a.val j v h hv hh).keep fun p xs hp e => by
 rw [aI (fun z => (a.val j v h hv hh).ne hr hv (by rw [← z]; exact e))]
 exact hp⟩
theorem HalsAt.at {H:Hp} {vs:List V} {hs:List (Option (List Nat))} (a:HalsAt H vs hs) {j:Nat} {v:V} (hv:vs[j]? = some v):∃ h,hs[j]? = some h ∧ HalV H v h:=by
 have hj:j < hs.length:=by rw [← a.len]; exact (Ad.mp hv).1
 exact ⟨hs[j],Aa hj,a.val j v _ hv (Aa hj)⟩
theorem cQA {K:PySem.W.Frag} {g:TG} {tests:TT} {te:TE} {σ0:St} {H1:Hp} {Q:VK} {a:Addr} {xs:List V} {hs:List (Option (List Nat))} (ha:rdL H1 a = some xs) (hl:xs.length < sizeLine) (hx:xs.length = hs.length)
   (step:∀ (i:Nat) x h Hc (A:VK) (B:Hp → Prop),xs[i]? = some x → hs[i]? = some h → Same H1 Hc → (∀ v Hd,Same Hc Hd → HalV Hd v h → (∀ p,v = .ref p → Hc p = none) → A v Hd) →
     g x σ0 Hc fun σ2 H2 => Wk σ0 σ2 ∧ tests σ2 H2 fun b H3 => if b = true then te σ2 H3 A else B H3)
   (fin:∀ D Hd vs,H1 D = none → Same H1 Hd → Hd D = some (.lst vs) → HalsAt Hd vs hs → (∀ p,V.ref p ∈ vs → H1 p = none) → Q (.ref D) Hd):eT g tests te σ0 Q (Itl K a) H1:=by
 refine gJ (n:=xs.length) (fun D i ys Hc => Same H1 Hc ∧ HalsAt Hc ys (hs.take i) ∧ ∀ p,V.ref p ∈ ys → H1 p = none) hl (fun D hD => ⟨aE hD _,.nil,fun p hp => nomatch hp⟩)
   (fun D i ys Hc _ r h => ⟨xs,xs[i],aW (aJ r.1 ha),by simp [h]⟩) (fun D ys Hc _ r => ⟨xs,aW (aJ r.1 ha),Nat.le_refl _⟩) ?_ ?_
 · rintro D i ys Hc x H' A B hD hi ⟨sm,at',fr⟩ hDc ⟨rfl,hz⟩ ha' hb
   have hi2:i < hs.length:=by omega
   have eh:hs[i]? = some hs[i]:=Aa hi2
   refine step i x hs[i] H' A B (hz xs (aW (aJ sm ha))) eh sm (fun v Hd sd hv hn => ?_)
   refine ha' _ _ (sd _ _ hDc) ⟨aY hD (sm.trans sd),?_,fun p hp => ?_⟩
   · rw [Aw,eh]
     refine HalsAt.snoc ((at'.keep sd).put (sd _ _ hDc)) (hv.keep fun p zs hp e => ?_)
     rw [aI (fun z => by have:=hn p e; rw [z,hDc] at this; cases this)]
     exact hp
   · rcases Bi.mp hp with e | e
     · exact fr p e
     · exact none_of sm (hn p (As.mp e).symm)
 · rintro D ys Hc hD ⟨sm,at',fr⟩ hDc _
   rw [hx,Bh] at at'
   exact fin D Hc ys hD sm hDc at' fr
theorem bXZ {f:Nat → Option Int} (hf0:∀ c,0 ≤ aK f c) (c:Nat):aK (bA (aK f)) c ≤ aK f c:=by
 show (bA (aK f) c).getD 0 ≤ _
 unfold bA
 split
 · exact Gq _
 · exact hf0 c
theorem LackOk.plain {cws:List (List Nat)} {f:Nat → Option Int} {W:List Wt} {F:List Nat} (hf0:∀ c,0 ≤ aK f c) (h:LackOk cws (aK (bA (aK f))) W F):LackOk cws (aK f) W F:=by
 refine ⟨h.sub,h.flags,h.all,?_⟩
 have e:F.map (aK f) = F.map (aK (bA (aK f))):=Cj fun c hc => by
   obtain ⟨p,hp⟩:=h.flags
   rw [hp] at hc
   exact (eI (flags_mem.mp (Dc.mp hc).1) (hf0 c)).symm
 rw [e]
 exact h.few
theorem jB {cws:List (List Nat)}:∀ i,i ≤ cws.length → (wlP cws i).length = fG cws i
 | 0,_ => rfl
 | i + 1,h => by
   have e:cws[i]? = some cws[i]:=Aa (by omega)
   rw [jK,Aj,jB i (by omega),qT e]
   unfold lT
   rw [Ab,Bz,Ac,e]
   rfl
theorem dQP {cws:List (List Nat)} {i k:Nat} {cw:List Nat} (hi:cws[i]? = some cw) (hk:k < cw.length):(wl cws)[fG cws i + k]? = some (i,1 + k):=by
 have hil:=(Ad.mp hi).1
 have h:∀ n,i < n → n ≤ cws.length → (wlP cws n)[fG cws i + k]? = some (i,1 + k):=fun n => by
   induction n with
   | zero => intro h; omega
   | succ n ih =>
     intro h1 h2
     rw [jK]
     by_cases hn:i = n
     · subst hn
       have e:=jB (cws:=cws) i (by omega)
       rw [Ay (by omega),show fG cws i + k - (wlP cws i).length = k by omega]
       unfold lT
       rw [Ag,Ac,hi]
       show ((List.range cw.length)[k]?).map _ = _
       rw [Fs hk]
       rfl
     · have r:=ih (by omega) (by omega)
       rw [Au (Ad.mp r).1]
       exact r
 exact h cws.length hil (Ah _)
def Hg (cw h:List Nat):Prop:=h.length = cw.length ∧ ∀ (k g:Nat),h[k]? = some g → g ∈ chs cw k
inductive Hgs:List (List Nat) → List (List Nat) → Prop
 | nil:Hgs [] []
 | cons {cw h:List Nat} {cws hs:List (List Nat)}:Hg cw h → Hgs cws hs → Hgs (cw :: cws) (h :: hs)
theorem Hgs.app {xs ys hs gs:List (List Nat)} (a:Hgs xs hs) (b:Hgs ys gs):Hgs (xs ++ ys) (hs ++ gs):=by
 induction a with
 | nil => exact b
 | cons h _ ih => exact .cons h ih
theorem Hgs.split:∀ {xs ys hs:List (List Nat)},Hgs (xs ++ ys) hs → ∃ h1 h2,hs = h1 ++ h2 ∧ Hgs xs h1 ∧ Hgs ys h2
 | [],ys,hs,h => ⟨[],hs,rfl,.nil,h⟩
 | x :: xs,ys,_,.cons a b => by
   obtain ⟨h1,h2,rfl,p,q⟩:=Hgs.split b
   exact ⟨_ :: h1,h2,rfl,.cons a p,q⟩
theorem nZ (xs ys:List Nat) (c:Nat):ctn (xs ++ ys) c = ctn xs c + ctn ys c:=Fx
theorem sQ (xs ys:List (List Nat)) (c:Nat):ctn (xs ++ ys).flatten c = ctn xs.flatten c + ctn ys.flatten c:=by rw [List.flatten_append,nZ]
theorem Hgs.sub {cws cws':List (List Nat)} (s:cws'.Sublist cws):∀ {hs:List (List Nat)},Hgs cws hs → ∃ hs',Hgs cws' hs' ∧ ∀ c,ctn hs'.flatten c ≤ ctn hs.flatten c:=by
 induction s with
 | slnil => intro hs h; exact ⟨hs,h,fun c => Ah _⟩
 | cons a s ih =>
   rintro _ (_ | ⟨h1,h2⟩)
   obtain ⟨hs',p,q⟩:=ih h2
   exact ⟨hs',p,fun c => by rw [Co,nZ]; have:=q c; omega⟩
 | cons_cons a s ih =>
   rintro _ (_ | ⟨h1,h2⟩)
   obtain ⟨hs',p,q⟩:=ih h2
   exact ⟨_ :: hs',.cons h1 p,fun c => by rw [Co,nZ,Co,nZ]; have:=q c; omega⟩
def CanL (n:Nat → Int) (cws:List (List Nat)):Prop:=∃ hs,Hgs cws hs ∧ ∀ c,(ctn hs.flatten c:Int) ≤ n c
theorem Hgs.len {cws hs:List (List Nat)} (h:Hgs cws hs):hs.length = cws.length:=by
 induction h with
 | nil => rfl
 | cons _ _ ih => rw [Az,Az,ih]
theorem aJO {cws:List (List Nat)} {j:Nat} {w:Wt}:∀ i,i ≤ cws.length → (wlP cws i)[j]? = some w → ∃ (a k:Nat) (cw:List Nat),a < i ∧ cws[a]? = some cw ∧ k < cw.length ∧ w = (a,1 + k) ∧ j = fG cws a + k
 | 0,_,h => by cases h
 | i + 1,hi,h => by
   rw [jK] at h
   have hl:=jB (cws:=cws) i (by omega)
   by_cases hj:j < (wlP cws i).length
   · rw [Au hj] at h
     obtain ⟨a,k,cw,p,q⟩:=aJO i (by omega) h
     exact ⟨a,k,cw,by omega,q⟩
   · rw [Ay (by omega)] at h
     have e:cws[i]? = some cws[i]:=Aa (by omega)
     unfold lT at h
     rw [Ag,Ac,e] at h
     have hlt:j - (wlP cws i).length < (cws[i]).length:=by
       have hn:¬ (cws[i]).length ≤ j - (wlP cws i).length:=fun z => by
         rw [List.getElem?_eq_none (by rw [Bz]; exact z)] at h
         cases h
       omega
     refine ⟨i,j - (wlP cws i).length,cws[i],by omega,e,hlt,?_,by omega⟩
     rw [Fs (by exact hlt)] at h
     cases h
     rfl
theorem Hgs.at {cws hs:List (List Nat)} (h:Hgs cws hs):∀ {i:Nat} {cw:List Nat},cws[i]? = some cw → ∃ g,hs[i]? = some g ∧ Hg cw g:=by
 induction h with
 | nil => intro i cw e; cases e
 | cons a b ih =>
   intro i cw e
   cases i with
   | zero => cases e; exact ⟨_,rfl,a⟩
   | succ i => exact ih e
theorem Hgs.offsL {cws hs:List (List Nat)} (h:Hgs cws hs):∀ (i:Nat),(hs.take i).flatten.length = fG cws i:=by
 induction h with
 | nil => intro i; cases i <;> rfl
 | cons a b ih =>
   intro i
   cases i with
   | zero => rfl
   | succ i =>
     have:=ih i
     unfold fG at this ⊢
     rw [List.take_succ_cons,Co,Aj,this,List.take_succ_cons,Ap,Cp,a.1]
theorem bJK {hs:List (List Nat)} {i k:Nat} {g:List Nat} (h:hs[i]? = some g) (hk:k < g.length):hs.flatten[(hs.take i).flatten.length + k]? = g[k]? := by
 have e:hs = hs.take i ++ (g :: hs.drop (i + 1)):=by
   obtain ⟨h1,h2⟩:=Ad.mp h
   rw [← h2,← List.drop_eq_getElem_cons h1,List.take_append_drop]
 have e2:hs.flatten = (hs.take i).flatten ++ (g ++ (hs.drop (i + 1)).flatten):=by
   have:=Dq List.flatten e
   rwa [List.flatten_append,Co] at this
 rw [e2,Ay (by omega),Ew,Au hk]
theorem CanL.canH {n:Nat → Int} {cws:List (List Nat)} (h:CanL n cws):CanH n cws:=by
 obtain ⟨hs,hg,hc⟩:=h
 refine ⟨hs.flatten,?_,fun j w g hw hf => ?_,hc⟩
 · have h1:=hg.offsL cws.length
   rw [show hs.take cws.length = hs from Bm (Nat.le_of_eq hg.len)] at h1
   rw [h1]
   exact (jB _ (Ah _)).symm
 · obtain ⟨a,k,cw,ha,hcw,hk,rfl,rfl⟩:=aJO cws.length (Ah _) hw
   obtain ⟨h,hh,hgh⟩:=hg.at hcw
   rw [← hg.offsL a,bJK hh (by rw [hgh.1]; exact hk)] at hf
   unfold chW
   rw [Ac,hcw,show (a,1 + k).2 - 1 = k by show 1 + k - 1 = k; omega]
   exact hgh.2 k g hf
def mL:List (List Nat) → List Nat → List (List Nat)
 | [],_ => []
 | cw :: r,fs => fs.take cw.length :: mL r (fs.drop cw.length)
theorem kA:∀ {cws:List (List Nat)} {fs:List Nat},fs.length = (cws.map List.length).sum → (mL cws fs).flatten = fs
 | [],fs,h => by rw [List.eq_nil_of_length_eq_zero h]; rfl
 | cw :: r,fs,h => by
   rw [Ap,Cp] at h
   rw [mL,Co,kA (by rw [Ck]; omega),List.take_append_drop]
theorem wU:∀ {cws:List (List Nat)} {fs:List Nat},fs.length = (cws.map List.length).sum → (∀ (i k g:Nat) cw,cws[i]? = some cw → k < cw.length → fs[fG cws i + k]? = some g → g ∈ chs cw k) → Hgs cws (mL cws fs)
 | [],fs,h,_ => .nil
 | cw :: r,fs,h,hc => by
   rw [Ap,Cp] at h
   refine .cons ⟨by rw [Bl]; omega,fun k g hk => ?_⟩ (wU (by rw [Ck]; omega) fun i k g cw' hi hk hg => ?_)
   · have hkl:k < cw.length:=by
       have:=(Ad.mp hk).1
       rw [Bl] at this
       omega
     rw [List.getElem?_take,if_pos hkl] at hk
     exact hc 0 k g cw rfl hkl (by rw [show fG (cw :: r) 0 = 0 from rfl,Nat.zero_add]; exact hk)
   · refine hc (i + 1) k g cw' hi hk ?_
     rw [List.getElem?_drop] at hg
     rw [show fG (cw :: r) (i + 1) = cw.length + fG r i by unfold fG; rw [List.take_succ_cons,Ap,Cp],Nat.add_assoc]
     exact hg
theorem uF (cws:List (List Nat)):(wl cws).length = (cws.map List.length).sum:=by
 have h:=jB (cws:=cws) cws.length (Ah _)
 unfold fG at h
 rw [Bh] at h
 exact h
theorem xU {cws:List (List Nat)} {fs:List Nat} (hl:fs.length = (wl cws).length) (hch:∀ (j:Nat) w g,(wl cws)[j]? = some w → fs[j]? = some g → g ∈ chW cws w):Hgs cws (mL cws fs):=by
 refine wU (hl.trans (uF cws)) fun i k g cw hi hk hg => ?_
 have h:=hch _ _ g (dQP hi hk) hg
 unfold chW at h
 rw [Ac,hi,show (i,1 + k).2 - 1 = k by show 1 + k - 1 = k; omega] at h
 exact h
theorem CanH.canL {n:Nat → Int} {cws:List (List Nat)} (h:CanH n cws):CanL n cws:=by
 obtain ⟨fs,hl,hch,hc⟩:=h
 exact ⟨mL cws fs,xU hl hch,by rw [kA (hl.trans (uF cws))]; exact hc⟩
theorem CanH.sub {n:Nat → Int} {cws cws':List (List Nat)} (h:CanH n cws) (s:cws'.Sublist cws):CanH n cws':=by
 obtain ⟨hs,hg,hc⟩:=h.canL
 obtain ⟨hs',p,q⟩:=hg.sub s
 exact CanL.canH ⟨hs',p,fun c => by have:=hc c; have:=q c; omega⟩
theorem CanH.nil {n:Nat → Int} (h:∀ c,0 ≤ n c):CanH n []:=CanL.canH ⟨[],.nil,h⟩
theorem CanH.more {n m:Nat → Int} {cws cws':List (List Nat)} {fs:List Nat} (hl:fs.length = (wl cws).length) (hch:∀ (j:Nat) w g,(wl cws)[j]? = some w → fs[j]? = some g → g ∈ chW cws w) (h:CanH m cws') (e:∀ c,(ctn fs c:Int) + m c ≤ n c):CanH n (cws ++ cws'):=by
 obtain ⟨hs,hg,hc⟩:=h.canL
 refine CanL.canH ⟨_,(xU hl hch).app hg,fun c => ?_⟩
 rw [sQ,kA (hl.trans (uF cws))]
 have:=e c
 have:=hc c
 omega
theorem HalsAt.get {H:Hp} {vs:List V} {hs:List (Option (List Nat))} (a:HalsAt H vs hs) {k:Nat} (hk:k < hs.length):∃ v,atI vs (k:Int) = some v ∧ vs[k]? = some v ∧ HalV H v (hs.getD k none):=by
 have hv:k < vs.length:=by rw [a.len]; exact hk
 refine ⟨vs[k],eK (Aa hv),Aa hv,?_⟩
 refine a.val k _ _ (Aa hv) ?_
 rw [Ac,Aa hk]
 rfl
def aO (hs:List (Option (List Nat))) (n:Nat):List Nat:=(List.range hs.length).filter fun k => (hs.getD k none).isSome && !decide (k = n)
theorem dH {hs:List (Option (List Nat))} {n k:Nat} (h:k ∈ aO hs n):k < hs.length ∧ (hs.getD k none).isSome = true ∧ k ≠ n:=by
 obtain ⟨h1,h2⟩:=Dc.mp h
 rw [Fl,Bool.not_eq_true',decide_eq_false_iff_not] at h2
 exact ⟨Cc.mp h1,h2.1,h2.2⟩
theorem lB {hs:List (Option (List Nat))} {n:Nat} (hn:n < hs.length):(aO hs n).length + 1 ≤ hs.length:=by
 have h1:(aO hs n).Sublist ((List.range hs.length).filter fun k => !decide (k = n)):=by
   have e:aO hs n = ((List.range hs.length).filter fun k => !decide (k = n)).filter fun k => (hs.getD k none).isSome:=by
     unfold aO
     rw [List.filter_filter]
   rw [e]
   exact Ep
 have h2:=h1.length_le
 have h3:=List.length_eq_countP_add_countP (p:=fun k => decide (k = n)) (l:=List.range hs.length)
 rw [Bz] at h3
 have h4:1 ≤ (List.range hs.length).countP fun k => decide (k = n):=by
   refine List.countP_pos_iff.mpr ⟨n,Cc.mpr hn,Ar rfl⟩
 have h5:((List.range hs.length).filter fun k => !decide (k = n)).length = (List.range hs.length).countP fun k => !decide (k = n):=Fa.symm
 have h6:((List.range hs.length).countP fun a => ¬ (decide (a = n)) = true) = (List.range hs.length).countP fun k => !decide (k = n):=by
   congr 1
   funext k
   cases decide (k = n) <;> rfl
 omega
def oth (hs:List (Option (List Nat))) (n:Nat) (i:Nat):Option V:=if ((hs.getD i none).isSome && !decide (i = n)) = true then some (V.int ((i:Nat):Int)) else none
theorem bQJ (hs:List (Option (List Nat))) (n m:Nat):(List.range m).filterMap (oth hs n) = ((List.range m).filter fun k => (hs.getD k none).isSome && !decide (k = n)).map fun k => V.int ((k:Nat):Int):=by
 induction List.range m with
 | nil => rfl
 | cons a r ih =>
   by_cases h:((hs.getD a none).isSome && !decide (a = n)) = true
   · rw [Da (b:=V.int ((a:Nat):Int)) (by unfold oth; rw [if_pos h]),List.filter_cons_of_pos (p:=fun k => (hs.getD k none).isSome && !decide (k = n)) h,Ap,ih]
   · rw [Dn (by unfold oth; rw [if_neg h]),List.filter_cons_of_neg (p:=fun k => (hs.getD k none).isSome && !decide (k = n)) h,ih]
def iS:Sp:=fun vs H Q _ => ∃ (a:Addr) (us:List V) (hs:List (Option (List Nat))) (n:Nat),vs = [.ref a,.int ((n:Nat):Int)] ∧ rdL H a = some us ∧ HalsAt H us hs ∧ hs.length ≤ 7 ∧
 ∀ (r:Addr) (H':Hp),H r = none → Same H H' → H' r = some (.lst ((aO hs n).map fun k => V.int ((k:Nat):Int))) → Q (.ref r) H'
theorem oM:FnScope ["halyards", "number"] ["halyards", "number"] (aG cL):=⟨rfl,rfl,rfl,by decide +kernel,rfl,by decide +kernel,by decide +kernel⟩
theorem pL {Zw Zz Zx Zy:Addr} {f:Addr} {fd:FuncData} (F:Fun K "others_hung" "others_hung" cL f fd) (G:Gs K mg Zw Zz Zx Zy)  : FnOk P w K mg base CX0 1 f fd ["halyards", "number"] iS:=by
 refine F.ok oM (fun vs H Q E h => ?_) (fun cdv A outer s H vs Q E hr h => ?_)
 · obtain ⟨a,us,hs,n,rfl,_⟩:=h; rfl
 obtain ⟨a,us,hs,n,rfl,ha,hat,h7,q⟩:=h
 refine ⟨_,(@aH _ _ _ (aT (eP rfl (uN rfl G.b_enumerate (aA (mv 0) aF)) (gP (N:=["other", "hoist", "number"]) ["halyards", "number"] (aG cL) [none,none,some 1] rfl rfl rfl (fun x h => cG h) (by decide +kernel)) (by decide +kernel) rfl (by decide +kernel) (fun C s₀ H₀ ex => (iL (K:=K) (i:=0) (j:=1) (by rfl) (by rfl) (show List.Nodup (["other", "hoist", "number"]:List Str) by decide +kernel) (by rfl) (by exact Or.inl rfl) (by exact Or.inr rfl) (by rfl) (by exact Or.inl rfl) (by exact Or.inr rfl))) (fun C s₀ H₀ ex => (kO (PW.pt (yZ (bB mG (mv 1) dA (bF _)) (tR (bB aJS (mv 0) (mv 2) (bF _))))))) (fun C s₀ H₀ ex => (mv 0))))),?_⟩
 have hul:=hat.len
 walk_at "go"
 refine bQX (xs:=us) (oth hs n) ha (bD (by omega)) (fun i x Hc p A B hx sm hp hA hB => ?_) (fun D Hd hD sD hd => ?_)
 · have hi:i < hs.length:=by rw [← hul]; exact (Ad.mp hx).1
   have hv:=hat.val i x (hs.getD i none) hx (by rw [Ac,Aa hi]; rfl)
   have tp:kC (upd Hc p (.tup [.int ((0 + i:Nat):Int),x])) p = some [.int ((0 + i:Nat):Int),x]:=jW
   rw [Nat.zero_add] at tp hA hB ⊢
   walk_at "go"
   refine ⟨Wk.set rfl (Wk.set rfl (Wk.refl _)),?_⟩
   walk_at "go"
   cases eh:hs.getD i none with
   | none =>
     rw [eh] at hv
     obtain rfl:x = V.non:=hv
     rw [show decide (V.non = V.non) = true from rfl]
     walk_at "go"
     exact hB (by unfold oth; rw [eh]; rfl) _ (Same.refl _)
   | some cs =>
     rw [eh] at hv
     obtain ⟨pc,rfl,_⟩:=hv
     rw [show decide (V.ref pc = V.non) = false from Av (fun z => nomatch z)]
     walk_at "go"
     by_cases hn:i = n
     · rw [Ar (show ((i:Nat):Int) = ((n:Nat):Int) by omega)]
       exact hB (by unfold oth; rw [eh,Ar hn]; rfl) _ (Same.refl _)
     · rw [Av (show ¬ ((i:Nat):Int) = ((n:Nat):Int) by omega)]
       walk_at "go"
       exact hA _ (by unfold oth; rw [eh,Av hn]; rfl) _ (Same.refl _)
 · rw [hul,bQJ] at hd
   exact q D Hd hD sD hd
def aM (hs:List (Option (List Nat))) (ks:List Nat):List Nat:=ks.flatMap fun k => (hs.getD k none).getD []
theorem jP (hs:List (Option (List Nat))) (A B:List Nat):aM hs (A ++ B) = aM hs A ++ aM hs B:=Dy ..
theorem sA {hs:List (Option (List Nat))} (ok:dO hs) (k:Nat):((hs.getD k none).getD []).length ≤ 7:=by
 cases e:hs[k]? with
 | none => rw [Ac,e]; exact Ct _
 | some h =>
   rw [Ac,e]
   cases h with
   | none => exact Ct _
   | some cs =>
     have:=eY (ok cs (Ai e))
     rw [Ab] at this
     exact this.2
theorem fQ {hs:List (Option (List Nat))} (ok:dO hs):∀ ks:List Nat,(aM hs ks).length ≤ 7 * ks.length
 | [] => Ct _
 | k :: r => by
   show (((hs.getD k none).getD []) ++ aM hs r).length ≤ _
   rw [Aj,Az]
   have:=sA ok k
   have:=fQ ok r
   omega
def jF:Sp:=fun vs H Q _ => ∃ (a b:Addr) (us:List V) (hs:List (Option (List Nat))) (ks:List Nat),vs = [.ref a,.ref b] ∧ rdL H a = some us ∧ HalsAt H us hs ∧ dO hs ∧ rdL H b = some (ks.map fun k => V.int ((k:Nat):Int)) ∧ ks.length ≤ 7 ∧ (∀ k ∈ ks,k < hs.length) ∧
 ∀ (r:Addr) (H':Hp),H r = none → Same H H' → H' r = some (.lst (((aM hs ks).map one).map V.str)) → Q (.ref r) H'
theorem sc_flags_on:FnScope ["halyards", "numbers", "flags", "number"] ["halyards", "numbers"] (aG eZ):=⟨rfl,rfl,rfl,by decide +kernel,rfl,by decide +kernel,by decide +kernel⟩
theorem vE {Zw Zz Zx Zy:Addr} {f:Addr} {fd:FuncData} (F:Fun K "flags_on" "flags_on" eZ f fd) (G:Gs K mg Zw Zz Zx Zy)  : FnOk P w K mg base CX0 1 f fd ["halyards", "numbers"] jF:=by
 refine F.ok sc_flags_on (fun vs H Q E h => ?_) (fun cdv A outer s H vs Q E hr h => ?_)
 · obtain ⟨a,b,us,hs,ks,rfl,_⟩:=h; rfl
 obtain ⟨a,b,us,hs,ks,rfl,ha,hat,ok,hb,h7,hk,q⟩:=h
 refine ⟨_,(@aD _ _ _ _ _ (@aP _ _ 2 _ _ _ _ sc_flags_on.nd (by rfl) (by exact (Or.inl rfl)) (cD aF) (by rfl) (by first | exact Or.inl rfl | exact Or.inr rfl)) (@aD _ _ _ _ _ (bV Bf rfl (cB (mv 1)) (aV (i:=3) sc_flags_on.nd rfl (Or.inl rfl)) (@aH _ _ _ (cS (bB mG (bL cO (mv 0) (mv 3) (fun _ _ => rfl)) dA (bF _)) (@aH _ _ _ (dD (fD Ce Do Dp uY (mv 2) (aA (bL cO (mv 0) (mv 3) (fun _ _ => rfl)) aF)))) bO))) (@aH _ _ _ (aT (mv 2))))),?_⟩
 walk_at "go"
 refine ⟨by decide,fun p hp => ?_⟩
 have sp:=aE hp (.lst [])
 have hb1:=aJ sp hb
 walk_at "go"
 refine dB (xs:=(ks.map fun k => V.int ((k:Nat):Int))) (fun i σ H' => ∃ v,σ = [some (.ref a),some (.ref b),some (.ref p),v] ∧ Same H H' ∧ H' p = some (.lst (((aM hs (ks.take i)).map one).map V.str)))
   ⟨_,rfl,sp,aB⟩ (fun i σ H' _ ⟨_,_,e,_⟩ => aJ e hb) ?_ ?_
 · rintro i x σ H2 hx ⟨v,rfl,s2,e2⟩
   obtain ⟨k,hki,rfl⟩:=jU hx
   have hkl:=hk k (Ai hki)
   obtain ⟨u,au,_,hv⟩:=(hat.keep s2).get hkl
   have r2:=aJ s2 ha
   have ft:aM hs (ks.take (i + 1)) = aM hs (ks.take i) ++ (hs.getD k none).getD []:=by
     rw [Aw,hki,jP]
     show _ ++ (_ ++ []) = _
     rw [Bk]
   walk_at "go"
   refine eC r2 au ?_
   walk_at "go"
   cases eh:hs.getD k none with
   | none =>
     rw [eh] at hv ft
     rw [show u = .non from hv,show decide (V.non = V.non) = true from rfl]
     walk_at "go"
     exact ⟨_,rfl,s2,by rw [ft]; show _ = some (HO.lst (((_ ++ []).map one).map V.str)); rw [Bk]; exact e2⟩
   | some cs =>
     have h7c:=sA ok k
     rw [eh] at hv ft h7c
     obtain ⟨pc,rfl,hpc⟩:=hv
     rw [show decide (V.ref pc = V.non) = false from Av (fun z => nomatch z)]
     have m2:=bG e2
     have rc:=aQ hpc
     have l2:=fQ ok (ks.take i)
     rw [Bl] at l2
     have hln:(((aM hs (ks.take i)).map one).map V.str).length + ((cs.map one).map V.str).length ≤ sizeLine:=bI (by rw [Ab,Ab,Ab,Ab]; have:cs.length ≤ 7:=h7c; omega)
     walk_at "go"
     refine eC r2 au ?_
     walk_at "go"
     refine ⟨_,rfl,aY hp s2,?_⟩
     rw [aB,ft,Ak,Ak]
     rfl
 · rintro σ H2 ⟨v,rfl,s2,e2⟩
   rw [Bm (by rw [Ab]; exact Ah _)] at e2
   walk_at "go"
   exact q p H2 hp s2 e2
theorem xO {os:List Nat} {m:Nat} (h:os.length < m):cF os m = []:=by
 cases e:cF os m with
 | nil => rfl
 | cons l r =>
   have:=mem_combs.mp (show l ∈ cF os m by rw [e]; exact An)
   have h2:=this.1.length_le
   omega
theorem pB:∀ os:List Nat,cF os os.length = [os]
 | [] => iK []
 | k :: r => by
   rw [Az,iF,Az,List.range_succ_eq_map,Fh]
   have h1:((cF ((k :: r).drop (0 + 1)) r.length).map fun l => (k :: r).getD 0 0 :: l) = [k :: r]:=by
     show ((cF r r.length).map fun l => k :: l) = _
     rw [pB r]
     rfl
   rw [h1,List.flatMap_map]
   have h2:((List.range r.length).flatMap fun j => (cF ((k :: r).drop (j.succ + 1)) r.length).map fun l => (k :: r).getD j.succ 0 :: l) = []:=by
     rw [List.flatMap_eq_nil_iff]
     intro j hj
     rw [xO (by rw [Ck,Az]; have:=Cc.mp hj; omega)]
     rfl
   rw [h2]
   rfl
def cZ (os:List Nat):List (List Nat):=(List.range (os.length + 1)).flatMap fun m => cF os m
def nK (os:List Nat) (i:Nat):List (List Nat):=(List.range i).flatMap fun m => cF os m
theorem kX (os:List Nat) (i:Nat):nK os (i + 1) = nK os i ++ cF os i:=by
 unfold nK
 rw [Cb,Dy]
 congr 1
 show cF os i ++ [] = _
 rw [Bk]
theorem mem_sets {os l:List Nat}:l ∈ cZ os ↔ l.Sublist os:=by
 unfold cZ
 rw [Fp]
 constructor
 · rintro ⟨m,_,h⟩
   exact (mem_combs.mp h).1
 · intro h
   exact ⟨l.length,Cc.mpr (Nat.lt_succ_of_le h.length_le),mem_combs.mpr ⟨h,rfl⟩⟩
theorem mF {os:List Nat}:∀ {i:Nat},os.length ≤ 6 → i ≤ 6 → (nK os i).length ≤ i * 6 ^ 5
 | 0,_,_ => Ct _
 | i + 1,h,hi => by
   rw [kX,Aj,Nat.succ_mul]
   have h1:=mF (i:=i) h (by omega)
   have h2:(cF os i).length ≤ 6 ^ 5:=Bb (gU h) (Nat.pow_le_pow_right (by decide) (by omega))
   omega
def pO:Sp:=fun vs H Q _ => ∃ (b:Addr) (os:List Nat),vs = [.ref b] ∧ rdL H b = some (os.map fun k => V.int ((k:Nat):Int)) ∧ os.length ≤ 5 ∧
 ∀ (r:Addr) (ps:List Addr) (H':Hp),H r = none → Same H H' → H' r = some (.lst (ps.map V.ref)) → Lsts H H' ps ((cZ os).map fun l => (l.map fun k => V.int ((k:Nat):Int))) → (∀ p ∈ ps,p ≠ r) → Q (.ref r) H'
theorem sc_sets_of:FnScope ["others", "sets", "many"] ["others"] (aG fP):=⟨rfl,rfl,rfl,by decide +kernel,rfl,by decide +kernel,by decide +kernel⟩
theorem yD {Zw Zz Zx Zy:Addr} {f:Addr} {fd:FuncData} (F:Fun K "sets_of" "sets_of" fP f fd) (G:Gs K mg Zw Zz Zx Zy) (c_rising_lists:Cal P w K mg base 9 "rising_lists" ["numbers", "many"] (cJ 8)):FnOk P w K mg base CX0 10 f fd ["others"] pO:=by
 refine F.ok sc_sets_of (fun vs H Q E h => ?_) (fun cdv A outer s H vs Q E hr h => ?_)
 · obtain ⟨b,os,rfl,_⟩:=h; rfl
 obtain ⟨b,os,rfl,hb,h5,q⟩:=h
 refine ⟨_,(@aD _ _ _ _ _ (@aP _ _ 1 _ _ _ _ sc_sets_of.nd (by rfl) (by exact (Or.inl rfl)) (cD aF) (by rfl) (by first | exact Or.inl rfl | exact Or.inr rfl)) (@aD _ _ _ _ _ (bV Bf rfl (fN rfl G.b_range (aA (aX cH (bJ eU rfl G.b_len cQ (aA (mv 0) aF)) aL) aF)) (aV (i:=2) sc_sets_of.nd rfl (Or.inl rfl)) (@aH _ _ _ (dD (fD Ce Do Dp uY (mv 1) (aA (aU c_rising_lists hr (by decide) rfl (aA (mv 0) (aA (mv 2) aF))) aF))))) (@aH _ _ _ (aT (mv 1))))),?_⟩
 have hbl:((os.map fun k => V.int ((k:Nat):Int))).length = os.length:=Ab ..
 walk_at "go"
 refine ⟨by decide,fun p hp => ?_⟩
 have s1:=aE hp (.lst [])
 have e1:(upd H p (.lst [])) p = some (.lst (([]:List Addr).map V.ref)):=aB
 generalize upd H p (.lst []) = H1 at s1 e1 ⊢
 have hb1:=aJ s1 hb
 walk_at "go"
 rw [hbl]
 refine ⟨⟨by omega,by omega⟩,?_⟩
 refine gR (fun i σ H' => ∃ (ps:List Addr) (v:Option V),σ = [some (.ref b),some (.ref p),v] ∧ Same H H' ∧ H' p = some (.lst (ps.map V.ref)) ∧ Lsts H H' ps ((nK os i).map fun l => (l.map fun k => V.int ((k:Nat):Int))) ∧ ∀ z ∈ ps,z ≠ p)
   ⟨[],_,rfl,s1,e1,.nil,fun z hz => nomatch hz⟩ ?_ ?_
 · rintro i σ H2 hi ⟨ps,v,rfl,s2,e2,ls,nd⟩
   have hi6:i ≤ os.length:=by omega
   have hb2:=aJ s2 hb
   have hps:ps.length = (nK os i).length:=by rw [ls.1,Ab]
   have hpl:=mF (os:=os) (i:=i) (by omega) (by omega)
   walk_at "go"
   rw [show (0:Int) + (i:Int) = ((i:Nat):Int) by omega]
   refine ⟨b,os,i,rfl,hb2,by omega,by omega,by omega,fun rb qs H5 hrb s5 e5 lq nq => ?_⟩
   have hqs:qs.length = (cF os i).length:=by rw [lq.1,Ab]
   have hql:(cF os i).length ≤ 6 ^ 5:=Bb (gU (by omega)) (Nat.pow_le_pow_right (by decide) (by omega))
   have e25:=s5 _ _ e2
   have m5:=bG e25
   have r5:=aQ e5
   have hln:(ps.map V.ref).length + (qs.map V.ref).length ≤ sizeLine:=bI (by rw [Ab,Ab,hps,hqs]; omega)
   walk_at "go"
   have npq:∀ z ∈ qs,z ≠ p:=fun z hz zp => by
     obtain ⟨g,_,h1,_⟩:=lq.mem hz
     rw [zp,e2] at h1
     cases h1
   have nd2:∀ z ∈ ps ++ qs,z ≠ p:=fun z hz => (Bi.mp hz).elim (nd z) (npq z)
   refine ⟨ps ++ qs,_,rfl,aY hp (s2.trans s5),?_,?_,nd2⟩
   · rw [aB,Ak]
   · rw [kX,Ak]
     exact ((ls.keep s5).app (lq.older s2)).put nd2
 · rintro σ H2 ⟨ps,v,rfl,s2,e2,ls,nd⟩
   rw [show ((os.length:Int) + 1).toNat = os.length + 1 by omega] at ls
   walk_at "go"
   exact q p ps H2 hp s2 e2 ls nd
def bQ (hs:List (Option (List Nat))) (cw ks:List Nat):List (List Nat):=cw :: ks.map fun k => rdC ((hs.getD k none).getD [])
theorem gE (ks:List Nat):((ks.map fun k => V.int ((k:Nat):Int))).length = ks.length:=Ab ..
def gI:Sp:=fun vs H Q _ => ∃ (a b:Addr) (us:List V) (hs:List (Option (List Nat))) (cw ks:List Nat),vs = [.ref a,.str (bE cw),.ref b] ∧ rdL H a = some us ∧ HalsAt H us hs ∧ dO hs ∧ rdL H b = some (ks.map fun k => V.int ((k:Nat):Int)) ∧ ks.length ≤ 7 ∧ (∀ k ∈ ks,k < hs.length ∧ (hs.getD k none).isSome = true) ∧
 ∀ (r:Addr) (H':Hp),H r = none → Same H H' → H' r = some (.lst (((bQ hs cw ks).map bE).map V.str)) → Q (.ref r) H'
theorem qN:FnScope ["halyards", "word", "lowered"] ["halyards", "word", "lowered"] (aG cT):=⟨rfl,rfl,rfl,by decide +kernel,rfl,by decide +kernel,by decide +kernel⟩
theorem qL {Zw Zz Zx Zy:Addr} {f:Addr} {fd:FuncData} (F:Fun K "words_with" "words_with" cT f fd) (G:Gs K mg Zw Zz Zx Zy) (c_read_of:tV P w K mg base 4 "read_of" ["flags"] (oG Zy)):FnOk P w K mg base CX0 5 f fd ["halyards", "word", "lowered"] gI:=by
 refine F.ok qN (fun vs H Q E h => ?_) (fun cdv A outer s H vs Q E hr h => ?_)
 · obtain ⟨a,b,us,hs,cw,ks,rfl,_⟩:=h; rfl
 obtain ⟨a,b,us,hs,cw,ks,rfl,ha,hat,ok,hb,h7,hk,q⟩:=h
 refine ⟨_,(@aH _ _ _ (aT (aX cH (cD (aA (mv 1) aF)) (eP rfl (cB (mv 2)) (gP (N:=["other", "halyards"]) ["halyards", "word", "lowered"] (aG cT) [none,some 0] rfl rfl rfl (fun x h => cG h) (by decide +kernel)) (by decide +kernel) rfl (by decide +kernel) (fun C s₀ H₀ ex => (aV (i:=0) (show List.Nodup (["other", "halyards"]:List Str) by decide +kernel) rfl (Or.inl rfl))) (fun C s₀ H₀ ex => jA) (fun C s₀ H₀ ex => (nV c_read_of aZK hr (by decide) rfl (aA (bL cO (mv 1) (mv 0) (fun _ _ => rfl)) aF))))))),?_⟩
 walk_at "go"
 refine ⟨by show 1 ≤ sizeLine; decide,fun p hp => ?_⟩
 have s1:=aE hp (.lst [V.str (bE cw)])
 have e1:(upd H p (.lst [V.str (bE cw)])) p = some (.lst [V.str (bE cw)]):=aB
 generalize upd H p (.lst [V.str (bE cw)]) = H1 at s1 e1 ⊢
 have hb1:=aJ s1 hb
 have ha1:=aJ s1 ha
 walk_at "go"
 refine pN (xs:=(ks.map fun k => V.int ((k:Nat):Int))) (fun j => (ks[j]?).map fun k => V.str (bE (rdC ((hs.getD k none).getD [])))) hb1 (bD (by rw [gE]; omega)) (fun j x Hc A B hx sm hA hB => ?_) (fun D Hd hD sD hd => ?_)
 · obtain ⟨k,hki,rfl⟩:=jU hx
   obtain ⟨hkl,hks⟩:=hk k (Ai hki)
   obtain ⟨u,au,_,hv⟩:=(hat.keep (s1.trans sm)).get hkl
   have hA2:=hA (V.str (bE (rdC ((hs.getD k none).getD [])))) (by rw [hki]; rfl)
   have r2:=aJ sm ha1
   cases eh:hs.getD k none with
   | none => rw [eh] at hks; cases hks
   | some cs =>
     rw [eh] at hv hA2
     obtain ⟨pc,rfl,hpc⟩:=hv
     have hb:=ok cs (by
       rw [Ac,Aa hkl] at eh
       rw [← show hs[k] = some cs from eh]
       exact Br hkl)
     have h7c:=eY hb
     walk_at "go"
     refine ⟨Wk.set rfl (Wk.refl _),?_⟩
     walk_at "go"
     refine eC r2 au ?_
     walk_at "go"
     refine ⟨pc,cs.map one,rfl,aQ hpc,by omega,bQC cs,fun _ H3 s3 => ?_,fun hf => ?_⟩
     · have e:bQK (cs.map one) = bE (rdC cs):=by unfold bQK; rw [rZ]
       rw [e]
       exact hA2 _ s3
     · rw [hb] at hf; cases hf
 · rw [gE,pG,show ks.map (fun k => V.str (bE (rdC ((hs.getD k none).getD [])))) = ((ks.map fun k => rdC ((hs.getD k none).getD [])).map bE).map V.str by rw [Ci,Ci]; rfl] at hd
   refine lF (bG (sD _ _ e1)) (bG hd) (bI (by rw [Ab,Ab,Ab]; show 1 + _ ≤ _; omega)) fun r hr => ?_
   exact q r _ (none_of (s1.trans sD) hr) (s1.trans (sD.trans (aE hr _))) aB
def gL (f:Nat → Option Int) (hs:List (Option (List Nat))) (L:List Nat):Nat → Option Int:=bA fun c => aK f c + cnt (aM hs L) c
def nG (f:Nat → Option Int) (hs:List (Option (List Nat))) (L:List Nat) (c:Nat):Int:=aK (bA (aK (gL f hs L))) c
def bQ0 (f:Nat → Option Int) (hs:List (Option (List Nat))) (n:Nat) (cw ks:List Nat):Prop:=CanH (nG f hs (n :: ks)) (bQ hs cw ks)
def PaperH (H:Hp) (f:Nat → Option Int) (hs:List (Option (List Nat))) (n:Nat) (cw ks:List Nat) (t:Addr):Prop:=∃ (c l1 l2:Addr) (rs:List Addr) (W:List Wt) (F:List Nat),H t = some (.tup [.ref c,.ref l1,.ref l2]) ∧ H c = some (.lst (ks.map fun k => V.int ((k:Nat):Int))) ∧ H l1 = some (.lst (rs.map V.ref)) ∧ WtsAt H rs W ∧ H l2 = some (.lst ((F.map one).map V.str)) ∧ LackOk (bQ hs cw ks) (nG f hs (n :: ks)) W F
theorem PaperH.keep {H H':Hp} {f:Nat → Option Int} {hs:List (Option (List Nat))} {n:Nat} {cw ks:List Nat} {t:Addr} (h:PaperH H f hs n cw ks t) (s:Same H H'):PaperH H' f hs n cw ks t:=by
 obtain ⟨c,l1,l2,rs,W,F,h1,h2,h3,h4,h5,h6⟩:=h
 exact ⟨c,l1,l2,rs,W,F,s _ _ h1,s _ _ h2,s _ _ h3,⟨h4.1,fun j p w hp hw => s _ _ (h4.2 j p w hp hw)⟩,s _ _ h5,h6⟩
theorem PaperH.put {H:Hp} {f:Nat → Option Int} {hs:List (Option (List Nat))} {n:Nat} {cw ks:List Nat} {t p:Addr} {o:HO} (h:PaperH H f hs n cw ks t) (h0:∀ c l1 l2,H t = some (.tup [.ref c,.ref l1,.ref l2]) → c ≠ p ∧ l1 ≠ p ∧ l2 ≠ p) (hn:∀ xs,H p ≠ some (.tup xs)):PaperH (upd H p o) f hs n cw ks t:=by
 obtain ⟨c,l1,l2,rs,W,F,h1,h2,h3,h4,h5,h6⟩:=h
 obtain ⟨n1,n2,n3⟩:=h0 _ _ _ h1
 refine ⟨c,l1,l2,rs,W,F,?_,?_,?_,⟨h4.1,fun j q w hq hw => ?_⟩,?_,h6⟩
 · rw [aI fun z => hn _ (by rw [← z]; exact h1)]; exact h1
 · rw [aI n1]; exact h2
 · rw [aI n2]; exact h3
 · have e:=h4.2 j q w hq hw
   rw [aI fun z => hn _ (by rw [← z]; exact e)]; exact e
 · rw [aI n3]; exact h5
def bX0 (f:Nat → Option Int) (hs:List (Option (List Nat))) (n:Nat) (cw ks:List Nat) (j:Nat):Prop:=(cZ (aO hs n))[j]? = some ks ∧ bQ0 f hs n cw ks ∧ ∀ (i:Nat) l,i < j → (cZ (aO hs n))[i]? = some l → ¬ bQ0 f hs n cw l
theorem bJ2 {cs:List Nat} (hb:cI (cs.map one) = true):∀ d ∈ rdC cs,bS d:=by
 have h:∀ i,i ≤ cs.length → ∀ d ∈ rdC (cs.take i),bS d:=fun i => by
   induction i with
   | zero => intro _ d hd; rw [Eb] at hd; cases hd
   | succ i ih =>
     intro hi d hd
     have hci:cs[i]? = some cs[i]:=Aa (by omega)
     have hrl:(rdC (cs.take i)).length = i:=hV (by omega)
     rw [jG hci] at hd
     obtain ⟨c,e1,e2,e3⟩:=iI hb (i:=i) (z:=one cs[i]) (by rw [Ag,hci]; rfl)
     have ec:cs[i] = c:=one_inj.mp e1
     rcases Bi.mp hd with e | e
     · exact ih (by omega) d e
     · rw [As.mp e,ec]
       unfold stp
       rcases e3 with l | ⟨sb,lt⟩
       · rw [if_neg (fE l)]; exact l
       · rw [if_pos sb,Ac,Aa (by omega)]
         exact ih (by omega) _ (Br _)
 have r:=h cs.length (Ah _)
 rwa [Bh] at r
theorem wL {xs:List Addr} {u:Addr} (h:xs[xs.length - 1]? = some u):atI (xs.map V.ref) (-1) = some (.ref u):=by
 have hl:0 < xs.length:=by have:=(Ad.mp h).1; omega
 unfold atI
 rw [show ixN (xs.map V.ref).length (-1) = some (xs.length - 1) by
   rw [Ab]
   unfold ixN
   rw [if_neg (by omega),if_pos (by omega)]
   exact Dq some (by omega)]
 show (xs.map V.ref)[xs.length - 1]? = _
 rw [Ag,h]
 rfl
theorem aXT (os:List Nat):∃ A,cZ os = A ++ [os]:=by
 refine ⟨nK os os.length,?_⟩
 show nK os (os.length + 1) = _
 rw [kX]
 congr 1
 exact pB os
def PapOk (H:Hp) (f:Nat → Option Int) (hs:List (Option (List Nat))) (n:Nat) (cw:List Nat) (p:Addr) (l:List Nat) (u:Addr):Prop:=PaperH H f hs n cw l u ∧ ∀ c l1 l2,H u = some (.tup [.ref c,.ref l1,.ref l2]) → c ≠ p ∧ l1 ≠ p ∧ l2 ≠ p
theorem PapOk.keep {H H':Hp} {f:Nat → Option Int} {hs:List (Option (List Nat))} {n:Nat} {cw:List Nat} {p:Addr} {l:List Nat} {u:Addr} (h:PapOk H f hs n cw p l u) (s:Same H H'):PapOk H' f hs n cw p l u:=by
 refine ⟨h.1.keep s,fun c l1 l2 e => ?_⟩
 obtain ⟨c0,k1,k2,_,_,_,h1,_⟩:=h.1
 have:=s _ _ h1
 rw [this] at e
 cases e
 exact h.2 _ _ _ h1
theorem PapOk.put {H:Hp} {f:Nat → Option Int} {hs:List (Option (List Nat))} {n:Nat} {cw:List Nat} {p:Addr} {l:List Nat} {u:Addr} {xs ys:List V} (h:PapOk H f hs n cw p l u) (hp:H p = some (.lst xs)):PapOk (upd H p (.lst ys)) f hs n cw p l u:=by
 have hn:∀ zs,H p ≠ some (.tup zs):=fun zs z => by rw [hp] at z; cases z
 refine ⟨h.1.put h.2 hn,fun c l1 l2 e => ?_⟩
 obtain ⟨c0,k1,k2,_,_,_,h1,_⟩:=h.1
 rw [aI fun z => hn _ (by rw [← z]; exact h1)] at e
 exact h.2 _ _ _ e
theorem jO {hs:List (Option (List Nat))} {cw ks:List Nat} (ok:dO hs) (hc:cw.length ≤ 7 ∧ ∀ d ∈ cw,bS d) (hk:∀ k ∈ ks,k < hs.length ∧ (hs.getD k none).isSome = true):∀ c ∈ bQ hs cw ks,c.length ≤ 7 ∧ ∀ d ∈ c,bS d:=fun c hcm => by
 rcases Ba.mp hcm with e | e
 · rw [e]; exact hc
 · obtain ⟨k,hkm,rfl⟩:=Bc.mp e
   obtain ⟨hkl,hks⟩:=hk k hkm
   cases eh:hs.getD k none with
   | none => rw [eh] at hks; cases hks
   | some cs =>
     have hb:=ok cs (by
       rw [Ac,Aa hkl] at eh
       rw [← show hs[k] = some cs from eh]
       exact Br hkl)
     have h7c:=eY hb
     rw [Ab] at h7c
     refine ⟨by show (rdC cs).length ≤ 7; rw [uJ]; exact h7c.2,?_⟩
     exact bJ2 hb
def lM (aC:Addr):Sp:=fun vs H Q E => ∃ (a b:Addr) (kvs:List (Key × V)) (f:Nat → Option Int) (us:List V) (hs:List (Option (List Nat))) (n:Nat) (cw:List Nat),vs = [.ref a,.ref b,.int ((n:Nat):Int),.str (bE cw)] ∧ H a = some (.dK kvs) ∧ Lk kvs f ∧ (∀ c,0 ≤ aK f c) ∧ rdL H b = some us ∧ HalsAt H us hs ∧ dO hs ∧ hs.length ≤ 6 ∧ n < hs.length ∧ cw.length ≤ 7 ∧ (∀ d ∈ cw,bS d) ∧
 (∀ (t L p:Addr) (ts:List Addr) (ks:List Nat) (j:Nat) (H':Hp),Same H H' → H t = none → H' t = some (.tup [.ref L,.ref p]) → H L = none → H' L = some (.lst (ks.map fun k => V.int ((k:Nat):Int))) → bX0 f hs n cw ks j → H p = none → H' p = some (.lst (ts.map V.ref)) → ts.length = j → (∀ (i:Nat) u l,ts[i]? = some u → (cZ (aO hs n))[i]? = some l → PaperH H' f hs n cw l u) → Q (.ref t) H') ∧
 ((∀ l,l.Sublist (aO hs n) → ¬ bQ0 f hs n cw l) → ∀ (dx l1 l2:Addr) (rs:List Addr) (W:List Wt) (F:List Nat) (H':Hp),Same H H' → H' dx = some (xdO dx [("flags",.ref l2),("wants",.ref l1)]) → H' l1 = some (.lst (rs.map V.ref)) → WtsAt H' rs W → H' l2 = some (.lst ((F.map one).map V.str)) → LackOk (bQ hs cw (aO hs n)) (nG f hs (n :: aO hs n)) W F → H l1 = none → H l2 = none → E (.ref aC) (some dx) H')
theorem sc_least_set:FnScope ["locker", "halyards", "number", "word", "papers", "lowered", "more", "lack"] ["locker", "halyards", "number", "word"] (aG eG):=⟨rfl,rfl,rfl,by decide +kernel,rfl,by decide +kernel,by decide +kernel⟩
theorem uA {Zw Zz Zx Zy:Addr} {f:Addr} {fd:FuncData} (F:Fun K "least_set" "least_set" eG f fd) (G:Gs K mg Zw Zz Zx Zy) (c_sets_of:Cal P w K mg base 10 "sets_of" ["others"] pO) (c_Lack_init:xM P w K mg base 1 Zw ["self", "wants", "flags"] (fK Zw)) (c_others_hung:Cal P w K mg base 1 "others_hung" ["halyards", "number"] iS) (c_put_in:Cal P w K mg base 2 "put_in" ["locker", "flags"] mX) (c_lack_of:Cal P w K mg base 4 "lack_of" ["locker", "words"] oU) (c_flags_on:Cal P w K mg base 1 "flags_on" ["halyards", "numbers"] jF) (c_words_with:Cal P w K mg base 5 "words_with" ["halyards", "word", "lowered"] gI):FnOk P w K mg base (CXr P w) 11 f fd ["locker", "halyards", "number", "word"] (lM Zw):=by
 refine F.okX sc_least_set (fun vs H Q E h => ?_) (fun cdv A outer s H vs Q E hr h => ?_)
 · obtain ⟨a,b,kvs,f,us,hs,n,cw,rfl,_⟩:=h; rfl
 obtain ⟨a,b,kvs,f,us,hs,n,cw,rfl,ha,lk,hf0,hb,hat,ok,h6,hn,hc7,hcL,q,qe⟩:=h
 refine ⟨_,(@aD _ _ _ _ _ (@aP _ _ 4 _ _ _ _ sc_least_set.nd (by rfl) (by exact (Or.inl rfl)) (cD aF) (by rfl) (by first | exact Or.inl rfl | exact Or.inr rfl)) (@aD _ _ _ _ _ (PS.nox (bV Bf rfl (cB (aU c_sets_of hr (by decide) rfl (aA (aU c_others_hung hr (by decide) rfl (aA (mv 1) (aA (mv 2) aF))) aF))) (aV (i:=5) sc_least_set.nd rfl (Or.inl rfl)) (@aD _ _ _ _ _ (@aP _ _ 6 _ _ _ _ sc_least_set.nd (by rfl) (by exact (Or.inl rfl)) (aU c_put_in hr (by decide) rfl (aA (mv 0) (aA (aU c_flags_on hr (by decide) rfl (aA (mv 1) (aA (aX cH (cD (aA (mv 2) aF)) (mv 5)) aF))) aF))) (by rfl) (by first | exact Or.inl rfl | exact Or.inr rfl)) (@aD _ _ _ _ _ (@aP _ _ 7 _ _ _ _ sc_least_set.nd (by rfl) (by exact (Or.inl rfl)) (aU c_lack_of hr (by decide) rfl (aA (mv 6) (aA (aU c_words_with hr (by decide) rfl (aA (mv 1) (aA (mv 3) (aA (mv 5) aF)))) aF))) (by rfl) (by first | exact Or.inl rfl | exact Or.inr rfl)) (@aD _ _ _ _ _ (cS (bB aQY (mv 7) dA (bF _)) (@aH _ _ _ (aT (iT (aA (mv 5) (aA (mv 4) aF))))) bO) (@aH _ _ _ (dD (fD Ce El Em aQH (mv 4) (aA (iT (aA (mv 5) (aA (bL cO (mv 7) aL (fun _ _ => rfl)) (aA (bL cO (mv 7) aL (fun _ _ => rfl)) aF)))) aF))))))))) (@aH _ _ _ (mC nX rfl rfl rfl G.c_Lack G.xm_Lack c_Lack_init hr (by decide) (aA (bL cO (bL cO (mv 4) (cXD cQZ aL) (fun _ _ => rfl)) aL (fun _ _ => rfl)) (aA (bL cO (bL cO (mv 4) (cXD cQZ aL) (fun _ _ => rfl)) aL (fun _ _ => rfl)) aF)))))),?_⟩
 have hol:=lB hn
 walk_at "go"
 refine ⟨by decide,fun p hp => ?_⟩
 have s1:=aE hp (.lst [])
 have e1:(upd H p (.lst [])) p = some (.lst (([]:List Addr).map V.ref)):=aB
 generalize upd H p (.lst []) = H1 at s1 e1 ⊢
 walk_at "go"
 refine ⟨b,us,hs,n,rfl,aJ s1 hb,hat.keep s1,by omega,fun ro H2 hro s2 eo => ?_⟩
 walk_at "go"
 refine ⟨ro,aO hs n,rfl,aQ eo,by omega,fun rS ps H3 hrS s3 eS ls nd => ?_⟩
 have s13:=s2.trans s3
 walk_at "go"
 have hps:ps.length = (cZ (aO hs n)).length:=by rw [ls.1,Ab]
 have hpl:(ps.map V.ref).length = (cZ (aO hs n)).length:=by rw [Ab,hps]
 have hsl:(cZ (aO hs n)).length ≤ 6 * 6 ^ 5:=Bb (mF (i:=(aO hs n).length + 1) (by omega) (by omega)) (Nat.mul_le_mul_right _ (by omega))
 have e13:=s13 _ _ e1
 have s03:=s1.trans s13
 have lat:∀ (j:Nat) c l,ps[j]? = some c → (cZ (aO hs n))[j]? = some l → H3 c = some (.lst (l.map fun k => V.int ((k:Nat):Int))) ∧ c ≠ p ∧ H c = none:=fun j c l hc hl => by
   obtain ⟨h1,h2⟩:=ls.2 j c (l.map fun k => V.int ((k:Nat):Int)) hc (by rw [Ag,hl]; rfl)
   exact ⟨h2,(fun z => by rw [z,s2 _ _ e1] at h1; cases h1),none_of (s1.trans s2) h1⟩
 have npS:rS ≠ p:=fun z => by rw [z,s2 _ _ e1] at hrS; cases hrS
 have hsub:∀ (j:Nat) l,(cZ (aO hs n))[j]? = some l → l.Sublist (aO hs n):=fun j l h => mem_sets.mp (Ai h)
 refine dB (xs:=ps.map V.ref) (fun i σ H' => ∃ (ts:List Addr) (v5 v6 v7:Option V),σ = [some (.ref a),some (.ref b),some (.int ((n:Nat):Int)),some (.str (bE cw)),some (.ref p),v5,v6,v7] ∧ Same H H' ∧ (∀ z u,z ≠ p → H3 z = some u → H' z = some u) ∧ H' p = some (.lst (ts.map V.ref)) ∧ ts.length = i ∧
     (∀ (j:Nat) u l,ts[j]? = some u → (cZ (aO hs n))[j]? = some l → PapOk H' f hs n cw p l u) ∧ ∀ (j:Nat) l,j < i → (cZ (aO hs n))[j]? = some l → ¬ bQ0 f hs n cw l)
   ⟨[],_,_,_,rfl,s03,fun z u _ h => h,e13,rfl,fun j u l hu => (nomatch hu),fun j l hj => absurd hj (Nat.not_lt_zero _)⟩ (fun i σ H' _ ⟨_,_,_,_,_,_,fr,_⟩ => aQ (fr _ _ npS eS)) ?_ ?_
 · rintro i x σ H4 hx ⟨ts,v5,v6,v7,rfl,s4,fr4,e4,htl,hpap,hno⟩
   have hi:i < (cZ (aO hs n)).length:=by rw [← hpl]; exact (Ad.mp hx).1
   obtain ⟨l,hl⟩:∃ l,(cZ (aO hs n))[i]? = some l:=⟨_,Aa hi⟩
   obtain ⟨c,hc,rfl⟩:=zG hx
   obtain ⟨lc3,ncp,hcn⟩:=lat i c l hc hl
   have lc:=fr4 _ _ ncp lc3
   have hlk:∀ k ∈ l,k < hs.length ∧ (hs.getD k none).isSome = true:=fun k hk => by
     have:=dH ((hsub i l hl).subset hk)
     exact ⟨this.1,this.2.1⟩
   have hll:l.length ≤ 5:=by have:=(hsub i l hl).length_le; omega
   have hb4:=aJ s4 hb
   have hat4:=hat.keep s4
   walk_at "go"
   refine ⟨by show 1 ≤ sizeLine; decide,fun p5 hp5 => ?_⟩
   have s5:=aE hp5 (.lst [V.int ((n:Nat):Int)])
   have e5:(upd H4 p5 (.lst [V.int ((n:Nat):Int)])) p5 = some (.lst [V.int ((n:Nat):Int)]):=aB
   generalize upd H4 p5 (.lst [V.int ((n:Nat):Int)]) = H5 at s5 e5 ⊢
   walk_at "go"
   refine lF (bG e5) (bG (s5 _ _ lc)) (bI (by rw [gE]; show 1 + _ ≤ _; omega)) fun p6 hp6 => ?_
   have s6:=aE hp6 (.lst ((n :: l).map fun k => V.int ((k:Nat):Int)))
   have e6:rdL (upd H5 p6 (.lst ((n :: l).map fun k => V.int ((k:Nat):Int)))) p6 = some ((n :: l).map fun k => V.int ((k:Nat):Int)):=eQ
   change vC _ (upd H5 p6 (.lst ((n :: l).map fun k => V.int ((k:Nat):Int)))) _
   generalize upd H5 p6 (.lst ((n :: l).map fun k => V.int ((k:Nat):Int))) = H6 at s6 e6 ⊢
   have s46:=s5.trans s6
   walk_at "go"
   refine ⟨b,p6,us,hs,n :: l,rfl,aJ s46 hb4,hat4.keep s46,ok,e6,by show l.length + 1 ≤ 7; omega,fun k hk => by rcases Ba.mp hk with e | e; (· rw [e]; exact hn); (· exact (hlk k e).1),fun r7 H7 hr7 s7 e7 => ?_⟩
   have s47:=s46.trans s7
   have fl7:=fQ ok (n :: l)
   walk_at "go"
   refine ⟨a,r7,kvs,f,aM hs (n :: l),rfl,s47 _ _ (s4 _ _ ha),lk,hf0,aQ e7,by rw [Az] at fl7; omega,fun r8 kws H8 hr8 s8 e8 lk8 => ?_⟩
   have s48:=s47.trans s8
   walk_at "go"
   refine ⟨b,c,us,hs,cw,l,rfl,aJ s48 hb4,hat4.keep s48,ok,aQ (s48 _ _ lc),by omega,hlk,fun r9 H9 hr9 s9 e9 => ?_⟩
   have s49:=s48.trans s9
   walk_at "go"
   refine ⟨r8,r9,kws,gL f hs (n :: l),bQ hs cw l,rfl,.inl (s9 _ _ e8),lk8,aQ e9,by unfold bQ; rw [Az,Ab]; omega,jO ok ⟨hc7,hcL⟩ hlk,fun hcan H10 s10 => ?_,fun t0 l1 l2 rs W F H10 s10 ht0 e10 el1 hwt el2 hlo hn1 hn2 => ?_⟩
   · have s410:=s49.trans s10
     walk_at "go"
     rw [show decide (V.non = V.non) = true from rfl]
     walk_at "go"
     refine ⟨by show 2 ≤ sizeLine; decide,fun t ht => ?_⟩
     have s11:=s410.trans (aE ht (.tup [.ref c,.ref p]))
     exact q t c p ts l i _ (s4.trans s11) (none_of (s4.trans s410) ht) aB hcn (s11 _ _ lc) ⟨hl,hcan,hno⟩ hp (s11 _ _ e4) htl fun j u l' hu hl' => ((hpap j u l' hu hl').1.keep s11)
   · have s410:=s49.trans s10
     have n1:l1 ≠ p:=fun z => by rw [z,s49 _ _ e4] at hn1; cases hn1
     have n2:l2 ≠ p:=fun z => by rw [z,s49 _ _ e4] at hn2; cases hn2
     have m10:=bG (s410 _ _ e4)
     have r10:=aQ (s410 _ _ e4)
     have hln:(ts.map V.ref).length < sizeLine:=bD (by rw [Ab,htl]; omega)
     walk_at "go"
     rw [show decide (V.ref t0 = V.non) = false from Av (fun z => nomatch z)]
     walk_at "go"
     refine jI e10 (v:=.ref l1) rfl ?_
     walk_at "go"
     refine jI e10 (v:=.ref l2) rfl ?_
     walk_at "go"
     refine ⟨by show 3 ≤ sizeLine; decide,fun tp htp => ?_⟩
     have s11:=aE htp (.tup [.ref c,.ref l1,.ref l2])
     have e11:(upd H10 tp (.tup [.ref c,.ref l1,.ref l2])) tp = some (.tup [.ref c,.ref l1,.ref l2]):=aB
     generalize upd H10 tp (.tup [.ref c,.ref l1,.ref l2]) = H11 at s11 e11 ⊢
     have s411:=s410.trans s11
     have ep:=s411 _ _ e4
     have m11:=bG ep
     walk_at "go"
     have pnew:PapOk H11 f hs n cw p l tp:=⟨⟨c,l1,l2,rs,W,F,e11,s411 _ _ lc,s11 _ _ el1,⟨hwt.1,fun j q w hq hw => s11 _ _ (hwt.2 j q w hq hw)⟩,s11 _ _ el2,hlo⟩,fun c' k1 k2 e => by rw [e11] at e; cases e; exact ⟨ncp,n1,n2⟩⟩
     refine ⟨ts ++ [tp],_,_,_,rfl,aY hp (s4.trans s411),fun z u hz h => by rw [aI hz]; exact s411 _ _ (fr4 z u hz h),by rw [aB,Ak]; rfl,by rw [Aj,htl]; rfl,fun j u l' hu hl' => ?_,fun j l' hj hl' => ?_⟩
     · by_cases hjl:j < ts.length
       · rw [Au hjl] at hu
         exact ((hpap j u l' hu hl').keep s411).put ep
       · have ej:j = ts.length:=by
           have:=(Ad.mp hu).1
           rw [Aj] at this
           have:j < ts.length + 1:=this
           omega
         rw [ej,Ay (Ah _),Gg] at hu
         cases hu
         rw [ej,htl,hl] at hl'
         cases hl'
         exact pnew.put ep
     · by_cases ej:j = i
       · rw [ej,hl] at hl'
         cases hl'
         exact vL hlo
       · exact hno j l' (by omega) hl'
 · rintro σ H4 ⟨ts,v5,v6,v7,rfl,s4,fr4,e4,htl,hpap,hno⟩
   rw [hpl] at htl hno
   obtain ⟨A0,hA0⟩:=aXT (aO hs n)
   have hlen:(cZ (aO hs n)).length = A0.length + 1:=by rw [hA0,Aj]; rfl
   have hlast:(cZ (aO hs n))[ts.length - 1]? = some (aO hs n):=by
     rw [htl,hlen,hA0,Nat.add_sub_cancel,Ay (Ah _),Gg]
     rfl
   have hu:ts[ts.length - 1]? = some (ts[ts.length - 1]'(by omega)):=Aa (by omega)
   have hpp:=hpap _ _ _ hu hlast
   have au:=wL hu
   generalize ts[ts.length - 1]'(by omega) = u at hpp au
   obtain ⟨⟨c,l1,l2,rs,W,F,h1,h2,h3,h4,h5,h6⟩,_⟩:=hpp
   have r4:=aQ e4
   walk_at "go"
   refine eC r4 au ?_
   walk_at "go"
   refine jI h1 (v:=.ref l1) rfl ?_
   walk_at "go"
   refine eC r4 au ?_
   walk_at "go"
   refine jI h1 (v:=.ref l2) rfl ?_
   walk_at "go"
   refine ⟨by show 2 ≤ sizeLine; decide,fun ea hea => ⟨ea,l1,l2,_,_,rfl,aB,aJ (aE hea _) (aQ h3),aJ (aE hea _) (aQ h5),fun dx k1 k2 H' frx hdx nde g1 g2 g3 g4 hk1 hk2 => ⟨rfl,some dx,g1,?_⟩⟩⟩
   have n1:k1 ≠ ea:=fun z => by rw [z,g1] at g3; cases g3
   have n2:k2 ≠ ea:=fun z => by rw [z,g1] at g4; cases g4
   have go9:∀ b u,H4 b = some u → (del H' ea) b = some u:=fun b u hu => by
     have nb:b ≠ ea:=fun z => by rw [z,hea] at hu; cases hu
     rw [dL nb]
     exact frx b u nb (by rw [aI nb]; exact hu)
   refine qe (fun l hl => ?_) dx k1 k2 rs W F (del H' ea) (fun b u hu => go9 _ _ (s4 _ _ hu)) ((dL nde).trans g2) ((dL n1).trans g3) ⟨h4.1,fun j q w hq hw => go9 _ _ (h4.2 j q w hq hw)⟩ ((dL n2).trans g4) h6 (none_of s4 (by rw [aI n1] at hk1; exact hk1)) (none_of s4 (by rw [aI n2] at hk2; exact hk2))
   obtain ⟨j,hj,ej⟩:=Ca.mp (mem_sets.mpr hl)
   exact hno j l hj (by rw [Aa hj,ej])
theorem uV:∀ {cws:List (List Nat)} {fs:List Nat} {i:Nat} {cw:List Nat},cws[i]? = some cw → (mL cws fs)[i]? = some ((fs.drop (fG cws i)).take cw.length)
 | [],_,i,_,h => by cases h
 | c :: r,fs,0,cw,h => by cases h; rfl
 | c :: r,fs,i + 1,cw,h => by
   show (mL r (fs.drop c.length))[i]? = _
   rw [uV (show r[i]? = some cw from h),List.drop_drop]
   rfl
theorem bZ0 (cs:List Nat) (c:Nat):cnt cs c = (ctn cs c:Int):=by
 unfold cnt ctn
 refine Dq (fun n:Nat => (n:Int)) (List.countP_congr fun x _ => ?_)
 simp
theorem iX {α:Type} {p:List α → Prop} (h0:p []) (h1:∀ l a,p l → p (l ++ [a])):∀ l,p l:=fun l => by
 have h:∀ r:List α,p r.reverse:=fun r => by
   induction r with
   | nil => exact h0
   | cons a r ih => rw [List.reverse_cons]; exact h1 _ _ ih
 have:=h l.reverse
 rwa [List.reverse_reverse] at this
def fW (hs:List (Option (List Nat))) (zs:List (Nat × List Nat)):List (Option (List Nat)):=zs.foldl (fun h z => h.set z.1 (some z.2)) hs
theorem fT (hs:List (Option (List Nat))) (zs:List (Nat × List Nat)) (z:Nat × List Nat):fW hs (zs ++ [z]) = (fW hs zs).set z.1 (some z.2):=by
 unfold fW
 rw [Gf]
 rfl
theorem eO (hs:List (Option (List Nat))):∀ zs:List (Nat × List Nat),(fW hs zs).length = hs.length:=fun zs => by
 refine iX (p:=fun zs => (fW hs zs).length = hs.length) rfl (fun zs z ih => ?_) zs
 rw [fT,Cg,ih]
theorem pD (hs:List (Option (List Nat))) {k:Nat}:∀ zs:List (Nat × List Nat),(∀ z ∈ zs,z.1 ≠ k) → (fW hs zs).getD k none = hs.getD k none:=fun zs => by
 refine iX (p:=fun zs => (∀ z ∈ zs,z.1 ≠ k) → (fW hs zs).getD k none = hs.getD k none) (fun _ => rfl) (fun zs z ih => ?_) zs
 · intro h
   rw [fT,Ac,Cs (h z (Bg _ An)),← Ac]
   exact ih fun y hy => h y (Bt _ hy)
theorem zQ (hs:List (Option (List Nat))):∀ (zs:List (Nat × List Nat)),(zs.map (·.1)).Nodup → (∀ z ∈ zs,z.1 < hs.length) → ∀ z ∈ zs,(fW hs zs).getD z.1 none = some z.2:=fun zs => by
 refine iX (p:=fun zs => (zs.map (·.1)).Nodup → (∀ z ∈ zs,z.1 < hs.length) → ∀ z ∈ zs,(fW hs zs).getD z.1 none = some z.2) (fun _ _ z hz => nomatch hz) (fun zs y ih => ?_) zs
 · intro nd hl z hz
   rw [Ak,Ap,Fm] at nd
   rw [fT]
   rcases Bi.mp hz with e | e
   · have ne:y.1 ≠ z.1:=fun q => (Cr.mp nd).2.2 z.1 (List.mem_map_of_mem e) y.1 An q.symm
     rw [Ac,Cs ne,← Ac]
     exact ih (Cr.mp nd).1 (fun w hw => hl w (Bt _ hw)) z e
   · rw [As.mp e,Ac,Cu (by rw [eO]; exact hl y (Bg _ An))]
     rfl
theorem zK {hs:List (Option (List Nat))} (ok:dO hs):∀ zs:List (Nat × List Nat),(∀ z ∈ zs,cI (z.2.map one) = true) → dO (fW hs zs):=fun zs => by
 refine iX (p:=fun zs => (∀ z ∈ zs,cI (z.2.map one) = true) → dO (fW hs zs)) (fun _ => ok) (fun zs z ih => ?_) zs
 intro h cs hcs
 rw [fT] at hcs
 rcases Ed hcs with e | e
 · exact ih (fun y hy => h y (Bt _ hy)) cs e
 · cases e
   exact h z (Bg _ An)
theorem uR {hs:List (Option (List Nat))}:∀ {L:List Nat} {gs:List (List Nat)},L.length = gs.length → (∀ z ∈ L.zip gs,hs.getD z.1 none = some z.2) → aM hs L = gs.flatten
 | [],[],_,_ => rfl
 | k :: L,g :: gs,hl,h => by
   show ((hs.getD k none).getD []) ++ aM hs L = g ++ gs.flatten
   rw [show hs.getD k none = some g from h (k,g) List.mem_cons_self,uR (by simpa using hl) fun z hz => h z (List.mem_cons_of_mem _ hz)]
   rfl
 | [],_ :: _,hl,_ => by cases hl
 | _ :: _,[],hl,_ => by cases hl
theorem HalsAt.set {H:Hp} {vs:List V} {hs:List (Option (List Nat))} {k:Nat} {v:V} {h:Option (List Nat)} (a:HalsAt H vs hs) (b:HalV H v h):HalsAt H (vs.set k v) (hs.set k h):=by
 refine ⟨by rw [Cg,Cg,a.len],fun j u g hu hg => ?_⟩
 by_cases e:k = j
 · subst e
   have h1:=(Ad.mp hu).1
   have h2:=(Ad.mp hg).1
   rw [Cg] at h1 h2
   rw [Cu h1] at hu
   rw [Cu h2] at hg
   cases hu
   cases hg
   exact b
 · rw [Cs e] at hu hg
   exact a.val j u g hu hg
theorem xR {H H':Hp} {p D:Addr} {xs:List V} (h:rdL H p = some xs) (n:p ≠ D) (fr:∀ z u,z ≠ D → H z = some u → H' z = some u):rdL H' p = some xs:=by
 refine aJ (H:=fun z => if z = p then H z else none) (fun z u e => ?_) ?_
 · dsimp only at e
   by_cases zp:z = p
   · rw [if_pos zp] at e; rw [zp] at e ⊢; exact fr p u n e
   · rw [if_neg zp] at e; cases e
 · unfold rdL at h ⊢
   dsimp only
   rw [if_pos rfl]
   exact h
theorem aJ7 {α β:Type} {L:List α} {M:List β} {i:Nat} {a:α} {b:β} (h1:L[i]? = some a) (h2:M[i]? = some b):(L.zip M).take (i + 1) = (L.zip M).take i ++ [(a,b)]:=by
 rw [Aw]
 congr 1
 have:(L.zip M)[i]? = some (a,b):=by rw [List.getElem?_zip_eq_some]; exact ⟨h1,h2⟩
 rw [this]
 rfl
theorem dQA {cw:List Nat} {k c:Nat} (hL:∀ d ∈ cw,bS d) (hk:k < cw.length) (h:c ∈ chs cw k):fJ c:=by
 rcases ch_iff.mp h with e | ⟨m,_,h4,_,e⟩
 · left
   rw [e,Ac,Aa hk]
   exact hL _ (Br hk)
 · right
   rw [e]
   unfold dC
   omega
theorem aJP:∀ {cws gs:List (List Nat)},Hgs cws gs → (∀ c ∈ cws,1 ≤ c.length ∧ c.length ≤ 7 ∧ ∀ d ∈ c,bS d) → (∀ g ∈ gs,cI (g.map one) = true ∧ ∀ c ∈ g,fJ c)
 | _,_,.nil,_,g,hg => nomatch hg
 | _,_,.cons (cw:=cw) (h:=h) a b,hW,g,hg => by
   rcases Ba.mp hg with e | e
   · rw [e]
     obtain ⟨h1,h7,hL⟩:=hW cw An
     refine ⟨aZY hL (by rw [a.1]; exact h1) (by rw [a.1]; exact h7) (by rw [a.1]; exact Ah _) fun k hk => ?_,fun c hc => ?_⟩
     · exact a.2 k _ (by rw [Ac,Aa hk]; rfl)
     · obtain ⟨k,hk,ek⟩:=Ca.mp hc
       exact dQA hL (by rw [← a.1]; exact hk) (a.2 k c (by rw [Aa hk,ek]))
   · exact aJP b (fun c hc => hW c (Ao _ hc)) g e
theorem Hgs.lens:∀ {cws gs:List (List Nat)},Hgs cws gs → gs.length = cws.length
 | _,_,.nil => rfl
 | _,_,.cons _ b => by rw [Az,Az,b.lens]
theorem nO (f:Nat → Option Int) (hs:List (Option (List Nat))) (L:List Nat) (c:Nat):0 ≤ aK (gL f hs L) c:=by
 show 0 ≤ (bA _ c).getD 0
 unfold bA
 split
 · rename_i h; exact Int.le_of_lt h.2
 · exact Gq _
theorem aXV (hs:List (Option (List Nat))) (n:Nat):(aO hs n).Nodup:=List.Nodup.sublist Ep List.nodup_range
theorem mD {hs:List (Option (List Nat))} {n:Nat} {ks:List Nat} (h:ks.Sublist (aO hs n)):(n :: ks).Nodup:=Bx.mpr ⟨fun z => (dH (h.subset z)).2.2 rfl,(aXV hs n).sublist h⟩
theorem pU {hs:List (Option (List Nat))} {cw ks:List Nat} (ok:dO hs) (h1:1 ≤ cw.length) (hc:cw.length ≤ 7 ∧ ∀ d ∈ cw,bS d) (hk:∀ k ∈ ks,k < hs.length ∧ (hs.getD k none).isSome = true):∀ c ∈ bQ hs cw ks,1 ≤ c.length ∧ c.length ≤ 7 ∧ ∀ d ∈ c,bS d:=fun c hcm => by
 refine ⟨?_,jO ok hc hk c hcm⟩
 rcases Ba.mp hcm with e | e
 · rw [e]; exact h1
 · obtain ⟨k,hkm,rfl⟩:=Bc.mp e
   obtain ⟨hkl,hks⟩:=hk k hkm
   cases eh:hs.getD k none with
   | none => rw [eh] at hks; cases hks
   | some cs =>
     have hb:=ok cs (by
       rw [Ac,Aa hkl] at eh
       rw [← show hs[k] = some cs from eh]
       exact Br hkl)
     have h7c:=eY hb
     rw [Ab] at h7c
     show 1 ≤ (rdC cs).length
     rw [uJ]
     exact h7c.1
def aZ4 (H:Hp) (a b:Addr) (kvs:List (Key × V)) (f:Nat → Option Int) (us:List V) (hs:List (Option (List Nat))) (n:Nat) (cw:List Nat):Prop:=H a = some (.dK kvs) ∧ Lk kvs f ∧ (∀ c,0 ≤ aK f c) ∧ rdL H b = some us ∧ HalsAt H us hs ∧ dO hs ∧ hs.length ≤ 6 ∧ n < hs.length ∧ 1 ≤ cw.length ∧ cw.length ≤ 7 ∧ (∀ d ∈ cw,bS d)
def qV (aC:Addr):Sp:=fun vs H Q E => ∃ (a b:Addr) (kvs:List (Key × V)) (f:Nat → Option Int) (us:List V) (hs:List (Option (List Nat))) (n:Nat) (cw:List Nat),vs = [.ref a,.ref b,.int ((n:Nat):Int),.str (bE cw)] ∧ aZ4 H a b kvs f us hs n cw ∧
 (∀ (t L B R:Addr) (ks:List Nat) (gs:List (List Nat)) (j:Nat) (vs':List V) (kws:List (Key × V)) (H':Hp),Same H H' → H t = none → H' t = some (.tup [.ref L,.ref B,.ref R]) → H L = none → H' L = some (.lst (ks.map fun k => V.int ((k:Nat):Int))) → bX0 f hs n cw ks j → Hgs (bQ hs cw ks) gs → (∀ c,cnt gs.flatten c ≤ aK (gL f hs (n :: ks)) c) → H B = none → H' B = some (.lst vs') → HalsAt H' vs' (fW hs ((n :: ks).zip gs)) → H R = none → H' R = some (.dK kws) → Lk kws (bA fun c => aK (gL f hs (n :: ks)) c - cnt gs.flatten c) → (∀ p,V.ref p ∈ vs' → H p = none) → Q (.ref t) H') ∧
 ((∀ l,l.Sublist (aO hs n) → ¬ bQ0 f hs n cw l) → ∀ (dx l1 l2:Addr) (rs:List Addr) (W:List Wt) (F:List Nat) (H':Hp),Same H H' → H' dx = some (xdO dx [("flags",.ref l2),("wants",.ref l1)]) → H' l1 = some (.lst (rs.map V.ref)) → WtsAt H' rs W → H' l2 = some (.lst ((F.map one).map V.str)) → LackOk (bQ hs cw (aO hs n)) (nG f hs (n :: aO hs n)) W F → H l1 = none → H l2 = none → E (.ref aC) (some dx) H')
theorem sc_hauled:FnScope ["locker", "halyards", "number", "word", "lowered", "rehung", "more", "behind", "at", "hoist"] ["locker", "halyards", "number", "word"] (aG hU):=⟨rfl,rfl,rfl,by decide +kernel,rfl,by decide +kernel,by decide +kernel⟩
theorem aX7 {Zw Zz Zx Zy:Addr} {f:Addr} {fd:FuncData} (F:Fun K "hauled" "hauled" hU f fd) (G:Gs K mg Zw Zz Zx Zy) (c_put_in:Cal P w K mg base 2 "put_in" ["locker", "flags"] mX) (c_least_set:tV P w K mg base 11 "least_set" ["locker", "halyards", "number", "word"] (lM Zw)) (c_flags_on:Cal P w K mg base 1 "flags_on" ["halyards", "numbers"] jF) (c_hang_all:tV P w K mg base 3 "hang_all" ["locker", "words"] (iW Zw)) (c_taken:tV P w K mg base 3 "taken" ["locker", "flags"] (vG Zx)) (c_words_with:Cal P w K mg base 5 "words_with" ["halyards", "word", "lowered"] gI):FnOk P w K mg base (CXr P w) 12 f fd ["locker", "halyards", "number", "word"] (qV Zw):=by
 refine F.okX sc_hauled (fun vs H Q E h => ?_) (fun cdv A outer s H vs Q E hr h => ?_)
 · obtain ⟨a,b,kvs,f,us,hs,n,cw,rfl,_⟩:=h; rfl
 obtain ⟨a,b,kvs,f,us,hs,n,cw,rfl,⟨ha,lk,hf0,hb,hat,ok,h6,hn,hc1,hc7,hcL⟩,q,qe⟩:=h
 refine ⟨_,(@aD _ _ _ _ _ (@aP _ _ 4 _ _ _ _ sc_hauled.nd (by rfl) (by exact (Or.inl rfl)) (bL cO (nV c_least_set mY hr (by decide) rfl (aA (mv 0) (aA (mv 1) (aA (mv 2) (aA (mv 3) aF))))) aL (fun _ _ => rfl)) (by rfl) (by first | exact Or.inl rfl | exact Or.inr rfl)) (@aD _ _ _ _ _ (@aP _ _ 5 _ _ _ _ sc_hauled.nd (by rfl) (by exact (Or.inl rfl)) (aX cH (cD (aA (mv 2) aF)) (mv 4)) (by rfl) (by first | exact Or.inl rfl | exact Or.inr rfl)) (@aD _ _ _ _ _ (@aP _ _ 6 _ _ _ _ sc_hauled.nd (by rfl) (by exact (Or.inl rfl)) (aU c_put_in hr (by decide) rfl (aA (mv 0) (aA (aU c_flags_on hr (by decide) rfl (aA (mv 1) (aA (mv 5) aF))) aF))) (by rfl) (by first | exact Or.inl rfl | exact Or.inr rfl)) (@aD _ _ _ _ _ (nY (i:=7) sc_hauled.nd rfl (Or.inl rfl) rfl (cB (mv 1)) (cQ4 (N:=["hoist"]) (by decide +kernel) (by decide +kernel)) (by decide +kernel) rfl (by decide +kernel) (fun C s₀ H₀ ex => (aV (i:=0) (show List.Nodup (["hoist"]:List Str) by decide +kernel) rfl (Or.inl rfl))) (fun C s₀ H₀ ex => jA) (fun C s₀ H₀ ex => (bXX (bB aQY (mv 0) dA (bF _)) dA (bT mU rfl G.b_list hX (aA (mv 0) aF))))) (@aD _ _ _ _ _ (bV PassesOwn.leaving rfl (bXF rfl G.b_zip (aA (mv 5) (aA (nV c_hang_all mY hr (by decide) rfl (aA (mv 6) (aA (aU c_words_with hr (by decide) rfl (aA (mv 1) (aA (mv 3) (aA (mv 4) aF)))) aF))) aF))) (iL (K:=K) (i:=8) (j:=9) (by rfl) (by rfl) sc_hauled.nd (by rfl) (by exact (Or.inl rfl)) (by exact Or.inl rfl) (by rfl) (by exact (Or.inl rfl)) (by exact Or.inl rfl)) (@aH _ _ _ (sU (mv 9) (tH (mv 7) (mv 8) lI)))) (@aH _ _ _ (aT (iT (aA (mv 4) (aA (mv 7) (aA (nV c_taken mY hr (by decide) rfl (aA (mv 6) (aA (aU c_flags_on hr (by decide) rfl (aA (mv 7) (aA (mv 5) aF))) aF))) aF))))))))))),?_⟩
 have hol:=lB hn
 walk_at "go"
 refine ⟨a,b,kvs,f,us,hs,n,cw,rfl,ha,lk,hf0,hb,hat,ok,h6,hn,hc7,hcL,fun t0 L p0 ts ks j H1 s1 ht0 et hL eL hfst _ _ _ _ => ?_,qe⟩
 have hks:=mem_sets.mp (Ai hfst.1)
 have hlk:∀ k ∈ ks,k < hs.length ∧ (hs.getD k none).isSome = true:=fun k hk => by
   have:=dH (hks.subset hk)
   exact ⟨this.1,this.2.1⟩
 have hkl:ks.length ≤ 5:=by have:=hks.length_le; omega
 have hb1:=aJ s1 hb
 have hat1:=hat.keep s1
 refine jI et (v:=.ref L) rfl ?_
 walk_at "go"
 refine ⟨by show 1 ≤ sizeLine; decide,fun p5 hp5 => ?_⟩
 have s5:=aE hp5 (.lst [V.int ((n:Nat):Int)])
 have e5:(upd H1 p5 (.lst [V.int ((n:Nat):Int)])) p5 = some (.lst [V.int ((n:Nat):Int)]):=aB
 generalize upd H1 p5 (.lst [V.int ((n:Nat):Int)]) = H5 at s5 e5 ⊢
 walk_at "go"
 refine lF (bG e5) (bG (s5 _ _ eL)) (bI (by rw [gE]; show 1 + _ ≤ _; omega)) fun p6 hp6 => ?_
 have s6:=aE hp6 (.lst ((n :: ks).map fun k => V.int ((k:Nat):Int)))
 have e6:rdL (upd H5 p6 (.lst ((n :: ks).map fun k => V.int ((k:Nat):Int)))) p6 = some ((n :: ks).map fun k => V.int ((k:Nat):Int)):=eQ
 change pS _ _ _ (upd H5 p6 (.lst ((n :: ks).map fun k => V.int ((k:Nat):Int)))) _
 generalize upd H5 p6 (.lst ((n :: ks).map fun k => V.int ((k:Nat):Int))) = H6 at s6 e6 ⊢
 have s16:=s5.trans s6
 walk_at "go"
 refine ⟨b,p6,us,hs,n :: ks,rfl,aJ s16 hb1,hat1.keep s16,ok,e6,by show ks.length + 1 ≤ 7; omega,fun k hk => by rcases Ba.mp hk with e | e; (· rw [e]; exact hn); (· exact (hlk k e).1),fun r7 H7 hr7 s7 e7 => ?_⟩
 have s17:=s16.trans s7
 have fl7:=fQ ok (n :: ks)
 walk_at "go"
 refine ⟨a,r7,kvs,f,aM hs (n :: ks),rfl,s17 _ _ (s1 _ _ ha),lk,hf0,aQ e7,by rw [Az] at fl7; omega,fun r8 kws H8 hr8 s8 e8 lk8 => ?_⟩
 have s18:=s17.trans s8
 have e68:=aJ (s7.trans s8) e6
 have hb8:=aJ s18 hb1
 have hat8:=hat1.keep s18
 have hul:=hat.len
 walk_at "go"
 refine cQA (hs:=hs) hb8 (bD (by omega)) hul (fun i x h Hc A B hx hh sm hA => ?_) (fun D Hd vs hD sD hd hatD hfr => ?_)
 · have hv:=(hat8.keep sm).val i x h hx hh
   cases h with
   | none =>
     obtain rfl:x = V.non:=hv
     walk_at "go"
     refine ⟨Wk.set rfl (Wk.refl _),?_⟩
     walk_at "go"
     rw [show decide (V.non = V.non) = true from rfl]
     walk_at "go"
     exact hA .non _ (Same.refl _) rfl fun p z => nomatch z
   | some cs =>
     obtain ⟨pc,rfl,hpc⟩:=hv
     have rc:=aQ hpc
     walk_at "go"
     refine ⟨Wk.set rfl (Wk.refl _),?_⟩
     walk_at "go"
     rw [show decide (V.ref pc = V.non) = false from Av (fun z => nomatch z)]
     walk_at "go"
     intro l2 hl2
     exact hA (.ref l2) _ (aE hl2 _) ⟨l2,rfl,aB⟩ fun p z => by cases z; exact hl2
 · have s1D:=s18.trans sD
   have e6D:=aJ sD e68
   have eLD:=s1D _ _ eL
   walk_at "go"
   refine ⟨b,L,us,hs,cw,ks,rfl,aJ s1D hb1,hat1.keep s1D,ok,aQ eLD,by omega,hlk,fun r9 H9 hr9 s9 e9 => ?_⟩
   walk_at "go"
   refine ⟨r8,r9,kws,gL f hs (n :: ks),bQ hs cw ks,rfl,.inl (s9 _ _ (sD _ _ e8)),lk8,aQ e9,by unfold bQ; rw [Az,Ab]; omega,jO ok ⟨hc7,hcL⟩ hlk,fun rh ps fs H10 hrh s10 er hne hls hfl hch hct => ?_,fun dx l1 l2 rs W F H10 s10 _ _ _ _ hlo _ _ => absurd hfst.2.1 (vL hlo)⟩
   have sD10:=s9.trans s10
   have hgs:=xU hfl hch
   have hflat:=kA (hfl.trans (uF (bQ hs cw ks)))
   have hgl:=hgs.lens
   have hpg:∀ (i:Nat) p g,ps[i]? = some p → (mL (bQ hs cw ks) fs)[i]? = some g → H10 p = some (.lst ((g.map one).map V.str)) ∧ p ≠ D ∧ H8 p = none:=fun i p g hp hg => by
     have hi:i < (bQ hs cw ks).length:=by rw [← hgl]; exact (Ad.mp hg).1
     have ec:(bQ hs cw ks)[i]? = some (bQ hs cw ks)[i]:=Aa hi
     rw [uV ec] at hg
     obtain ⟨h1,h2⟩:=hls.2 i p (kT (bQ hs cw ks) fs i) hp (by rw [Ag,Fs hi]; rfl)
     refine ⟨?_,(fun z => by rw [z,s9 _ _ hd] at h1; cases h1),none_of (sD.trans s9) h1⟩
     unfold kT at h2
     rw [Ac,ec] at h2
     cases hg
     exact h2
   have hcnt:∀ c,cnt (mL (bQ hs cw ks) fs).flatten c ≤ aK (gL f hs (n :: ks)) c:=fun c => by
     rw [hflat,bZ0]
     exact Int.le_trans (hct c) (bXZ (nO f hs (n :: ks)) c)
   have hwone:=pU ok hc1 ⟨hc7,hcL⟩ hlk
   have hgf:=aJP hgs hwone
   have hpsl:ps.length = (mL (bQ hs cw ks) fs).length:=by rw [hls.1,Ab,Bz,hgl]
   have hgl2:(mL (bQ hs cw ks) fs).length = (n :: ks).length:=by rw [hgl]; show ((ks.map _).length + 1) = ks.length + 1; rw [Ab]
   generalize mL (bQ hs cw ks) fs = gs at hgs hflat hgl hpg hcnt hgf hpsl hgl2
   have e610:=aJ sD10 e6D
   have er10:=aQ er
   have eD10:=sD10 _ _ hd
   have hat10:=hatD.keep sD10
   have nd6:p6 ≠ D:=fun z => by rw [z] at e68; unfold rdL at e68; rw [hD] at e68; cases e68
   have ndh:rh ≠ D:=fun z => by rw [z,s9 _ _ hd] at hrh; cases hrh
   have s810:=sD.trans sD10
   walk_at "go"
   refine bXI (xs:=((n :: ks).map fun k => V.int ((k:Nat):Int))) (ys:=ps.map V.ref) (fun i σ H' => ∃ (v8 v9:Option V) (ws:List V),σ = [some (.ref a),some (.ref b),some (.int ((n:Nat):Int)),some (.str (bE cw)),some (.ref L),some (.ref p6),some (.ref r8),some (.ref D),v8,v9] ∧ Same H8 H' ∧ (∀ z u,z ≠ D → H10 z = some u → H' z = some u) ∧ H' D = some (.lst ws) ∧ HalsAt H' ws (fW hs (((n :: ks).zip gs).take i)) ∧ ∀ p,V.ref p ∈ ws → H8 p = none)
     ⟨_,_,vs,rfl,s810,(fun z u _ h => h),eD10,hat10,hfr⟩ (fun i σ H' _ _ ⟨_,_,_,_,_,fr,_⟩ => ⟨xR e610 nd6 fr,xR er10 ndh fr⟩) ?_ ?_
   · rintro i x y σ H11 pt hx hy ⟨v8,v9,ws,rfl,s11,fr11,e11,hat11,hfr11⟩ hpt
     obtain ⟨k,hk,rfl⟩:=jU hx
     obtain ⟨pg,hpgi,rfl⟩:=zG hy
     have hig:i < gs.length:=by rw [← hpsl]; exact (Ad.mp hpgi).1
     have eg:gs[i]? = some gs[i]:=Aa hig
     obtain ⟨hp10,npD,hpn⟩:=hpg i pg _ hpgi eg
     have hp11:=fr11 _ _ npD hp10
     have hkl2:k < hs.length:=by rcases Ba.mp (Ai hk) with e | e; (· rw [e]; exact hn); (· exact (hlk k e).1)
     have hwl:ws.length = hs.length:=by rw [hat11.len,eO]
     have tk:=aJ7 hk eg
     generalize gs[i] = g at eg hp10 hp11 tk
     have s12:=aE hpt (.tup [.int ((k:Nat):Int),.ref pg])
     have t12:kC (upd H11 pt (.tup [.int ((k:Nat):Int),.ref pg])) pt = some [.int ((k:Nat):Int),.ref pg]:=jW
     have e12:=s12 _ _ e11
     have hat12:=hat11.keep s12
     have hp12:=s12 _ _ hp11
     generalize upd H11 pt (.tup [.int ((k:Nat):Int),.ref pg]) = H12 at s12 t12 e12 hat12 hp12 ⊢
     walk_at "go"
     refine aQ4 (o:=.non) (bG e12) (sW (by omega) (by rw [hwl]; omega)) ?_
     rw [show ((k:Nat):Int).toNat = k from rfl]
     refine ⟨_,_,ws.set k (.ref pg),rfl,aY hD (s11.trans s12),fun z u hz h => by rw [aI hz]; exact s12 _ _ (fr11 z u hz h),aB,?_,fun p hp => ?_⟩
     rotate_left
     · rcases Ed hp with e | e
       · exact hfr11 p e
       · cases e; exact hpn
     rw [tk,fT]
     exact (hat12.put e12).set ⟨pg,rfl,by rw [aI npD]; exact hp12⟩
   · rintro σ H11 ⟨v8,v9,ws,rfl,s11,fr11,e11,hat11,hfr11⟩
     have hzl:((n :: ks).zip gs).length = (n :: ks).length:=by rw [List.length_zip,hgl2,Nat.min_self]
     rw [gE,Ab,hpsl,hgl2,Nat.min_self,← hzl,Bh] at hat11
     have hzk:∀ z ∈ (n :: ks).zip gs,z.1 ∈ n :: ks ∧ z.2 ∈ gs:=fun z hz => Dt hz
     have ok':dO (fW hs ((n :: ks).zip gs)):=zK ok _ fun z hz => (hgf z.2 (hzk z hz).2).1
     have hkk:∀ k ∈ n :: ks,k < hs.length:=fun k hk => by rcases Ba.mp hk with e | e; (· rw [e]; exact hn); (· exact (hlk k e).1)
     have ndz:(((n :: ks).zip gs).map (·.1)).Nodup:=by
       rw [show ((n :: ks).zip gs).map (·.1) = n :: ks from List.map_fst_zip (by rw [hgl2]; exact Ah _)]
       exact mD hks
     have hfo:aM (fW hs ((n :: ks).zip gs)) (n :: ks) = gs.flatten:=uR hgl2.symm (zQ hs _ ndz fun z hz => hkk z.1 (hzk z hz).1)
     have e6b:=xR e610 nd6 fr11
     have e8b:H11 r8 = some (.dK kws):=s11 _ _ e8
     walk_at "go"
     refine ⟨D,p6,ws,_,n :: ks,rfl,aQ e11,hat11,ok',e6b,by show ks.length + 1 ≤ 7; omega,fun k hk => by rw [eO]; exact hkk k hk,fun r12 H12 hr12 s12 e12 => ?_⟩
     rw [hfo] at e12
     have hfle:gs.flatten.length ≤ 42:=by
       have:=fQ ok' (n :: ks)
       rw [hfo,Az] at this
       omega
     walk_at "go"
     refine ⟨r8,r12,kws,gL f hs (n :: ks),gs.flatten,rfl,s12 _ _ e8b,lk8,nO f hs (n :: ks),aQ e12,by omega,fun c hc => by obtain ⟨g,hg,hcg⟩:=List.mem_flatten.mp hc; exact (hgf g hg).2 c hcg,fun _ rR kwR H13 hrR s13 eR lkR => ?_,fun i c hi _ hle => ?_⟩
     · walk_at "go"
       refine ⟨by show 3 ≤ sizeLine; decide,fun t ht => ?_⟩
       have k14:=aE ht (.tup [.ref L,.ref D,.ref rR])
       have s114:=s12.trans (s13.trans k14)
       have sH11:Same H H11:=s1.trans (s18.trans s11)
       refine q t L D rR ks gs j ws kwR _ (sH11.trans s114) (none_of (sH11.trans (s12.trans s13)) ht) aB hL (s114 _ _ (s11 _ _ (s18 _ _ eL))) hfst hgs hcnt (none_of (s1.trans s18) hD) (s114 _ _ e11) (hat11.keep s114) (none_of (sH11.trans s12) hrR) (k14 _ _ eR) lkR (fun p hp => none_of (s1.trans s18) (hfr11 p hp))
     · have h1:=cJU hi
       have h2:=hcnt c
       omega
def jH:Sp:=fun vs H Q _ => ∃ c m:Int,vs = [.int c,.int m] ∧ 0 ≤ m ∧ m ≤ 1000 ∧
 ∀ (r:Addr) (ns:List Int) (H':Hp),H r = none → Same H H' → ns.length = m.toNat → (∀ n ∈ ns,0 ≤ n) → H' r = some (.lst (ns.map V.int)) → Q (.ref r) H'
def qX (K:PySem.W.Frag):Sp:=fun vs H Q _ => ∃ (a:Addr) (ns:List Int) (k:Int),vs = [.ref a,.int k] ∧ SqL K H a (ns.map V.int) ∧ 0 ≤ k ∧ ∀ n:Int,Q (.int n) H
theorem aZN:FnScope ["_law_script", "_law_k"] ["_law_script", "_law_k"] (aG gN):=⟨rfl,rfl,rfl,by decide +kernel,rfl,by decide +kernel,by decide +kernel⟩
theorem aXA {Zw Zz Zx Zy:Addr} {f:Addr} {fd:FuncData} (F:Fun K "_law_cell" "_law_cell" gN f fd) (G:Gs K mg Zw Zz Zx Zy)  : FnOk P w K mg base CX0 1 f fd ["_law_script", "_law_k"] (qX K):=by
 refine F.ok aZN (fun vs H Q E h => ?_) (fun cdv A outer s H vs Q E hr h => ?_)
 · obtain ⟨a,ns,k,rfl,_⟩:=h; rfl
 obtain ⟨a,ns,k,rfl,hS,h0,q⟩:=h
 refine ⟨_,(@aD _ _ _ _ _ (cS (bB bX5 (mv 1) (bJ tT rfl G.b_len cQ (aA (mv 0) aF)) (bF _)) (@aH _ _ _ (aT (bL ix_list (mv 0) (mv 1) (fun _ _ => rfl)))) bO) (@aH _ _ _ (aT aL))),?_⟩
 walk_at "go"
 refine ⟨_,_,rfl,.inl hS,?_⟩
 have hnl:(ns.map V.int).length = ns.length:=Ab ..
 rw [hnl]
 walk_at "go"
 refine fZ (fun hd => ?_) (fun hd => ?_)
 · have hd':=Be hd
   obtain ⟨n,_,an⟩:=lO (ns:=ns) (i:=k) h0 hd'
   walk_at "go"
   exact cJ6 hS an (q n)
 · walk_at "go"
   exact q 0
theorem sc_l_stream:FnScope ["_law_cell_here", "_law_many", "_law_number", "_law_found", "_law_k"] ["_law_cell_here", "_law_many"] (aG fB):=⟨rfl,rfl,rfl,by decide +kernel,rfl,by decide +kernel,by decide +kernel⟩
theorem vX {Zw Zz Zx Zy:Addr} {f:Addr} {fd:FuncData} (F:Fun K "_law_stream" "_law_stream" fB f fd) (G:Gs K mg Zw Zz Zx Zy)  : FnOk P w K mg base CX0 1 f fd ["_law_cell_here", "_law_many"] jH:=by
 refine F.ok sc_l_stream (fun vs H Q E h => ?_) (fun cdv A outer s H vs Q E hr h => ?_)
 · obtain ⟨c,m,rfl,_⟩:=h; rfl
 obtain ⟨c,m,rfl,h0,h1,q⟩:=h
 refine ⟨_,(@aD _ _ _ _ _ (@aP _ _ 2 _ _ _ _ sc_l_stream.nd (by rfl) (by exact (Or.inl rfl)) (aX cH (aX iO (mv 0) aL) aL) (by rfl) (by first | exact Or.inl rfl | exact Or.inr rfl)) (@aD _ _ _ _ _ (@aP _ _ 3 _ _ _ _ sc_l_stream.nd (by rfl) (by exact (Or.inl rfl)) (cD aF) (by rfl) (by first | exact Or.inl rfl | exact Or.inr rfl)) (@aD _ _ _ _ _ (bV Bf rfl (fN rfl G.b_range (aA (mv 1) aF)) (aV (i:=4) sc_l_stream.nd rfl (Or.inl rfl)) (@aD _ _ _ _ _ (@aP _ _ 2 _ _ _ _ sc_l_stream.nd (by rfl) (by exact (Or.inl rfl)) (aX iO (aX cH (aX cH (aX cH (aX bX8 (mv 2) (mv 2)) (aX bX8 aL (mv 2))) (aX bX8 aL (mv 4))) aL) aL) (by rfl) (by first | exact Or.inl rfl | exact Or.inr rfl)) (@aH _ _ _ (dD (fD Ce El Em aQH (mv 3) (aA (aX uD (mv 2) aL) aF)))))) (@aH _ _ _ (aT (mv 3)))))),?_⟩
 walk_at "go"
 refine ⟨by decide,fun p hp => ?_⟩
 walk_at "go"
 refine ⟨⟨by omega,by omega⟩,?_⟩
 refine gR (fun i σ H' => ∃ (x:Int) (ns:List Int) (v:Option V),σ = [some (.int c),some (.int m),some (.int x),some (.ref p),v] ∧ 0 ≤ x ∧ x < 2147531918 ∧ ns.length = i ∧ (∀ n ∈ ns,0 ≤ n) ∧ H' = upd H p (.lst (ns.map V.int)))
   ⟨_,[],none,rfl,by omega,by omega,rfl,(fun n hn => nomatch hn),rfl⟩ ?_ ?_
 · rintro i σ H' hi ⟨x,ns,v,rfl,hx0,hx1,hn,hns,rfl⟩
   walk_at "go"
   refine ⟨_,ns ++ [(x * x + 48271 * x + 7 * (0 + (i:Int)) + 1) % 2147483647 / 64],_,rfl,Dd _ (by decide),?_,?_,?_,?_⟩
   · have:=Dg (x * x + 48271 * x + 7 * (0 + (i:Int)) + 1) (show (0:Int) < 2147483647 by decide)
     omega
   · rw [Aj,hn]; rfl
   · intro n hn
     rcases Bi.mp hn with z | z
     · exact hns n z
     · rw [As.mp z]
       have:=Dd (x * x + 48271 * x + 7 * (0 + (i:Int)) + 1) (show (2147483647:Int) ≠ 0 by decide)
       omega
   · rw [aQB,Ak]; rfl
 · rintro σ H' ⟨x,ns,v,rfl,hx0,hx1,hn,hns,rfl⟩
   walk_at "go"
   exact q p ns _ hp (aE hp _) hn hns aB
def iH:Sp:=fun vs H Q _ => ∃ (cw:List Nat) (k:Nat) (p:Int),vs = [.str (bE cw),.int p] ∧ p = (k:Int) + 1 ∧ k < cw.length ∧ cw.length ≤ 7 ∧
 ∀ (r:Addr) (H':Hp),H r = none → Same H H' → H' r = some (.lst (((chs cw k).map one).map V.str)) → Q (.ref r) H'
theorem sc_l_choices:FnScope ["_law_word_here", "_law_place", "_law_found", "_law_n"] ["_law_word_here", "_law_place"] (aG eE):=⟨rfl,rfl,rfl,by decide +kernel,rfl,by decide +kernel,by decide +kernel⟩
theorem uI {Zw Zz Zx Zy:Addr} {f:Addr} {fd:FuncData} (F:Fun K "_law_choices" "_law_choices" eE f fd) (G:Gs K mg Zw Zz Zx Zy)  : FnOk P w K mg base CX0 1 f fd ["_law_word_here", "_law_place"] iH:=by
 refine F.ok sc_l_choices (fun vs H Q E h => ?_) (fun cdv A outer s H vs Q E hr h => ?_)
 · obtain ⟨cw,k,p,rfl,_⟩:=h; rfl
 obtain ⟨cw,k,pl,rfl,hpl,hk,h7,q⟩:=h
 refine ⟨_,(@aD _ _ _ _ _ (@aP _ _ 2 _ _ _ _ sc_l_choices.nd (by rfl) (by exact (Or.inl rfl)) (cD (aA (bL cO (mv 0) (aX kE (mv 1) aL) (fun _ _ => rfl)) aF)) (by rfl) (by first | exact Or.inl rfl | exact Or.inr rfl)) (@aD _ _ _ _ _ (bV Bf rfl (sG rfl G.b_range (aA aL (aA (bJ (dXC rfl) rfl G.b_min cXV (aA (mv 1) (aA aL aF))) aF))) (aV (i:=3) sc_l_choices.nd rfl (Or.inl rfl)) (@aH _ _ _ (cS (bB xC (bL cO (mv 0) (aX kE (mv 3) aL) (fun _ _ => rfl)) (bL cO (mv 0) (aX kE (mv 1) aL) (fun _ _ => rfl)) (bF _)) (@aH _ _ _ (dD (fD Ce El Em aQH (mv 2) (aA (bL cO bM (aX kE (mv 3) aL) (fun _ _ => rfl)) aF)))) bO))) (@aH _ _ _ (aT (mv 2))))),?_⟩
 have hwl:(bE cw).length = cw.length:=eM cw
 walk_at "go"
 refine iZ (by rw [hwl]; exact bI (by omega)) (lK (k:=k) (by omega) hk) ?_
 walk_at "go"
 refine ⟨by show 1 ≤ sizeLine; decide,fun p hp => ?_⟩
 walk_at "go"
 have em:(if (5:Int) < pl then 5 else pl) = 1 + ((min k 4:Nat):Int):=by split <;> omega
 rw [em]
 refine ⟨⟨by omega,by omega,by omega,by omega⟩,?_⟩
 rw [show (1 + ((min k 4:Nat):Int) - 1).toNat = min k 4 by omega]
 refine gR (fun i σ H' => ∃ v,σ = [some (.str (bE cw)),some (.int pl),some (.ref p),v] ∧ Same H H' ∧ H' p = some (.lst (((cw.getD k 0 :: (List.range i).filterMap (chF cw k)).map one).map V.str)))
   ⟨none,rfl,aE hp _,aB⟩ ?_ ?_
 · rintro i σ H' hi ⟨v,rfl,sm,hH⟩
   have hi2:i < min k 4:=hi
   have hm:=bG hH
   have hlen:((((cw.getD k 0 :: (List.range i).filterMap (chF cw k)).map one).map V.str)).length < sizeLine:=by
     have:=Cz (chF cw k) (List.range i)
     rw [Bz] at this
     rw [Ab,Ab,Az]
     exact bD (by omega)
   walk_at "go"
   refine iZ (by rw [hwl]; exact bI (by omega)) (lK (k:=i) (by omega) (by omega)) ?_
   walk_at "go"
   refine iZ (by rw [hwl]; exact bI (by omega)) (lK (k:=k) (by omega) hk) ?_
   walk_at "go"
   rw [show decide (({ cps:=#[cw.getD i 0] }:Str) = { cps:=#[cw.getD k 0] }) = decide (cw.getD i 0 = cw.getD k 0) from tB _ _]
   refine fZ (fun hc => ?_) (fun hc => ?_)
   · have he:=Be hc
     walk_at "go"
     refine iZ (by decide) (by rw [show 1 + (i:Int) - 1 = (i:Int) by omega]; exact bJJ (k:=i) (by omega)) ?_
     walk_at "go"
     refine ⟨_,rfl,aY hp sm,?_⟩
     rw [aB,qM (F:=chF cw k) (if_pos he),← List.cons_append,Ak,Ak]
     rfl
   · have he:=Bq (Bw.mpr hc)
     walk_at "go"
     refine ⟨_,rfl,sm,?_⟩
     rw [hH,qJ (F:=chF cw k) (if_neg he)]
 · rintro σ H' ⟨v,rfl,sm,hH⟩
   walk_at "go"
   exact q p H' hp sm hH
def bX (hs:List (Option (List Nat))) (n:Nat):List Nat:=(hs.getD n none).getD []
theorem xD {hs:List (Option (List Nat))} (ok:dO hs) (n:Nat):(bX hs n).length ≤ 7:=by
 unfold bX
 cases e:hs.getD n none with
 | none => exact Ct _
 | some cs =>
   have hm:some cs ∈ hs:=by
     rw [Ac] at e
     cases e2:hs[n]? with
     | none => rw [e2] at e; cases e
     | some h =>
       rw [e2] at e
       rw [← show h = some cs from e]
       exact Ai e2
   have h7:=eY (ok cs hm)
   rw [Ab] at h7
   exact h7.2
theorem cJL {σ:St} {H1:Hp} {Q:VK} {v:V} {h:Option (List Nat)} (hv:HalV H1 v h) (q:∀ p H2,Same H1 H2 → rdL H2 p = some (((h.getD []).map one).map V.str) → Q (.ref p) H2) :
   (v = .non ∧ aJY vC σ H1 Q) ∨ ∃ (p:Addr) (xs:List V),v = .ref p ∧ rdL H1 p = some xs ∧ (xs ≠ [] → Q (.ref p) H1) ∧ (xs = [] → aJY vC σ H1 Q):=by
 have e0:h.getD [] = [] → aJY vC σ H1 Q:=fun e => ⟨Ct _,fun p hp => q p _ (aE hp _) (by rw [e]; exact eQ)⟩
 cases h with
 | none => exact .inl ⟨hv,e0 rfl⟩
 | some cs =>
   obtain ⟨p,e,hp⟩:=hv
   exact .inr ⟨p,_,e,aQ hp,fun _ => q p H1 (Same.refl _) (aQ hp),fun z => e0 (by cases cs with | nil => rfl | cons a r => cases z)⟩
theorem pQ {f:Nat → Option Int} {d c:Nat} {x:Int}:aK (fun e => if e = d then some x else f e) c = if c = d then x else aK f c:=by
 unfold aK
 dsimp only
 by_cases e:c = d
 · rw [if_pos e,if_pos e]; rfl
 · rw [if_neg e,if_neg e]
theorem lN (xs ys:List Nat) (c:Nat):cnt (xs ++ ys) c = cnt xs c + cnt ys c:=by
 unfold cnt
 rw [Fx]
 exact Int.natCast_add ..
theorem lY {cs:List Nat} {c:Nat} (h:c ∉ cs):cnt cs c = 0:=by
 unfold cnt
 rw [List.countP_eq_zero.mpr fun x hx z => h (by rw [← eq_of_beq z]; exact hx)]
 rfl
theorem vZ {F:List Nat} {i:Nat} {x:V} (h:((F.map one).map V.str)[i]? = some x):∃ c,F[i]? = some c ∧ x = V.str (one c):=by
 rw [Ag,Ag] at h
 cases e:F[i]? with
 | none => rw [e] at h; cases h
 | some c => rw [e] at h; cases h; exact ⟨c,rfl,rfl⟩
def FlOnly (f:Nat → Option Int):Prop:=∀ c,(f c).isSome = true → fJ c
theorem FlOnly.put {f:Nat → Option Int} {d:Nat} {x:Int} (h:FlOnly f) (hd:fJ d):FlOnly (fun e => if e = d then some x else f e):=fun c hc => by
 by_cases e:c = d
 · rw [e]; exact hd
 · dsimp only at hc
   rw [if_neg e] at hc
   exact h c hc
def oY (kvs:List (Key × V)):List Nat:=kvs.map fun kv => match kv.1 with | Sum.inr z => gD z | _ => 0
theorem Lk.keysC {kvs:List (Key × V)} {f:Nat → Option Int} (h:Lk kvs f):kvs.map (·.1) = ((oY kvs).map one).map Sum.inr:=by
 unfold oY
 rw [Ci,Ci]
 refine Cj fun kv hkv => ?_
 obtain ⟨c,n,rfl⟩:=h.ks kv hkv
 rfl
theorem Lk.mem_keyC {kvs:List (Key × V)} {f:Nat → Option Int} (h:Lk kvs f) (c:Nat):c ∈ oY kvs ↔ f c ≠ none:=by
 constructor
 · intro hm
   obtain ⟨kv,hkv,e⟩:=Bc.mp hm
   obtain ⟨c',n,rfl,hf⟩:=h.at_mem hkv
   have:c' = c:=e
   rw [← this,hf]
   exact fun z => nomatch z
 · intro hn
   have v:=h.val c
   have q:(kvs.any fun kv => decide (kv.1 = Sum.inr (one c))) = true:=by
     rw [dM,v]
     cases e:f c with
     | none => exact absurd e hn
     | some n => rfl
   obtain ⟨kv,hkv,e⟩:=Gh.mp q
   obtain ⟨c',n,rfl⟩:=h.ks kv hkv
   have e2:c' = c:=key_one.mp (Be e)
   exact Bc.mpr ⟨_,hkv,e2⟩
theorem cZT {ss:List Str} {cs:List Nat} (h:ss.Perm (cs.map one)):∃ cs':List Nat,ss = cs'.map one ∧ cs'.Perm cs:=by
 refine ⟨ss.map gD,?_,?_⟩
 · rw [Ci]
   have:∀ z ∈ ss,(one ∘ gD) z = z:=fun z hz => by
     obtain ⟨c,_,rfl⟩:=Bc.mp (h.mem_iff.mp hz)
     rfl
   conv => lhs; rw [← List.map_id ss]
   exact (Cj this).symm
 · have:=h.map gD
   rw [rZ] at this
   exact this
theorem aQD {kvs:List (Key × V)} {f:Nat → Option Int} (lk:Lk kvs f) (hf:FlOnly f):kvs.length ≤ 27:=by
 have nd:(oY kvs).Nodup:=by
   have h:=lk.nd
   rw [lk.keysC,Ci] at h
   exact (List.pairwise_map.mp h).imp fun {a b} h z => h (by rw [z])
 have r:=oE (m:=flagsT.cps.toList) nd fun c hc => flags_mem.mpr (hf c (Option.isSome_iff_ne_none.mpr ((lk.mem_keyC c).mp hc)))
 unfold oY at r
 rw [Ab] at r
 exact r
theorem aJW {hs:List (Option (List Nat))} (ok:dO hs) {k d:Nat} (h:d ∈ bX hs k):fJ d:=by
 unfold bX at h
 cases e:hs.getD k none with
 | none => rw [e] at h; cases h
 | some cs =>
   rw [e] at h
   have hm:some cs ∈ hs:=by
     rw [Ac] at e
     cases e2:hs[k]? with
     | none => rw [e2] at e; cases e
     | some h =>
       rw [e2] at e
       rw [← show h = some cs from e]
       exact Ai e2
   obtain ⟨i,hi⟩:=Ec.mp (show d ∈ cs from h)
   obtain ⟨c',e1,_,hcc⟩:=iI (ok cs hm) (i:=i) (z:=one d) (by rw [Ag,hi]; rfl)
   rw [← one_inj.mp e1] at hcc
   exact hcc.imp id And.left
theorem sN {hs:List (Option (List Nat))} {ks:List Nat} {i k:Nat} (h:ks[i]? = some k):aM hs (ks.take (i + 1)) = aM hs (ks.take i) ++ bX hs k:=by
 unfold aM
 rw [Aw,h,Dy]
 show _ ++ ((hs.getD k none).getD [] ++ []) = _
 rw [Bk]
 rfl
def jT:Sp:=fun vs H Q _ => ∃ (a b l:Addr) (kvs:List (Key × V)) (f:Nat → Option Int) (us:List V) (hs:List (Option (List Nat))) (ks:List Nat),vs = [.ref a,.ref b,.ref l] ∧ H a = some (.dK kvs) ∧ Lk kvs f ∧ FlOnly f ∧ rdL H b = some us ∧ HalsAt H us hs ∧ dO hs ∧ rdL H l = some (ks.map fun k => V.int ((k:Nat):Int)) ∧ ks.length ≤ 6 ∧ (∀ k ∈ ks,k < hs.length) ∧
 ∀ (r:Addr) (kws:List (Key × V)) (g:Nat → Option Int) (H':Hp),H r = none → Same H H' → H' r = some (.dK kws) → Lk kws g → FlOnly g → (∀ c,aK g c = aK f c + cnt (aM hs ks) c) → Q (.ref r) H'
theorem sc_l_pool:FnScope ["_law_locker_here", "_law_halyards", "_law_numbers", "_law_pool_here", "_law_k", "_law_flag"] ["_law_locker_here", "_law_halyards", "_law_numbers"] (aG gK):=⟨rfl,rfl,rfl,by decide +kernel,rfl,by decide +kernel,by decide +kernel⟩
theorem aQ6 {Zw Zz Zx Zy:Addr} {f:Addr} {fd:FuncData} (F:Fun K "_law_pool" "_law_pool" gK f fd) (G:Gs K mg Zw Zz Zx Zy)  : FnOk P w K mg base CX0 1 f fd ["_law_locker_here", "_law_halyards", "_law_numbers"] jT:=by
 refine F.ok sc_l_pool (fun vs H Q E h => ?_) (fun cdv A outer s H vs Q E hr h => ?_)
 · obtain ⟨a,b,l,kvs,f,us,hs,ks,rfl,_⟩:=h; rfl
 obtain ⟨a,b,l,kvs,f,us,hs,ks,rfl,ha,lk,hfo,hb,hat,ok,hl,hks,hkk,q⟩:=h
 refine ⟨_,(@aD _ _ _ _ _ (@aP _ _ 3 _ _ _ _ sc_l_pool.nd (by rfl) (by exact (Or.inl rfl)) (bT bZA rfl G.b_dict bJC (aA (mv 0) aF)) (by rfl) (by first | exact Or.inl rfl | exact Or.inr rfl)) (@aD _ _ _ _ _ (bV Bf rfl (cB (mv 2)) (aV (i:=4) sc_l_pool.nd rfl (Or.inl rfl)) (@aH _ _ _ (bV Bf rfl (cB (cXQ (bL cO (mv 1) (mv 4) (fun _ _ => rfl)) (aJ8 (cD aF)))) (aV (i:=5) sc_l_pool.nd rfl (Or.inl rfl)) (@aH _ _ _ (cX (Room.u1 hr) (mv 3) (mv 5) (aX cH (fF Bv Cq (rL (Room.u1 hr)) (mv 3) (aA (mv 5) (aA aL aF))) aL) rfl))))) (@aH _ _ _ (aT (mv 3))))),?_⟩
 walk_at "go"
 refine aJL (.inl ha) fun p hp => ?_
 have s1:=aE hp (.dK kvs)
 have e1:(upd H p (.dK kvs)) p = some (.dK kvs):=aB
 generalize upd H p (.dK kvs) = H1 at s1 e1 ⊢
 have hl1:=aJ s1 hl
 walk_at "go"
 refine dB (xs:=(ks.map fun k => V.int ((k:Nat):Int))) (fun i σ H' => ∃ (kv1:List (Key × V)) (f1:Nat → Option Int) (v4 v5:Option V),σ = [some (.ref a),some (.ref b),some (.ref l),some (.ref p),v4,v5] ∧ Same H H' ∧ H' p = some (.dK kv1) ∧ Lk kv1 f1 ∧ (∀ c,aK f1 c = aK f c + cnt (aM hs (ks.take i)) c) ∧ FlOnly f1)
   ⟨kvs,f,_,_,rfl,s1,e1,lk,(fun c => by rw [Eb]; show _ = _ + ((0:Nat):Int); omega),hfo⟩ (fun i σ H' _ ⟨_,_,_,_,_,e,_⟩ => aJ e hl) ?_ ?_
 · rintro i x σ H2 hx ⟨kv0,f0,v4,v5,rfl,s2,e2,lk0,hf0',hl0⟩
   obtain ⟨k,hk,rfl⟩:=jU hx
   have hi6:i < ks.length:=(Ad.mp hk).1
   have hb2:=aJ s2 hb
   obtain ⟨u,au,_,hv⟩:=(hat.keep s2).get (hkk k (Ai hk))
   walk_at "go"
   unfold dXU
   walk_at "go"
   refine eC hb2 au ?_
   refine cJL hv fun pc H3 s3 r3 => ?_
   have h7:(bX hs k).length ≤ 7:=xD ok k
   have s03:=s2.trans s3
   have e3:=s3 _ _ e2
   change rdL H3 pc = some (((bX hs k).map one).map V.str) at r3
   walk_at "go"
   refine dB (xs:=((bX hs k).map one).map V.str) (fun j σ H' => ∃ (kv1:List (Key × V)) (f1:Nat → Option Int) (v5:Option V),σ = [some (.ref a),some (.ref b),some (.ref l),some (.ref p),some (.int ((k:Nat):Int)),v5] ∧ Same H H' ∧ rdL H' pc = some (((bX hs k).map one).map V.str) ∧ H' p = some (.dK kv1) ∧ Lk kv1 f1 ∧ (∀ c,aK f1 c = aK f0 c + cnt ((bX hs k).take j) c) ∧ FlOnly f1)
     ⟨kv0,f0,_,rfl,s03,r3,e3,lk0,(fun c => by rw [Eb]; show _ = _ + ((0:Nat):Int); omega),hl0⟩ (fun i σ H' _ ⟨_,_,_,_,_,e,_⟩ => e) ?_ ?_
   · rintro j x σ H4 hx ⟨kv1,f1,v5,rfl,s4,r4,e4,lg,hg,hlj⟩
     have hj:j < (bX hs k).length:=by have:=(Ad.mp hx).1; rw [Ab,Ab] at this; exact this
     obtain ⟨d,hd,rfl⟩:=vZ hx
     have hpl:kv1.length < sizeLine:=bD (by have:=aQD lg hlj; omega)
     have ppc:pc ≠ p:=fun z => by rw [z] at r4; unfold rdL at r4; rw [e4] at r4; cases r4
     walk_at "go"
     refine rG (z:=one d) (.inl e4) ?_
     rw [lg.val d,jX]
     walk_at "go"
     refine dR (z:=one d) e4 hpl ?_
     refine ⟨_,_,_,rfl,aY hp s4,by rw [yG ppc]; exact r4,aB,lg.put d (aK f1 d + 1),fun c => ?_,hlj.put (aJW ok (Ai hd))⟩
     rw [pQ,jD hd]
     have h1:=hg c
     have h2:=hg d
     by_cases e:c = d
     · rw [if_pos e,if_pos e,e,h2]; omega
     · rw [if_neg e,if_neg e,h1]; omega
   · rintro σ H4 ⟨kv1,f1,v5,rfl,s4,r4,e4,lg,hg,hlj⟩
     rw [Bm (by rw [Ab,Ab]; exact Ah _)] at hg
     refine ⟨kv1,f1,_,_,rfl,s4,e4,lg,fun c => ?_,hlj⟩
     rw [hg c,hf0' c,sN hk,lN]
     omega
 · rintro σ H2 ⟨kv0,f0,v4,v5,rfl,s2,e2,lk0,hf0',hl0⟩
   rw [Bm (by rw [gE]; exact Ah _)] at hf0'
   walk_at "go"
   exact q p kv0 f0 H2 hp s2 e2 lk0 hl0 hf0'
theorem bZ3 {c:Nat} (h:dC c):Builtin.Str.occurrences (Str.ofString "1234") (one c) 0 (Str.ofString "1234").length 1 = [c - 49]:=by
 have q:∀ k:_root_.Fin 4,Builtin.Str.occurrences (Str.ofString "1234") (one (49 + k.val)) 0 (Str.ofString "1234").length 1 = [k.val]:=by decide +kernel
 unfold dC at h
 have e:=q ⟨c - 49,by omega⟩
 rwa [show 49 + (c - 49) = c by omega] at e
def rP:Sp:=fun vs H Q _ => ∃ (b:Addr) (cs:List Nat),vs = [.ref b] ∧ rdL H b = some ((cs.map one).map V.str) ∧ cI (cs.map one) = true ∧ Q (.str (bE (rdC cs))) H
theorem sc_l_read:FnScope ["_law_hoist", "_law_word_here", "_law_flag"] ["_law_hoist"] (aG gX):=⟨rfl,rfl,rfl,by decide +kernel,rfl,by decide +kernel,by decide +kernel⟩
theorem aXX {Zw Zz Zx Zy:Addr} {f:Addr} {fd:FuncData} (F:Fun K "_law_read" "_law_read" gX f fd) (G:Gs K mg Zw Zz Zx Zy)  : FnOk P w K mg base CX0 1 f fd ["_law_hoist"] rP:=by
 refine F.ok sc_l_read (fun vs H Q E h => ?_) (fun cdv A outer s H vs Q E hr h => ?_)
 · obtain ⟨b,cs,rfl,_⟩:=h; rfl
 obtain ⟨b,cs,rfl,hb,hh,q⟩:=h
 refine ⟨_,(@aD _ _ _ _ _ (@aP _ _ 1 _ _ _ _ sc_l_read.nd (by rfl) (by exact (Or.inl rfl)) bM (by rfl) (by first | exact Or.inl rfl | exact Or.inr rfl)) (@aD _ _ _ _ _ (bV Bf rfl (cB (mv 0)) (aV (i:=2) sc_l_read.nd rfl (Or.inl rfl)) (@aH _ _ _ (cS (bB zX (mv 2) bM (by rfl)) (@aH _ _ _ (@aP _ _ 1 _ _ _ _ sc_l_read.nd (by rfl) (by exact (Or.inl rfl)) (aX cH (mv 1) (bL cO (mv 1) (fD PySem.F.plainAttrs_str PySem.F.slot_str_index PySem.F.type_str_index bZV bM (aA (mv 2) aF)) (fun _ _ => rfl))) (by rfl) (by first | exact Or.inl rfl | exact Or.inr rfl))) (@aH _ _ _ (@aP _ _ 1 _ _ _ _ sc_l_read.nd (by rfl) (by exact (Or.inl rfl)) (aX cH (mv 1) (mv 2)) (by rfl) (by first | exact Or.inl rfl | exact Or.inr rfl)))))) (@aH _ _ _ (aT (mv 1))))),?_⟩
 have h7:=eY hh
 rw [Ab] at h7
 have hll:((cs.map one).map V.str).length = cs.length:=by rw [Ab,Ab]
 walk_at "go"
 refine dB (xs:=(cs.map one).map V.str) (fun i σ H' => ∃ v,σ = [some (.ref b),some (.str (bE (rdC (cs.take i)))),v] ∧ H' = H)
   ⟨none,rfl,rfl⟩ (fun i σ H' _ ⟨_,_,e⟩ => by rw [e]; exact hb) ?_ ?_
 · rintro i x σ H' hx ⟨v,rfl,rfl⟩
   obtain ⟨c,hc,rfl⟩:=vZ hx
   obtain ⟨c',e1,_,hcc⟩:=iI hh (i:=i) (z:=one c) (by rw [Ag,hc]; rfl)
   rw [← one_inj.mp e1] at hcc
   have hi:i < cs.length:=(Ad.mp hc).1
   have hrl:(rdC (cs.take i)).length = i:=hV (by omega)
   have hst:=jG hc
   generalize rdC (cs.take i) = wd at hrl hst ⊢
   have hwl:(bE wd).length = i:=(eM wd).trans hrl
   walk_at "go"
   rw [if_neg Al,show subIn (one c) (Str.ofString "1234") = decide (dC c) from kP c]
   refine fZ (fun hd => ?_) (fun hd => ?_)
   · have hs:=Be hd
     have hlt:c - 49 < i:=(hcc.resolve_left fun l => fE l hs).2
     walk_at "go"
     refine cQJ (bZ3 hs) ?_
     walk_at "go"
     have e1:atI (bE wd).cps.toList ((c - 49:Nat):Int) = some (wd.getD (c - 49) 0):=by
       refine eK ?_
       rw [mW,Ac,Aa (by omega)]
       rfl
     have h2:(⟨#[wd.getD (c - 49) 0]⟩:Str).length = 1:=rfl
     refine iZ (by rw [hwl]; exact bI (by omega)) e1 ?_
     walk_at "go"
     refine ⟨some (.str (one c)),?_,rfl⟩
     rw [hst,show stp wd c = wd.getD (c - 49) 0 from if_pos hs,← gW]
     rfl
   · have hs:=Bq (Bw.mpr hd)
     have h2:(one c).length = 1:=rfl
     walk_at "go"
     refine ⟨some (.str (one c)),?_,rfl⟩
     rw [hst,show stp wd c = c from if_neg hs,← gW]
     rfl
 · rintro σ H' ⟨v,rfl,rfl⟩
   walk_at "go"
   rw [Bm (by rw [hll]; exact Ah _)]
   exact q
def nL:Sp:=fun vs H Q _ => ∃ (b:Addr) (us:List V) (hs:List (Option (List Nat))) (n:Nat),vs = [.ref b,.int ((n:Nat):Int)] ∧ rdL H b = some us ∧ HalsAt H us hs ∧ hs.length ≤ 7 ∧
 ∀ (r:Addr) (H':Hp),H r = none → Same H H' → H' r = some (.lst ((aO hs n).map fun k => V.int ((k:Nat):Int))) → Q (.ref r) H'
theorem wK:FnScope ["_law_halyards", "_law_number"] ["_law_halyards", "_law_number"] (aG dU):=⟨rfl,rfl,rfl,by decide +kernel,rfl,by decide +kernel,by decide +kernel⟩
theorem xB {Zw Zz Zx Zy:Addr} {f:Addr} {fd:FuncData} (F:Fun K "_law_others" "_law_others" dU f fd) (G:Gs K mg Zw Zz Zx Zy)  : FnOk P w K mg base CX0 1 f fd ["_law_halyards", "_law_number"] nL:=by
 refine F.ok wK (fun vs H Q E h => ?_) (fun cdv A outer s H vs Q E hr h => ?_)
 · obtain ⟨b,us,hs,n,rfl,_⟩:=h; rfl
 obtain ⟨b,us,hs,n,rfl,hb,hat,h7,q⟩:=h
 refine ⟨_,(@aH _ _ _ (aT (eP rfl (fN rfl G.b_range (aA (bJ eU rfl G.b_len cQ (aA (mv 0) aF)) aF)) (gP (N:=["_law_k", "_law_number", "_law_halyards"]) ["_law_halyards", "_law_number"] (aG dU) [none,some 1,some 0] rfl rfl rfl (fun x h => cG h) (by decide +kernel)) (by decide +kernel) rfl (by decide +kernel) (fun C s₀ H₀ ex => (aV (i:=0) (show List.Nodup (["_law_k", "_law_number", "_law_halyards"]:List Str) by decide +kernel) rfl (Or.inl rfl))) (fun C s₀ H₀ ex => (kO (PW.pt (yZ (bB aJS (mv 0) (mv 1) (bF _)) (tR (bB mG (bL cO (mv 2) (mv 0) (fun _ _ => rfl)) dA (bF _))))))) (fun C s₀ H₀ ex => (mv 0))))),?_⟩
 have hul:=hat.len
 walk_at "go"
 refine ⟨⟨by omega,by omega⟩,?_⟩
 rw [show (((us.length:Nat):Int)).toNat = hs.length by rw [← hul]; exact Cw _]
 refine aX4 (oth hs n) (bD (by omega)) (fun k Hc A B' hk sm hA hB' => ?_) (fun D H6 hD s56 hd => ?_)
 · have hbc:=aJ sm hb
   obtain ⟨v,av,_,hvc⟩:=(hat.keep sm).get hk
   rw [show (0:Int) + (k:Int) = ((k:Nat):Int) by omega]
   walk_at "go"
   refine ⟨Wk.set rfl (Wk.refl _),?_⟩
   walk_at "go"
   by_cases hkn:k = n
   · rw [Ar (show ((k:Nat):Int) = ((n:Nat):Int) by omega)]
     walk_at "go"
     exact hB' (by unfold oth; rw [Ar hkn,Bool.not_true,Bool.and_false]; rfl) _ (Same.refl _)
   · rw [Av (show ¬ ((k:Nat):Int) = ((n:Nat):Int) by omega)]
     walk_at "go"
     refine eC hbc av ?_
     walk_at "go"
     cases eh:hs.getD k none with
     | none =>
       rw [eh] at hvc
       obtain rfl:v = V.non:=hvc
       rw [show decide (V.non = V.non) = true from rfl]
       walk_at "go"
       exact hB' (by unfold oth; rw [eh]; rfl) _ (Same.refl _)
     | some cs =>
       rw [eh] at hvc
       obtain ⟨pk,rfl,_⟩:=hvc
       rw [show decide (V.ref pk = V.non) = false from Av (fun z => nomatch z)]
       walk_at "go"
       exact hA _ (by unfold oth; rw [eh,Av hkn]; rfl) _ (Same.refl _)
 rw [bQJ] at hd
 exact q D H6 hD s56 hd
def pF:Sp:=fun vs H Q _ => ∃ (b l:Addr) (us:List V) (hs:List (Option (List Nat))) (cw ks:List Nat),vs = [.ref b,.str (bE cw),.ref l] ∧ rdL H b = some us ∧ HalsAt H us hs ∧ dO hs ∧ rdL H l = some (ks.map fun k => V.int ((k:Nat):Int)) ∧ ks.length ≤ 6 ∧ (∀ k ∈ ks,k < hs.length ∧ (hs.getD k none).isSome = true) ∧
 ∀ (r:Addr) (H':Hp),H r = none → Same H H' → H' r = some (.lst (((bQ hs cw ks).map bE).map V.str)) → Q (.ref r) H'
theorem yC:FnScope ["_law_halyards", "_law_word_here", "_law_numbers"] ["_law_halyards", "_law_word_here", "_law_numbers"] (aG fA):=⟨rfl,rfl,rfl,by decide +kernel,rfl,by decide +kernel,by decide +kernel⟩
theorem yX {Zw Zz Zx Zy:Addr} {f:Addr} {fd:FuncData} (F:Fun K "_law_words" "_law_words" fA f fd) (G:Gs K mg Zw Zz Zx Zy) (c_l_read:Cal P w K mg base 1 "_law_read" ["_law_hoist"] rP):FnOk P w K mg base CX0 2 f fd ["_law_halyards", "_law_word_here", "_law_numbers"] pF:=by
 refine F.ok yC (fun vs H Q E h => ?_) (fun cdv A outer s H vs Q E hr h => ?_)
 · obtain ⟨b,l,us,hs,cw,ks,rfl,_⟩:=h; rfl
 obtain ⟨b,l,us,hs,cw,ks,rfl,hb,hat,ok,hl,h6,hk,q⟩:=h
 refine ⟨_,(@aH _ _ _ (aT (aX cH (cD (aA (mv 1) aF)) (eP rfl (cB (mv 2)) (gP (N:=["_law_k", "_law_halyards"]) ["_law_halyards", "_law_word_here", "_law_numbers"] (aG fA) [none,some 0] rfl rfl rfl (fun x h => cG h) (by decide +kernel)) (by decide +kernel) rfl (by decide +kernel) (fun C s₀ H₀ ex => (aV (i:=0) (show List.Nodup (["_law_k", "_law_halyards"]:List Str) by decide +kernel) rfl (Or.inl rfl))) (fun C s₀ H₀ ex => jA) (fun C s₀ H₀ ex => (aU c_l_read hr (by decide) rfl (aA (bL cO (mv 1) (mv 0) (fun _ _ => rfl)) aF))))))),?_⟩
 have hkl:(ks.map fun k => V.int ((k:Nat):Int)).length = ks.length:=gE ks
 walk_at "go"
 refine ⟨by show 1 ≤ sizeLine; decide,fun p hp => ?_⟩
 have s1:=aE hp (.lst [V.str (bE cw)])
 have e1:(upd H p (.lst [V.str (bE cw)])) p = some (.lst [V.str (bE cw)]):=aB
 generalize upd H p (.lst [V.str (bE cw)]) = H1 at s1 e1 ⊢
 have hl1:=aJ s1 hl
 walk_at "go"
 refine pN (xs:=(ks.map fun k => V.int ((k:Nat):Int))) (fun m => (ks[m]?).map fun k => V.str (bE (rdC ((hs.getD k none).getD [])))) hl1 (bD (by omega)) (fun m x Hc A B hxm sm hA hB => ?_) (fun D H2 hD s2 hd => ?_)
 · obtain ⟨k,hk',rfl⟩:=jU hxm
   obtain ⟨k1,k2⟩:=hk k (Ai hk')
   have hbc:=aJ (s1.trans sm) hb
   obtain ⟨v,av,_,hvc⟩:=(hat.keep (s1.trans sm)).get k1
   walk_at "go"
   refine ⟨Wk.set rfl (Wk.refl _),?_⟩
   walk_at "go"
   refine eC hbc av ?_
   cases eh:hs.getD k none with
   | none => rw [eh] at k2; cases k2
   | some cs =>
     rw [eh] at hvc
     obtain ⟨pk,rfl,hpk⟩:=hvc
     have hm:some cs ∈ hs:=by
       rw [Ac,Aa k1] at eh
       rw [← show hs[k] = some cs from eh]
       exact Br k1
     walk_at "go"
     exact ⟨pk,cs,rfl,aQ hpk,ok cs hm,hA _ (by rw [hk',Du,eh]; rfl) _ (Same.refl _)⟩
 rw [hkl,pG (fun k => V.str (bE (rdC ((hs.getD k none).getD [])))) ks] at hd
 refine lF (bG (s2 _ _ e1)) (bG hd) (bI (by rw [Ab]; show 1 + _ ≤ _; omega)) fun p3 hp3 => ?_
 refine q p3 _ (none_of (s1.trans s2) hp3) ((s1.trans s2).trans (aE hp3 _)) ?_
 rw [aB]
 unfold bQ
 rw [Ap,Ap,Ci,Ci]
 rfl
theorem xA {cws:List (List Nat)} {k:Nat} (hk:k < cws.length):atI ((cws.map bE).map V.str) ((k:Nat):Int) = some (.str (bE (cws.getD k []))):=by
 obtain ⟨v,h1,h2⟩:=bQ8 (xs:=(cws.map bE).map V.str) (i:=((k:Nat):Int)) (by omega) (by rw [Ab,Ab]; omega)
 rw [Cw,Ag,Ag,Aa hk] at h2
 rw [h1,← h2,Ac,Aa hk]
 rfl
theorem wD {kvs:List (List Key × V)} {k:List Key} (h:¬ k ∈ kvs.map (·.1)):bR kvs k = none:=by
 unfold bR
 have e:kvs.find? (fun x => decide (x.1 = k)) = none:=List.find?_eq_none.mpr fun x hx => by
   rw [Bp]
   intro e
   exact h (Bc.mpr ⟨x,hx,e⟩)
 rw [e]
 rfl
def iY:Sp:=fun vs H Q _ => ∃ (a b l1 l2:Addr) (kvs:List (Key × V)) (f:Nat → Option Int) (cws:List (List Nat)) (rs:List Addr) (W:List Wt) (F:List Nat),vs = [.ref a,.ref b,.ref l1,.ref l2] ∧ H a = some (.dK kvs) ∧ Lk kvs f ∧ (∀ c,0 ≤ aK f c ∧ aK f c ≤ 100000) ∧ rdL H b = some ((cws.map bE).map V.str) ∧ cws.length ≤ 8 ∧ (∀ c ∈ cws,c.length ≤ 7) ∧
 H l1 = some (.lst (rs.map V.ref)) ∧ WtsAt H rs W ∧ H l2 = some (.lst ((F.map one).map V.str)) ∧ LackOk cws (aK f) W F ∧ ∀ H',Same H H' → Q (.bl true) H'
theorem sc_l_are_short:FnScope ["_law_locker_here", "_law_words_here", "_law_wants", "_law_flags", "_law_known", "_law_number", "_law_place", "_law_flag"] ["_law_locker_here", "_law_words_here", "_law_wants", "_law_flags"] (aG cM):=⟨rfl,rfl,rfl,by decide +kernel,rfl,by decide +kernel,by decide +kernel⟩
theorem oN {Zw Zz Zx Zy:Addr} {f:Addr} {fd:FuncData} (F:Fun K "_law_are_short" "_law_are_short" cM f fd) (G:Gs K mg Zw Zz Zx Zy) (c_l_choices:Cal P w K mg base 1 "_law_choices" ["_law_word_here", "_law_place"] iH):FnOk P w K mg base CX0 2 f fd ["_law_locker_here", "_law_words_here", "_law_wants", "_law_flags"] iY:=by
 refine F.ok sc_l_are_short (fun vs H Q E h => ?_) (fun cdv A outer s H vs Q E hr h => ?_)
 · obtain ⟨a,b,l1,l2,kvs,f,cws,rs,W,F,rfl,_⟩:=h; rfl
 obtain ⟨a,b,l1,l2,kvs,f,cws,rs,W,F,rfl,ha,lk,hf,hb,h8,h7,el1,hwt,el2,hlo,q⟩:=h
 refine ⟨_,(@aD _ _ _ _ _ (@aP _ _ 4 _ _ _ _ sc_l_are_short.nd (by rfl) (by exact (Or.inl rfl)) oH (by rfl) (by first | exact Or.inl rfl | exact Or.inr rfl)) (@aD _ _ _ _ _ (bV Bf rfl (cB (mv 2)) (iL (K:=K) (i:=5) (j:=6) (by rfl) (by rfl) sc_l_are_short.nd (by rfl) (by exact (Or.inl rfl)) (by exact Or.inl rfl) (by rfl) (by exact (Or.inl rfl)) (by exact Or.inl rfl)) (@aD _ _ _ _ _ (cS (PW.pt (qQ (bB (cXI (Room.u1 hr)) (iT (aA (mv 5) (aA (mv 6) aF))) (mv 4) (by rfl)) (qQ (bB vI (mv 5) (bT zE rfl G.b_range pM (aA (bJ eU rfl G.b_len cQ (aA (mv 1) aF)) aF)) (by rfl)) (pI (bB vI (mv 6) (bT zE rfl G.b_range pM (aA aL (aA (aX cH (bJ eU rfl G.b_len cQ (aA (bL cO (mv 1) (mv 5) (fun _ _ => rfl)) aF)) aL) aF))) (by rfl)))))) (@aH _ _ _ (aT gS)) bO) (@aD _ _ _ _ _ (cX (Room.u1 hr) (mv 4) (iT (aA (mv 5) (aA (mv 6) aF))) gS rfl) (@aH _ _ _ (bV Bf rfl (cB (aU c_l_choices hr (by decide) rfl (aA (bL cO (mv 1) (mv 5) (fun _ _ => rfl)) (aA (mv 6) aF)))) (aV (i:=7) sc_l_are_short.nd rfl (Or.inl rfl)) (@aH _ _ _ (cS (bB wN (mv 7) (mv 3) (by rfl)) (@aH _ _ _ (aT gS)) bO))))))) (@aD _ _ _ _ _ (cS (bB aJS (bJ bXO rfl G.b_len cQ (aA (bT (cJY rfl) rfl G.b_set (by decide +kernel) (aA (mv 3) aF)) aF)) (bJ eU rfl G.b_len cQ (aA (mv 3) aF)) (bF _)) (@aH _ _ _ (aT gS)) bO) (@aH _ _ _ (aT (iJ bXU (bJ eU rfl G.b_len cQ (aA (mv 2) aF)) (bJ (dQ0 rfl) rfl G.b_sum cZK (aA (eP rfl (cB (mv 3)) (gP (N:=["_law_flag", "_law_locker_here"]) ["_law_locker_here", "_law_words_here", "_law_wants", "_law_flags", "_law_known", "_law_number", "_law_place", "_law_flag"] (aG cM) [none,some 0] rfl rfl rfl (fun x h => cG h) (by decide +kernel)) (by decide +kernel) rfl (by decide +kernel) (fun C s₀ H₀ ex => (aV (i:=0) (show List.Nodup (["_law_flag", "_law_locker_here"]:List Str) by decide +kernel) rfl (Or.inl rfl))) (fun C s₀ H₀ ex => jA) (fun C s₀ H₀ ex => (fF Bv Cq (rL (Room.u1 hr)) (mv 1) (aA (mv 0) (aA aL aF))))) aF)) (bF _))))))),?_⟩
 have hll:((cws.map bE).map V.str).length = cws.length:=by rw [Ab,Ab]
 have hrl:(rs.map V.ref).length = W.length:=by rw [Ab,hwt.1]
 have ndF:=aQG hlo
 have ndW:W.Nodup:=hlo.sub.nodup (kQ cws cws.length)
 have hW56:W.length ≤ 56:=Bb hlo.sub.length_le (Bb (sR h7 _) (by omega))
 have hF27:F.length ≤ 27:=by
   obtain ⟨p,e⟩:=hlo.flags
   rw [e]
   exact Bb (List.length_filter_le _ _) (by decide)
 have r1:=aQ el1
 walk_at "go"
 intro pk hpk
 have s1:=aE hpk (.dT [])
 have e1:(upd H pk (.dT [])) pk = some (.dT []):=aB
 generalize upd H pk (.dT []) = H1 at s1 e1 ⊢
 have r11:=aJ s1 r1
 walk_at "go"
 refine dB (xs:=rs.map V.ref) (fun i σ H' => ∃ (kvt:List (List Key × V)) (v5 v6 v7:Option V),σ = [some (.ref a),some (.ref b),some (.ref l1),some (.ref l2),some (.ref pk),v5,v6,v7] ∧ Same H H' ∧ H' pk = some (.dT kvt) ∧ kvt.map (·.1) = (W.take i).map cA)
   ⟨[],_,_,_,rfl,s1,e1,rfl⟩ (fun i σ H' _ ⟨_,_,_,_,_,e,_⟩ => aJ e r1) ?_ ?_
 · rintro i x σ H2 hx ⟨kvt,v5,v6,v7,rfl,s2,e2,hkt⟩
   have hi:i < W.length:=by have:=(Ad.mp hx).1; rw [hrl] at this; exact this
   have ew:W[i]? = some W[i]:=Aa hi
   rw [Ag] at hx
   cases ep:rs[i]? with
   | none => rw [ep] at hx; cases hx
   | some p =>
     rw [ep] at hx
     cases hx
     have htp:=s2 _ _ (hwt.2 i p W[i] ep ew)
     have hwm:=Ai ew
     have hnew:cA W[i] ∉ kvt.map (·.1):=fun z => by
       rw [hkt] at z
       obtain ⟨u,hu,eu⟩:=Bc.mp z
       rw [iU eu] at hu
       obtain ⟨j,hj⟩:=Ec.mp hu
       rw [List.getElem?_take] at hj
       split at hj
       · rename_i hji
         have:=(List.getElem?_inj (by omega) ndW).mp (hj.trans ew.symm)
         omega
       · cases hj
     have hkl:kvt.length = i:=by
       have:=Dq List.length hkt
       rw [Ab,Ab,Bl] at this
       omega
     obtain ⟨hw1,hw2,hw3⟩:=wlP_mem.mp (hlo.sub.subset hwm)
     have htk:(W.take (i + 1)).map cA = (W.take i).map cA ++ [cA W[i]]:=by rw [Aw,ew,Ak]; rfl
     have hall:=hlo.all W[i] hwm
     generalize W[i] = w at htp hnew hw1 hw2 hw3 htk hall hwm
     obtain ⟨wn,wp⟩:=w
     have hw1:wn < cws.length:=hw1
     have hw2:1 ≤ wp:=hw2
     have hw3:wp ≤ (cws.getD wn []).length:=hw3
     have hall:∀ c ∈ chs (cws.getD wn []) (wp - 1),c ∈ F:=hall
     have hcl:(bE (cws.getD wn [])).length = (cws.getD wn []).length:=eM _
     have hc7:(cws.getD wn []).length ≤ 7:=by
       rw [Ac,Aa hw1]
       exact h7 _ (Br hw1)
     have htp:H2 p = some (.tup [.int (wn:Int),.int (wp:Int)]):=htp
     have tt:=jY htp
     walk_at "go"
     refine ⟨by show 2 ≤ sizeLine; decide,fun t ht => ?_⟩
     have s3:=aE ht (HO.tup [V.int (wn:Int),V.int (wp:Int)])
     have t3:(upd H2 t (HO.tup [V.int (wn:Int),V.int (wp:Int)])) t = some (HO.tup ((cA (wn,wp)).map kV)):=aB
     have e3:=s3 _ _ e2
     generalize upd H2 t (HO.tup [V.int (wn:Int),V.int (wp:Int)]) = H3 at s3 t3 e3 ⊢
     refine cXM (neg:=false) (k:=cA (wn,wp)) (.inl e3) t3 ?_
     rw [wD hnew,show (if false = true then !(none:Option V).isSome else (none:Option V).isSome) = false from rfl]
     have s03:=s2.trans s3
     have rb3:=aJ s03 hb
     walk_at "go"
     rw [hll]
     refine zS fun r4 hr4 => ?_
     have s4:=aE hr4 (HO.rng 0 ((cws.length:Nat):Int))
     have g4:(upd H3 r4 (HO.rng 0 ((cws.length:Nat):Int))) r4 = some (HO.rng 0 ((cws.length:Nat):Int)):=aB
     have e4:=s4 _ _ e3
     generalize upd H3 r4 (HO.rng 0 ((cws.length:Nat):Int)) = H4 at s4 g4 e4 ⊢
     refine vO g4 ?_
     rw [Ar (show (0:Int) ≤ (wn:Int) ∧ (wn:Int) < ((cws.length:Nat):Int) from ⟨by omega,by omega⟩)]
     have s04:=s03.trans s4
     have rb4:=aJ s04 hb
     walk_at "go"
     refine eC rb4 (xA hw1) ?_
     walk_at "go"
     rw [hcl]
     refine bJ5 fun r5 hr5 => ?_
     have s5:=aE hr5 (HO.rng 1 (((cws.getD wn []).length:Int) + 1))
     have g5:(upd H4 r5 (HO.rng 1 (((cws.getD wn []).length:Int) + 1))) r5 = some (HO.rng 1 (((cws.getD wn []).length:Int) + 1)):=aB
     have e5:=s5 _ _ e4
     generalize upd H4 r5 (HO.rng 1 (((cws.getD wn []).length:Int) + 1)) = H5 at s5 g5 e5 ⊢
     refine vO g5 ?_
     rw [Ar (show (1:Int) ≤ (wp:Int) ∧ (wp:Int) < ((cws.getD wn []).length:Int) + 1 from ⟨by omega,by omega⟩)]
     have s05:=s04.trans s5
     walk_at "go"
     refine ⟨by show 2 ≤ sizeLine; decide,fun t2 ht2 => ?_⟩
     have s6:=aE ht2 (HO.tup [V.int (wn:Int),V.int (wp:Int)])
     have t6:(upd H5 t2 (HO.tup [V.int (wn:Int),V.int (wp:Int)])) t2 = some (HO.tup ((cA (wn,wp)).map kV)):=aB
     have e6:=s6 _ _ e5
     generalize upd H5 t2 (HO.tup [V.int (wn:Int),V.int (wp:Int)]) = H6 at s6 t6 e6 ⊢
     refine oA (k:=cA (wn,wp)) e6 t6 (bD (by omega)) ?_
     rw [gZ _ (wD hnew)]
     have s07:Same H (upd H6 pk (.dT (kvt ++ [(cA (wn,wp),V.bl true)]))):=aY hpk (s05.trans s6)
     have e7:(upd H6 pk (.dT (kvt ++ [(cA (wn,wp),V.bl true)]))) pk = some (.dT (kvt ++ [(cA (wn,wp),V.bl true)])):=aB
     generalize upd H6 pk (.dT (kvt ++ [(cA (wn,wp),V.bl true)])) = H7 at s07 e7 ⊢
     have rb7:=aJ s07 hb
     walk_at "go"
     refine eC rb7 (xA hw1) ?_
     walk_at "go"
     refine ⟨cws.getD wn [],wp - 1,_,rfl,by omega,by omega,hc7,fun rc H8 hrc s8 er8 => ?_⟩
     have rc8:=aQ er8
     walk_at "go"
     refine dB (xs:=((chs (cws.getD wn []) (wp - 1)).map one).map V.str) (fun u σ H' => ∃ (v7:Option V),σ = [some (.ref a),some (.ref b),some (.ref l1),some (.ref l2),some (.ref pk),some (.int (wn:Int)),some (.int (wp:Int)),v7] ∧ Same H7 H' ∧ H' rc = some (.lst (((chs (cws.getD wn []) (wp - 1)).map one).map V.str)))
       ⟨_,rfl,s8,er8⟩ (fun u σ H' _ ⟨_,_,_,e⟩ => aQ e) ?_ ?_
     · rintro u x σ H9 hx ⟨v7,rfl,s9,er9⟩
       obtain ⟨d,hdm,rfl⟩:∃ d,d ∈ chs (cws.getD wn []) (wp - 1) ∧ x = .str (one d):=by
         rw [Ag,Ag] at hx
         cases e:(chs (cws.getD wn []) (wp - 1))[u]? with
         | none => rw [e] at hx; cases hx
         | some d => rw [e] at hx; cases hx; exact ⟨d,Ai e,rfl⟩
       have r9:=aJ (s07.trans s9) (aQ el2)
       walk_at "go"
       refine cQ7 (neg:=true) r9 rfl (iP _) ?_
       rw [vT,Ar (hall d hdm),show (if true = true then !true else true) = false from rfl]
       walk_at "go"
       exact ⟨_,rfl,s9,er9⟩
     · rintro σ H9 ⟨v7,rfl,s9,er9⟩
       walk_at "go"
       exact ⟨kvt ++ [(cA (wn,wp),V.bl true)],_,_,_,rfl,s07.trans s9,s9 _ _ e7,by rw [Ak,hkt,htk]; rfl⟩
 · rintro σ H2 ⟨kvt,v5,v6,v7,rfl,s2,e2,hkt⟩
   have r2:=aQ (s2 _ _ el2)
   have r12:=aQ (s2 _ _ el1)
   have hFl:((F.map one).map V.str).length = F.length:=by rw [Ab,Ab]
   walk_at "go"
   refine cZY (zs:=F.map one) r2 (by rw [Ab]; omega) fun rt hrt => ?_
   have hdn:rV (F.map one) = F.length:=by
     rw [uZ,Ab]
     exact List.pairwise_map.mpr (ndF.imp fun h e => h (one_inj.mp e))
   rw [hdn]
   have s3:=s2.trans (aE hrt (pK rt F.length))
   have r23:=aJ (aE hrt (pK rt F.length)) r2
   have r13:=aJ (aE hrt (pK rt F.length)) r12
   have es:(upd H2 rt (pK rt F.length)) rt = some (pK rt F.length):=aB
   generalize upd H2 rt (pK rt F.length) = H3 at s3 r23 r13 es ⊢
   walk_at "go"
   refine bXT es (by omega) ?_
   walk_at "go"
   rw [hFl,Ar rfl]
   walk_at "go"
   refine pN (xs:=(F.map one).map V.str) (fun j => (F[j]?).map fun c => V.int (aK f c)) r23 (by rw [hFl]; exact bD (by omega)) (fun j x Hc A B hx sm hA hB => ?_) (fun D Hd hD sd hr => ?_)
   · obtain ⟨d,hd,rfl⟩:∃ d,F[j]? = some d ∧ x = .str (one d):=by
       rw [Ag,Ag] at hx
       cases e:F[j]? with
       | none => rw [e] at hx; cases hx
       | some d => rw [e] at hx; cases hx; exact ⟨d,rfl,rfl⟩
     have r:=hA (.int (aK f d)) (by rw [hd]; rfl)
     have hac:=sm _ _ (s3 _ _ ha)
     walk_at "go"
     refine ⟨Wk.set rfl (Wk.refl _),?_⟩
     walk_at "go"
     refine rG (z:=one d) (.inl hac) ?_
     rw [lk.val d,jX]
     exact r _ (Same.refl _)
   · have efm:(List.range ((F.map one).map V.str).length).filterMap (fun j => (F[j]?).map fun c => V.int (aK f c)) = (F.map (aK f)).map V.int:=by
       rw [hFl,Ci]
       have h:∀ n,n ≤ F.length → (List.range n).filterMap (fun j => (F[j]?).map fun c => V.int (aK f c)) = (F.take n).map (V.int ∘ aK f):=fun n => by
         induction n with
         | zero => intro _; rfl
         | succ n ih =>
           intro hn
           have e:F[n]? = some F[n]:=Aa (by omega)
           rw [dN (y:=V.int (aK f F[n])) (by rw [e]; rfl),ih (by omega),Aw,e,Ak]
           rfl
       have r:=h F.length (Ah _)
       rw [Bh] at r
       exact r
     rw [efm] at hr
     walk_at "go"
     refine dQF (aQ hr) (fun n hn => by obtain ⟨c,_,rfl⟩:=Bc.mp hn; have:=hf c; omega) (by rw [Ab]; omega) ?_
     walk_at "go"
     rw [hrl,Ar (show ((W.length:Nat):Int) > (F.map (aK f)).sum from hlo.few)]
     exact q _ (s3.trans sd)
theorem rE {kvs:List (Key × V)} {i c:Nat} {n:Int} (h:kvs[i]? = some (Sum.inr (one c),V.int n)):oY (kvs.take (i + 1)) = oY (kvs.take i) ++ [c]:=by
 unfold oY
 rw [Aw,h,Ak]
 rfl
def qB (kvs:List (Key × V)) (f:Nat → Option Int) (i c:Nat):Option Int:=if c ∈ oY (kvs.take i) ∧ 0 < aK f c then some (aK f c) else none
theorem aJG {kvs:List (Key × V)} {f:Nat → Option Int} (lk:Lk kvs f) (hfo:FlOnly f):qB kvs f kvs.length = bA (aK f):=by
 funext c
 unfold qB bA
 rw [Bh]
 by_cases h:fJ c ∧ 0 < aK f c
 · refine (if_pos ⟨(lk.mem_keyC c).mpr fun z => ?_,h.2⟩).trans (if_pos h).symm
   have h2:=h.2
   rw [show aK f c = 0 by unfold aK; rw [z]; rfl] at h2
   omega
 · refine (if_neg fun z => h ⟨hfo c ?_,z.2⟩).trans (if_neg h).symm
   exact Option.isSome_iff_ne_none.mpr ((lk.mem_keyC c).mp z.1)
theorem aJ2 {kvs:List (Key × V)} {f:Nat → Option Int} {i c:Nat} {n:Int} (h:kvs[i]? = some (Sum.inr (one c),V.int n)) (p:0 < aK f c):(fun d => if d = c then some (aK f c) else qB kvs f i d) = qB kvs f (i + 1):=by
 funext d
 unfold qB
 rw [rE h]
 by_cases e:d = c
 · rw [e,if_pos rfl,if_pos ⟨Bg _ (As.mpr rfl),p⟩]
 · rw [if_neg e]
   by_cases q:d ∈ oY (kvs.take i) ∧ 0 < aK f d
   · rw [if_pos q,if_pos ⟨Bt _ q.1,q.2⟩]
   · rw [if_neg q,if_neg fun z => q ⟨(Bi.mp z.1).resolve_right fun w => e (As.mp w),z.2⟩]
theorem aZA {kvs:List (Key × V)} {f:Nat → Option Int} {i c:Nat} {n:Int} (h:kvs[i]? = some (Sum.inr (one c),V.int n)) (p:¬ 0 < aK f c):qB kvs f i = qB kvs f (i + 1):=by
 funext d
 unfold qB
 rw [rE h]
 by_cases q:d ∈ oY (kvs.take i) ∧ 0 < aK f d
 · rw [if_pos q,if_pos ⟨Bt _ q.1,q.2⟩]
 · rw [if_neg q,if_neg fun z => q ⟨(Bi.mp z.1).resolve_right fun w => p (by rw [← As.mp w]; exact z.2),z.2⟩]
def kU:Sp:=fun vs H Q _ => ∃ (a:Addr) (kvs:List (Key × V)) (f:Nat → Option Int),vs = [.ref a] ∧ H a = some (.dK kvs) ∧ Lk kvs f ∧ FlOnly f ∧
 ∀ (r:Addr) (kws:List (Key × V)) (H':Hp),H r = none → Same H H' → H' r = some (.dK kws) → Lk kws (bA (aK f)) → Q (.ref r) H'
theorem sc_l_plain:FnScope ["_law_locker_here", "_law_found", "_law_flag"] ["_law_locker_here"] (aG fM):=⟨rfl,rfl,rfl,by decide +kernel,rfl,by decide +kernel,by decide +kernel⟩
theorem xT {Zw Zz Zx Zy:Addr} {f:Addr} {fd:FuncData} (F:Fun K "_law_plain" "_law_plain" fM f fd) (G:Gs K mg Zw Zz Zx Zy)  : FnOk P w K mg base CX0 1 f fd ["_law_locker_here"] kU:=by
 refine F.ok sc_l_plain (fun vs H Q E h => ?_) (fun cdv A outer s H vs Q E hr h => ?_)
 · obtain ⟨a,kvs,f,rfl,_⟩:=h; rfl
 obtain ⟨a,kvs,f,rfl,ha,lk,hfo,q⟩:=h
 refine ⟨_,(@aD _ _ _ _ _ (@aP _ _ 1 _ _ _ _ sc_l_plain.nd (by rfl) (by exact (Or.inl rfl)) lU (by rfl) (by first | exact Or.inl rfl | exact Or.inr rfl)) (@aD _ _ _ _ _ (sM (bV Bf rfl (zZ (mv 0)) (aV (i:=2) sc_l_plain.nd rfl (Or.inl rfl)) (@aH _ _ _ (cS (bB bXU (bP (Room.u1 hr) (mv 0) (mv 2) (fun _ _ => rfl)) aL (bF _)) (@aH _ _ _ (cX (Room.u1 hr) (mv 1) (mv 2) (bP (Room.u1 hr) (mv 0) (mv 2) (fun _ _ => rfl)) rfl)) bO)))) (@aH _ _ _ (aT (mv 1))))),?_⟩
 have h27:=aQD lk hfo
 walk_at "go"
 intro r hr
 have hra:r ≠ a:=fun z => by rw [z,ha] at hr; cases hr
 have s1:=aE hr (.dK [])
 have e1:(upd H r (.dK [])) r = some (.dK []):=aB
 generalize upd H r (.dK []) = H1 at s1 e1 ⊢
 have ha1:=s1 _ _ ha
 walk_at "go"
 refine aJH ha1 fun o => ?_
 have fz:(upd H1 a (.frz o (.dK kvs))) a = _:=aB
 refine bJQ (fun i σ H' => ∃ (kws:List (Key × V)) (v2:Option V),σ = [some (.ref a),some (.ref r),v2] ∧ (∀ p u,p ≠ r → (upd H1 a (.frz o (.dK kvs))) p = some u → H' p = some u) ∧ H' r = some (.dK kws) ∧ Lk kws (qB kvs f i) ∧ kws.length ≤ i)
   ⟨[],_,rfl,fun p u _ e => e,by rw [aI hra]; exact e1,Lk.nil.ext (by funext c; unfold qB; rw [Eb]; exact (if_neg fun z => nomatch z.1).symm),Ct _⟩ (fun i σ H' _ ⟨_,_,_,e,_⟩ => e _ _ (Ne.symm hra) fz) ?_ ?_
 · rintro i kv σ H5 hkv ⟨kws,v2,rfl,s5,hH,lw,hwl⟩
   have hi:i < kvs.length:=(Ad.mp hkv).1
   obtain ⟨c,x,rfl,hn'⟩:=lk.at_mem (Ai hkv)
   have hcn:aK f c = x:=by unfold aK; rw [hn']; rfl
   have hp5:=s5 _ _ (Ne.symm hra) fz
   have hpl:kws.length < sizeLine:=bD (by omega)
   dsimp only [kV]
   walk_at "go"
   refine cK (z:=one c) (.inr ⟨o,hp5⟩) (by rw [lk.val c,hn']; rfl) ?_
   walk_at "go"
   refine fZ (fun hd => ?_) (fun hd => ?_)
   · have hd':0 < x:=Be hd
     walk_at "go"
     refine cK (z:=one c) (.inr ⟨o,hp5⟩) (by rw [lk.val c,hn']; rfl) ?_
     walk_at "go"
     refine dR (z:=one c) hH hpl ?_
     refine ⟨_,_,rfl,fun p u hp hu => by rw [aI hp]; exact s5 p u hp hu,aB,?_,by have:=dY kws (Sum.inr (one c)) (.int x); exact Bb this (by omega)⟩
     have l2:=lw.put c x
     rw [← hcn] at l2 hd' ⊢
     exact l2.ext (aJ2 hkv hd')
   · have hd':¬ 0 < x:=Bq (Bw.mpr hd)
     walk_at "go"
     exact ⟨kws,_,rfl,s5,hH,lw.ext (aZA hkv (by rw [hcn]; exact hd')),by omega⟩
 · rintro σ H5 ⟨kws,v2,rfl,s5,hH,lw,hwl⟩
   walk_at "go"
   refine q r kws _ hr ?_ (dI hH (fun _ _ z => nomatch z)) (lw.ext (aJG lk hfo))
   intro p u hu
   have hpr:p ≠ r:=fun z => by rw [z,hr] at hu; cases hu
   have hu1:=s1 _ _ hu
   by_cases z:p = a
   · subst z
     rw [ha1] at hu1
     cases hu1
     exact nS (s5 _ _ hpr fz) (fun o v z => by rw [ha1] at z; cases z)
   · have h5:=s5 p u hpr (by rw [aI z]; exact hu1)
     by_cases hf:∃ o v,u = .frz o v
     · obtain ⟨o',v',rfl⟩:=hf
       exact jL h5 hu1
     · exact dI h5 fun o v z => hf ⟨o,v,z⟩
def rC:Sp:=fun vs H Q _ => ∃ n m:Int,vs = [.int n,.int m] ∧ 0 ≤ m ∧ ∀ (cw:List Nat) (H':Hp),Same H H' → 1 ≤ cw.length → cw.length ≤ 7 → (∀ d ∈ cw,bS d) → Q (.str (bE cw)) H'
theorem sc_l_word:FnScope ["_law_cell_here", "_law_base", "_law_some", "_law_word_here", "_law_k"] ["_law_cell_here", "_law_base"] (aG gO):=⟨rfl,rfl,rfl,by decide +kernel,rfl,by decide +kernel,by decide +kernel⟩
theorem aXK {Zw Zz Zx Zy:Addr} {f:Addr} {fd:FuncData} (F:Fun K "_law_word" "_law_word" gO f fd) (G:Gs K mg Zw Zz Zx Zy) (c_l_stream:Cal P w K mg base 1 "_law_stream" ["_law_cell_here", "_law_many"] jH):FnOk P w K mg base CX0 2 f fd ["_law_cell_here", "_law_base"] rC:=by
 refine F.ok sc_l_word (fun vs H Q E h => ?_) (fun cdv A outer s H vs Q E hr h => ?_)
 · obtain ⟨n,m,rfl,_⟩:=h; rfl
 obtain ⟨n,m,rfl,hm0,q⟩:=h
 refine ⟨_,(@aD _ _ _ _ _ (@aP _ _ 2 _ _ _ _ sc_l_word.nd (by rfl) (by exact (Or.inl rfl)) (aU c_l_stream hr (by decide) rfl (aA (mv 0) (aA aL aF))) (by rfl) (by first | exact Or.inl rfl | exact Or.inr rfl)) (@aD _ _ _ _ _ (@aP _ _ 3 _ _ _ _ sc_l_word.nd (by rfl) (by exact (Or.inl rfl)) bM (by rfl) (by first | exact Or.inl rfl | exact Or.inr rfl)) (@aD _ _ _ _ _ (bV Bf rfl (fN rfl G.b_range (aA (aX cH aL (aX iO (bL cO (mv 2) aL (fun _ _ => rfl)) aL)) aF)) (aV (i:=4) sc_l_word.nd rfl (Or.inl rfl)) (@aH _ _ _ (@aP _ _ 3 _ _ _ _ sc_l_word.nd (by rfl) (by exact (Or.inl rfl)) (aX cH (mv 3) (bL cO bM (aX iO (aX cH (mv 1) (aX iO (bL cO (mv 2) (mv 4) (fun _ _ => rfl)) aL)) aL) (fun _ _ => rfl))) (by rfl) (by first | exact Or.inl rfl | exact Or.inr rfl)))) (@aH _ _ _ (aT (mv 3)))))),?_⟩
 walk_at "go"
 refine ⟨n,6,rfl,by omega,by omega,fun r ns H1 hr1 s1 hl hp he => ?_⟩
 have hl6:ns.length = 6:=hl
 have hlr:rdL H1 r = some (ns.map V.int):=aQ he
 obtain ⟨n5,i5,a5⟩:=lO (ns:=ns) (i:=5) (by omega) (by omega)
 have z0:=Dd n5 (show (5:Int) ≠ 0 by decide)
 have z1:=Dg n5 (show (0:Int) < 5 by decide)
 walk_at "go"
 refine eC hlr a5 ?_
 walk_at "go"
 generalize n5 % 5 = u at z0 z1 ⊢
 refine ⟨⟨by omega,by omega⟩,?_⟩
 refine gR (fun i σ H' => ∃ (cs:List Nat) (v:Option V),σ = [some (.int n),some (.int m),some (.ref r),some (.str (bE cs)),v] ∧ cs.length = i ∧ (∀ d ∈ cs,bS d) ∧ Same H1 H')
   ⟨[],none,rfl,rfl,(fun d hd => nomatch hd),Same.refl _⟩ ?_ ?_
 · rintro i σ H2 hi ⟨cs,v,rfl,hcl,hL,s2⟩
   have hi7:i < 7:=by omega
   have hwl:(bE cs).length = cs.length:=eM cs
   have hl2:=aJ s2 hlr
   obtain ⟨nk,ik,ak⟩:=lO (ns:=ns) (i:=0 + (i:Int)) (by omega) (by omega)
   walk_at "go"
   refine eC hl2 ak ?_
   walk_at "go"
   generalize m + nk % 4 = y
   have y0:=Dd y (show (23:Int) ≠ 0 by decide)
   have y1:=Dg y (show (0:Int) < 23 by decide)
   have e1:=aQI (k:=(y % 23).toNat) (by omega)
   rw [show (((y % 23).toNat:Nat):Int) = y % 23 by omega] at e1
   refine iZ (by decide) e1 ?_
   have h1l:(⟨#[97 + (y % 23).toNat]⟩:Str).length = 1:=rfl
   walk_at "go"
   refine ⟨cs ++ [97 + (y % 23).toNat],some (.int (0 + (i:Int))),?_,by rw [Aj,hcl]; rfl,fun d hd => ?_,s2⟩
   · rw [← gW]
     rfl
   · rcases Bi.mp hd with z | z
     · exact hL d z
     · rw [As.mp z]
       exact ⟨by omega,by omega⟩
 · rintro σ H2 ⟨cs,v,rfl,hcl,hL,s2⟩
   walk_at "go"
   exact q cs _ (s1.trans s2) (by omega) (by omega) hL
def nJ:Sp:=fun vs H Q _ => ∃ c m:Int,vs = [.int c,.int m] ∧ 0 ≤ m ∧ ∀ (r:Addr) (kvs:List (Key × V)) (f:Nat → Option Int) (H':Hp),H r = none → Same H H' → H' r = some (.dK kvs) → Lk kvs f → (∀ c,0 ≤ aK f c ∧ aK f c ≤ 10) → FlOnly f → Q (.ref r) H'
theorem sc_l_locker:FnScope ["_law_cell_here", "_law_base", "_law_some", "_law_locker_here", "_law_k"] ["_law_cell_here", "_law_base"] (aG eW):=⟨rfl,rfl,rfl,by decide +kernel,rfl,by decide +kernel,by decide +kernel⟩
theorem wA {Zw Zz Zx Zy:Addr} {f:Addr} {fd:FuncData} (F:Fun K "_law_locker" "_law_locker" eW f fd) (G:Gs K mg Zw Zz Zx Zy) (c_l_stream:Cal P w K mg base 1 "_law_stream" ["_law_cell_here", "_law_many"] jH):FnOk P w K mg base CX0 2 f fd ["_law_cell_here", "_law_base"] nJ:=by
 refine F.ok sc_l_locker (fun vs H Q E h => ?_) (fun cdv A outer s H vs Q E hr h => ?_)
 · obtain ⟨c,m,rfl,_⟩:=h; rfl
 obtain ⟨c,m,rfl,hm0,q⟩:=h
 refine ⟨_,(@aD _ _ _ _ _ (@aP _ _ 2 _ _ _ _ sc_l_locker.nd (by rfl) (by exact (Or.inl rfl)) (aU c_l_stream hr (by decide) rfl (aA (mv 0) (aA aL aF))) (by rfl) (by first | exact Or.inl rfl | exact Or.inr rfl)) (@aD _ _ _ _ _ (@aP _ _ 3 _ _ _ _ sc_l_locker.nd (by rfl) (by exact (Or.inl rfl)) lU (by rfl) (by first | exact Or.inl rfl | exact Or.inr rfl)) (@aD _ _ _ _ _ (bV Bf rfl (fN rfl G.b_range (aA aL aF)) (aV (i:=4) sc_l_locker.nd rfl (Or.inl rfl)) (@aD _ _ _ _ _ (cX (Room.u1 hr) (mv 3) (bL cO bM (aX iO (aX cH (mv 1) (mv 4)) aL) (fun _ _ => rfl)) (aX iO (bL cO (mv 2) (mv 4) (fun _ _ => rfl)) aL) rfl) (@aH _ _ _ (cX (Room.u1 hr) (mv 3) (bL cO bM (mv 4) (fun _ _ => rfl)) (aX iO (bL cO (mv 2) (aX cH aL (mv 4)) (fun _ _ => rfl)) aL) rfl)))) (@aH _ _ _ (aT (mv 3)))))),?_⟩
 walk_at "go"
 refine ⟨c,8,rfl,by decide,by decide,fun r ns H1 hr s1 hnl hn0 e1 => ?_⟩
 have hnl':ns.length = 8:=hnl
 have r1:=aQ e1
 walk_at "go"
 intro p hp
 have sp:=aE hp (.dK [])
 walk_at "go"
 refine ⟨⟨by omega,by omega⟩,?_⟩
 refine gR (fun i σ H' => ∃ (kvs:List (Key × V)) (f:Nat → Option Int) (v:Option V),σ = [some (.int c),some (.int m),some (.ref r),some (.ref p),v] ∧ Same H1 H' ∧ H' p = some (.dK kvs) ∧ Lk kvs f ∧ (∀ c,0 ≤ aK f c ∧ aK f c ≤ 10) ∧ FlOnly f)
   ⟨[],fun _ => none,_,rfl,sp,aB,Lk.nil,(fun c => ⟨Gq _,by show (0:Int) ≤ 10; decide⟩),(fun c hc => nomatch hc)⟩ ?_ ?_
 · rintro i σ H2 hi ⟨kvs,f,v,rfl,s2,e2,lk,hf0,hfo⟩
   have hi4:i < 4:=by omega
   have r2:=aJ s2 r1
   rw [show (0:Int) + (i:Int) = ((i:Nat):Int) by omega]
   obtain ⟨x,hx,ax⟩:=lO (ns:=ns) (i:=((i:Nat):Int)) (by omega) (by omega)
   obtain ⟨x4,hx4,ax4⟩:=lO (ns:=ns) (i:=4 + ((i:Nat):Int)) (by omega) (by omega)
   walk_at "go"
   refine eC r2 ax ?_
   walk_at "go"
   have hx0:=Dd x (show (7:Int) ≠ 0 by decide)
   have hx1:=Dg x (show (0:Int) < 7 by decide)
   have y0:=Dd (m + ((i:Nat):Int)) (show (23:Int) ≠ 0 by decide)
   have y1:=Dg (m + ((i:Nat):Int)) (show (0:Int) < 23 by decide)
   have ea:=aQI (k:=((m + ((i:Nat):Int)) % 23).toNat) (by omega)
   rw [show ((((m + ((i:Nat):Int)) % 23).toNat:Nat):Int) = (m + ((i:Nat):Int)) % 23 by omega] at ea
   refine iZ (by decide) ea ?_
   have hlet:fJ (97 + ((m + ((i:Nat):Int)) % 23).toNat):=.inl ⟨by omega,by omega⟩
   generalize 97 + ((m + ((i:Nat):Int)) % 23).toNat = d at hlet ⊢
   walk_at "go"
   refine dR (z:=one d) e2 (bD (by have:=aQD lk hfo; omega)) ?_
   have s3:Same H1 (upd H2 p (.dK (cP kvs (Sum.inr (one d)) (.int (x % 7))))):=aY hp s2
   have e3:(upd H2 p (.dK (cP kvs (Sum.inr (one d)) (.int (x % 7))))) p = _:=aB
   have lk3:=lk.put d (x % 7)
   have hfo3:=hfo.put (x:=x % 7) hlet
   have hf3:∀ c,0 ≤ aK (fun e => if e = d then some (x % 7) else f e) c ∧ aK (fun e => if e = d then some (x % 7) else f e) c ≤ 10:=fun c => by
     rw [pQ]
     by_cases e:c = d
     · rw [if_pos e]; omega
     · rw [if_neg e]; exact hf0 c
   generalize upd H2 p (.dK (cP kvs (Sum.inr (one d)) (.int (x % 7)))) = H3 at s3 e3 ⊢
   have r3:=aJ s3 r1
   walk_at "go"
   refine eC r3 ax4 ?_
   walk_at "go"
   have hw0:=Dd x4 (show (5:Int) ≠ 0 by decide)
   have hw1:=Dg x4 (show (0:Int) < 5 by decide)
   have e4:atI (Str.ofString "1234").cps.toList ((i:Nat):Int) = some (49 + i):=by
     have:∀ k:_root_.Fin 4,atI (Str.ofString "1234").cps.toList ((k.val:Nat):Int) = some (49 + k.val):=by decide
     exact this ⟨i,hi4⟩
   refine iZ (by decide) e4 ?_
   walk_at "go"
   refine dR (z:=one (49 + i)) e3 (bD (by have:=aQD lk3 hfo3; omega)) ?_
   refine ⟨_,_,_,rfl,aY hp s3,aB,lk3.put (49 + i) (x4 % 5),fun c => ?_,hfo3.put (.inr ⟨by omega,by omega⟩)⟩
   rw [pQ]
   by_cases e:c = 49 + i
   · rw [if_pos e]; omega
   · rw [if_neg e]; exact hf3 c
 · rintro σ H2 ⟨kvs,f,v,rfl,s2,e2,lk,hf0,hfo⟩
   walk_at "go"
   exact q p kvs f H2 (none_of s1 hp) (s1.trans s2) e2 lk hf0 hfo
def wdV:Option (List Nat) → V
 | none => .non
 | some cw => .str (bE cw)
def dZ3:Option (List Nat) → Option (List Nat) → Prop
 | none,none => True
 | some cs,some cw => Hg cw cs ∧ 1 ≤ cw.length ∧ cw.length ≤ 7 ∧ ∀ d ∈ cw,bS d
 | _,_ => False
def Fits (hs wv:List (Option (List Nat))):Prop:=hs.length = wv.length ∧ ∀ k:Nat,k < hs.length → dZ3 (hs.getD k none) (wv.getD k none)
theorem jQ {hs:List (Option (List Nat))} {o k:Nat} {h:Option (List Nat)} (e:o ≠ k):(hs.set o h).getD k none = hs.getD k none:=by
 rw [Ac,Cs e,← Ac]
theorem jZ {hs:List (Option (List Nat))} {o:Nat} {h:Option (List Nat)} (e:o < hs.length):(hs.set o h).getD o none = h:=by
 rw [Ac,Cu e]
 rfl
theorem Fits.lower {hs wv:List (Option (List Nat))} (h:Fits hs wv) {n:Nat} (hn:n < hs.length):Fits (hs.set n none) (wv.set n none):=by
 refine ⟨by rw [Cg,Cg,h.1],fun k hk => ?_⟩
 rw [Cg] at hk
 by_cases e:n = k
 · subst e
   rw [jZ hn,jZ (by rw [← h.1]; exact hn)]
   trivial
 · rw [jQ e,jQ e]
   exact h.2 k hk
theorem Fits.read {hs wv:List (Option (List Nat))} (h:Fits hs wv) {k:Nat} (hk:k < hs.length) (hs':(hs.getD k none).isSome = true):wv.getD k none = some (rdC ((hs.getD k none).getD [])):=by
 have f:=h.2 k hk
 cases e1:hs.getD k none with
 | none => rw [e1] at hs'; cases hs'
 | some cs =>
   rw [e1] at f
   cases e2:wv.getD k none with
   | none => rw [e2] at f; exact f.elim
   | some cw =>
     rw [e2] at f
     obtain ⟨hg,_,_,hL⟩:=f
     show some cw = some (rdC cs)
     rw [cZQ hL hg.1 fun j hj => ?_]
     have ej:cs[j]? = some cs[j]:=Aa hj
     rw [Ac,ej]
     exact hg.2 j _ ej
theorem Fits.haul {hs wv:List (Option (List Nat))} (h:Fits hs wv) {n:Nat} {cw ks:List Nat} {gs:List (List Nat)} (hn:n < hs.length) (hks:ks.Sublist (aO hs n)) (hg:Hgs (bQ hs cw ks) gs) (hc1:1 ≤ cw.length) (hc7:cw.length ≤ 7) (hcL:∀ d ∈ cw,bS d):Fits (fW hs ((n :: ks).zip gs)) (wv.set n (some cw)):=by
 have hlen:(n :: ks).length = gs.length:=by
   rw [hg.len]
   show _ = (ks.map _).length + 1
   rw [Ab]
   rfl
 have hlt:∀ z ∈ (n :: ks).zip gs,z.1 < hs.length:=fun z hz => by
   rcases Ba.mp (Dt hz).1 with e | e
   · rw [e]; exact hn
   · exact (dH (hks.subset e)).1
 have ndz:(((n :: ks).zip gs).map (·.1)).Nodup:=by
   rw [show ((n :: ks).zip gs).map (·.1) = n :: ks from List.map_fst_zip (by rw [hlen]; exact Ah _)]
   exact mD hks
 have hat:∀ (i k:Nat) c,(n :: ks)[i]? = some k → (bQ hs cw ks)[i]? = some c → ∃ g,(fW hs ((n :: ks).zip gs)).getD k none = some g ∧ Hg c g:=fun i k c hk hc => by
   obtain ⟨g,eg,hgg⟩:=hg.at hc
   refine ⟨g,?_,hgg⟩
   exact zQ hs _ ndz hlt (k,g) (Ai (i:=i) (by rw [List.getElem?_zip_eq_some]; exact ⟨hk,eg⟩))
 refine ⟨by rw [eO,Cg,h.1],fun k hk => ?_⟩
 rw [eO] at hk
 by_cases e:n = k
 · subst e
   obtain ⟨g,e1,e2⟩:=hat 0 n cw rfl rfl
   rw [e1,jZ (by rw [← h.1]; exact hn)]
   exact ⟨e2,hc1,hc7,hcL⟩
 · rw [jQ e]
   by_cases hm:k ∈ ks
   · obtain ⟨i,hi⟩:=Ec.mp hm
     have ho:=dH (hks.subset hm)
     obtain ⟨g,e1,e2⟩:=hat (i + 1) k (rdC ((hs.getD k none).getD [])) hi (by show (ks.map _)[i]? = _; rw [Ag,hi]; rfl)
     have f:=h.2 k hk
     have er:=h.read hk ho.2.1
     rw [e1,er]
     cases eh:hs.getD k none with
     | none => rw [eh] at ho; cases ho.2.1
     | some cs =>
       rw [er,eh] at f
       rw [eh] at e2
       exact ⟨e2,f.2⟩
   · rw [pD hs _ fun z hz => fun q => by
       rcases Ba.mp (Dt hz).1 with w | w
       · exact e (w.symm.trans q)
       · exact hm (by rw [← q]; exact w)]
     exact h.2 k hk
theorem tO {hs:List (Option (List Nat))} {k:Nat} {h:Option (List Nat)} (hk:k < hs.length) (c:Nat):∀ m,cnt (aM (hs.set k h) (List.range m)) c = cnt (aM hs (List.range m)) c + if k < m then cnt (h.getD []) c - cnt (bX hs k) c else 0
 | 0 => rfl
 | m + 1 => by
   have e:∀ (g:List (Option (List Nat))),aM g [m] = bX g m:=fun g => Bk _
   rw [Cb,jP,jP,lN,lN,tO hk c m,e,e]
   by_cases q:k = m
   · subst q
     rw [if_neg (Dk _),if_pos (Nat.lt_succ_self _)]
     show _ + cnt (((hs.set k h).getD k none).getD []) c = _
     rw [jZ hk]
     omega
   · have e2:bX (hs.set k h) m = bX hs m:=by unfold bX; rw [jQ q]
     rw [e2]
     by_cases l:k < m
     · rw [if_pos l,if_pos (by omega)]; omega
     · rw [if_neg l,if_neg (by omega)]; omega
theorem aJC {hs:List (Option (List Nat))} (c:Nat):∀ zs:List (Nat × List Nat),(zs.map (·.1)).Nodup → (∀ z ∈ zs,z.1 < hs.length) → cnt (aM (fW hs zs) (List.range hs.length)) c + cnt (aM hs (zs.map (·.1))) c = cnt (aM hs (List.range hs.length)) c + cnt (zs.map (·.2)).flatten c:=fun zs => by
 refine iX (p:=fun zs => (zs.map (·.1)).Nodup → (∀ z ∈ zs,z.1 < hs.length) → cnt (aM (fW hs zs) (List.range hs.length)) c + cnt (aM hs (zs.map (·.1))) c = cnt (aM hs (List.range hs.length)) c + cnt (zs.map (·.2)).flatten c) (fun _ _ => rfl) (fun zs z ih nd hl => ?_) zs
 rw [Ak,Ap,Fm] at nd
 have hz:=hl z (Bg _ An)
 have i:=ih (Cr.mp nd).1 fun w hw => hl w (Bt _ hw)
 have hne:∀ w ∈ zs,w.1 ≠ z.1:=fun w hw q => (Cr.mp nd).2.2 w.1 (List.mem_map_of_mem hw) z.1 An q
 have e1:bX (fW hs zs) z.1 = bX hs z.1:=by unfold bX; rw [pD hs _ hne]
 have e2:aM hs [z.1] = bX hs z.1:=Bk _
 rw [fT,tO (by rw [eO]; exact hz),if_pos hz,e1,List.map_append,List.map_append,jP,lN,List.map_cons,List.map_nil,e2,List.flatten_append,lN,show ([z].map (·.2)).flatten = z.2 by simp]
 show _ + (cnt z.2 c - _) + _ = _
 omega
def kZ (f:Nat → Option Int) (hs:List (Option (List Nat))) (c:Nat):Int:=aK f c + cnt (aM hs (List.range hs.length)) c
theorem bJR {f:Nat → Option Int} (h:FlOnly f) {c:Nat} (hc:¬ fJ c):aK f c = 0:=by
 unfold aK
 cases e:f c with
 | none => rfl
 | some x => exact absurd (h c (by rw [e]; rfl)) hc
theorem lE {hs:List (Option (List Nat))} (ok:dO hs) {ks:List Nat} {d:Nat} (h:d ∈ aM hs ks):fJ d:=by
 obtain ⟨k,_,hk⟩:=Fp.mp h
 exact aJW ok hk
theorem aXW {f g:Nat → Option Int} {hs:List (Option (List Nat))} {n:Nat} (hn:n < hs.length) (hg:∀ c,aK g c = aK f c + cnt (aM hs [n]) c) (c:Nat):kZ g (hs.set n none) c = kZ f hs c:=by
 unfold kZ
 rw [Cg,tO hn,if_pos hn,hg c,show aM hs [n] = bX hs n from Bk _]
 show _ + (_ + (((0:Nat):Int) - _)) = _
 omega
theorem bXJ {f:Nat → Option Int} {hs:List (Option (List Nat))} {n:Nat} {cw ks:List Nat} {gs:List (List Nat)} (hf0:∀ c,0 ≤ aK f c) (hfo:FlOnly f) (ok:dO hs) (hn:n < hs.length) (hks:ks.Sublist (aO hs n)) (hg:Hgs (bQ hs cw ks) gs) (hgf:∀ g ∈ gs,∀ c ∈ g,fJ c) (hcnt:∀ c,cnt gs.flatten c ≤ aK (gL f hs (n :: ks)) c) (c:Nat):kZ (bA fun c => aK (gL f hs (n :: ks)) c - cnt gs.flatten c) (fW hs ((n :: ks).zip gs)) c = kZ f hs c:=by
 have hlen:(n :: ks).length = gs.length:=by
   rw [hg.len]
   show _ = (ks.map _).length + 1
   rw [Ab]
   rfl
 have hlt:∀ z ∈ (n :: ks).zip gs,z.1 < hs.length:=fun z hz => by
   rcases Ba.mp (Dt hz).1 with e | e
   · rw [e]; exact hn
   · exact (dH (hks.subset e)).1
 have e1:((n :: ks).zip gs).map (·.1) = n :: ks:=List.map_fst_zip (by rw [hlen]; exact Ah _)
 have e2:((n :: ks).zip gs).map (·.2) = gs:=List.map_snd_zip (by rw [hlen]; exact Ah _)
 have r:=aJC c ((n :: ks).zip gs) (by rw [e1]; exact mD hks) hlt
 rw [e1,e2] at r
 unfold kZ
 rw [eO]
 have h0:=hcnt c
 by_cases hc:fJ c
 · have hp:aK (gL f hs (n :: ks)) c = aK f c + cnt (aM hs (n :: ks)) c:=eI (n:=fun c => aK f c + cnt (aM hs (n :: ks)) c) hc (by have:=hf0 c; have:=fV (aM hs (n :: ks)) c; show 0 ≤ _ + _; omega)
   rw [eI hc (by omega),hp]
   omega
 · rw [bJR hfo hc,lY fun z => hc (lE ok z)]
   have e3:aK (bA fun c => aK (gL f hs (n :: ks)) c - cnt gs.flatten c) c = 0:=by
     show (bA _ c).getD 0 = 0
     unfold bA
     rw [if_neg fun z => hc z.1]
     rfl
   have e4:cnt (aM hs (n :: ks)) c = 0:=lY fun z => hc (lE ok z)
   have e5:cnt gs.flatten c = 0:=lY fun z => by
     obtain ⟨g,h1,h2⟩:=List.mem_flatten.mp z
     exact hc (hgf g h1 c h2)
   have e6:cnt (aM hs (List.range hs.length)) c = 0:=lY fun z => hc (lE ok z)
   rw [e3]
   omega
def pW:Sp:=fun vs H Q _ => ∃ (b wd:Addr) (us:List V) (hs wv:List (Option (List Nat))),vs = [.ref b,.ref wd] ∧ rdL H b = some us ∧ HalsAt H us hs ∧ rdL H wd = some (wv.map wdV) ∧ Fits hs wv ∧ hs.length ≤ 6 ∧ ∀ H',Same H H' → Q (.bl true) H'
theorem sc_l_reads:FnScope ["_law_halyards", "_law_words_here", "_law_hoist", "_law_word_here", "_law_k"] ["_law_halyards", "_law_words_here"] (aG fS):=⟨rfl,rfl,rfl,by decide +kernel,rfl,by decide +kernel,by decide +kernel⟩
theorem xH {Zw Zz Zx Zy:Addr} {f:Addr} {fd:FuncData} (F:Fun K "_law_reads" "_law_reads" fS f fd) (G:Gs K mg Zw Zz Zx Zy) (c_l_choices:Cal P w K mg base 1 "_law_choices" ["_law_word_here", "_law_place"] iH):FnOk P w K mg base CX0 2 f fd ["_law_halyards", "_law_words_here"] pW:=by
 refine F.ok sc_l_reads (fun vs H Q E h => ?_) (fun cdv A outer s H vs Q E hr h => ?_)
 · obtain ⟨b,wd,us,hs,wv,rfl,_⟩:=h; rfl
 obtain ⟨b,wd,us,hs,wv,rfl,hb,hat,hw,hf,h6,q⟩:=h
 refine ⟨_,(@aD _ _ _ _ _ (bV Bf rfl (bXF rfl G.b_zip (aA (mv 0) (aA (mv 1) aF))) (iL (K:=K) (i:=2) (j:=3) (by rfl) (by rfl) sc_l_reads.nd (by rfl) (by exact (Or.inl rfl)) (by exact Or.inl rfl) (by rfl) (by exact (Or.inl rfl)) (by exact Or.inl rfl)) (@aD _ _ _ _ _ (cS (bB aJS (iJ aQY (mv 2) dA (bF _)) (iJ aQY (mv 3) dA (bF _)) (bF _)) (@aH _ _ _ (aT gS)) bO) (@aH _ _ _ (cS (bB mG (mv 3) dA (bF _)) (@aH _ _ _ (bV Bf rfl (fN rfl G.b_range (aA (bJ eU rfl G.b_len cQ (aA (mv 3) aF)) aF)) (aV (i:=4) sc_l_reads.nd rfl (Or.inl rfl)) (@aH _ _ _ (cS (PW.pt (qQ (bB aJS (bJ eU rfl G.b_len cQ (aA (mv 2) aF)) (bJ eU rfl G.b_len cQ (aA (mv 3) aF)) (bF _)) (pI (bB wN (bL cO (mv 2) (mv 4) (fun _ _ => rfl)) (aU c_l_choices hr (by decide) rfl (aA (mv 3) (aA (aX cH (mv 4) aL) aF))) (by rfl))))) (@aH _ _ _ (aT gS)) bO)))) bO)))) (@aH _ _ _ (aT (iJ xC (bJ eU rfl G.b_len cQ (aA (mv 0) aF)) (bJ eU rfl G.b_len cQ (aA (mv 1) aF)) (bF _))))),?_⟩
 have hul:=hat.len
 have hwl:(wv.map wdV).length = hs.length:=by rw [Ab,hf.1]
 walk_at "go"
 refine bXI (xs:=us) (ys:=wv.map wdV) (fun i σ H' => ∃ (v2 v3 v4:Option V),σ = [some (.ref b),some (.ref wd),v2,v3,v4] ∧ Same H H')
   ⟨_,_,_,rfl,Same.refl _⟩ (fun i σ H' _ _ ⟨_,_,_,_,s⟩ => ⟨aJ s hb,aJ s hw⟩) ?_ ?_
 · rintro i x y σ H2 pt hx hy ⟨v2,v3,v4,rfl,s2⟩ hpt
   have hi:i < hs.length:=by rw [← hul]; exact (Ad.mp hx).1
   have s3:=s2.trans (aE hpt (.tup [x,y]))
   have t3:kC (upd H2 pt (.tup [x,y])) pt = some [x,y]:=jW
   generalize upd H2 pt (.tup [x,y]) = H3 at s3 t3 ⊢
   have hv:=(hat.keep s3).val i x (hs.getD i none) hx (by rw [Ac,Aa hi]; rfl)
   have hy':y = wdV (wv.getD i none):=by
     rw [Ag] at hy
     rw [Ac]
     cases e:wv[i]? with
     | none => rw [e] at hy; cases hy
     | some o => rw [e] at hy; cases hy; rfl
   have f:=hf.2 i hi
   cases e1:hs.getD i none with
   | none =>
     cases e2:wv.getD i none with
     | some cw => rw [e1,e2] at f; exact f.elim
     | none =>
       rw [e1] at hv
       rw [e2] at hy'
       obtain rfl:x = V.non:=hv
       obtain rfl:y = V.non:=hy'
       walk_at "go"
       refine fZ (fun hz => absurd hz (by simp)) (fun _ => ?_)
       walk_at "go"
       rw [show decide (V.non = V.non) = true from rfl]
       walk_at "go"
       exact ⟨_,_,_,rfl,s3⟩
   | some cs =>
     cases e2:wv.getD i none with
     | none => rw [e1,e2] at f; exact f.elim
     | some cw =>
       rw [e1] at hv
       rw [e2] at hy'
       rw [e1,e2] at f
       obtain ⟨hg,hc1,hc7,hcL⟩:=f
       obtain ⟨pc,rfl,hpc⟩:=hv
       obtain rfl:y = V.str (bE cw):=hy'
       have hcl:(bE cw).length = cw.length:=eM cw
       have hsl:((cs.map one).map V.str).length = cw.length:=by rw [Ab,Ab,hg.1]
       have d1:decide (V.ref pc = V.non) = false:=Av (fun z => nomatch z)
       have d2:decide (V.str (bE cw) = V.non) = false:=Av (fun z => nomatch z)
       walk_at "go"
       rw [d1,d2]
       refine fZ (fun hz => absurd hz (by decide)) (fun _ => ?_)
       walk_at "go"
       rw [d2]
       walk_at "go"
       rw [hcl]
       refine ⟨⟨by omega,by omega⟩,?_⟩
       rw [show ((cw.length:Nat):Int).toNat = cw.length from Cw _]
       refine gR (fun k σ H' => ∃ (v4:Option V),σ = [some (.ref b),some (.ref wd),some (.ref pc),some (.str (bE cw)),v4] ∧ Same H3 H')
         ⟨_,rfl,Same.refl _⟩ ?_ ?_
       · rintro k σ H4 hk0 ⟨v4,rfl,s4⟩
         have hk:k < cw.length:=hk0
         have rh:=aQ (s4 _ _ hpc)
         obtain ⟨d,hd⟩:∃ d,cs[k]? = some d:=⟨_,Aa (by rw [hg.1]; exact hk)⟩
         have ax:atI ((cs.map one).map V.str) (0 + (k:Int)) = some (.str (one d)):=by
           rw [show (0:Int) + (k:Int) = ((k:Nat):Int) by omega]
           exact eK (by rw [Ag,Ag,hd]; rfl)
         walk_at "go"
         rw [hsl,hcl,Ar rfl]
         walk_at "go"
         refine eC rh ax ?_
         walk_at "go"
         refine ⟨cw,k,_,rfl,by omega,hk,hc7,fun rc H6 hrc s6 er6 => ?_⟩
         refine cQ7 (neg:=true) (aQ er6) rfl (iP _) ?_
         rw [vT,Ar (hg.2 k d hd),show (if true = true then !true else true) = false from rfl]
         walk_at "go"
         exact ⟨_,rfl,s4.trans s6⟩
       · rintro σ H4 ⟨v4,rfl,s4⟩
         walk_at "go"
         exact ⟨_,_,_,rfl,s3.trans s4⟩
 · rintro σ H2 ⟨v2,v3,v4,rfl,s2⟩
   have hb2:=aJ s2 hb
   have hw2:=aJ s2 hw
   walk_at "go"
   rw [hul,hwl,Ar rfl]
   exact q _ s2
def vP:Sp:=fun vs H Q _ => ∃ (a b:Addr) (kvs:List (Key × V)) (f:Nat → Option Int) (us:List V) (hs:List (Option (List Nat))),vs = [.ref a,.ref b] ∧ H a = some (.dK kvs) ∧ Lk kvs f ∧ FlOnly f ∧ rdL H b = some us ∧ HalsAt H us hs ∧ dO hs ∧ hs.length ≤ 6 ∧
 ∀ (r:Addr) (kws:List (Key × V)) (H':Hp),H r = none → Same H H' → H' r = some (.dK kws) → Lk kws (bA (kZ f hs)) → Q (.ref r) H'
theorem bQY:FnScope ["_law_locker_here", "_law_halyards"] ["_law_locker_here", "_law_halyards"] (aG jM):=⟨rfl,rfl,rfl,by decide +kernel,rfl,by decide +kernel,by decide +kernel⟩
theorem bQZ {Zw Zz Zx Zy:Addr} {f:Addr} {fd:FuncData} (F:Fun K "_law_all" "_law_all" jM f fd) (G:Gs K mg Zw Zz Zx Zy) (c_l_plain:Cal P w K mg base 1 "_law_plain" ["_law_locker_here"] kU) (c_l_pool:Cal P w K mg base 1 "_law_pool" ["_law_locker_here", "_law_halyards", "_law_numbers"] jT):FnOk P w K mg base CX0 2 f fd ["_law_locker_here", "_law_halyards"] vP:=by
 refine F.ok bQY (fun vs H Q E h => ?_) (fun cdv A outer s H vs Q E hr h => ?_)
 · obtain ⟨a,b,kvs,f,us,hs,rfl,_⟩:=h; rfl
 obtain ⟨a,b,kvs,f,us,hs,rfl,ha,lk,hfo,hb,hat,ok,h6,q⟩:=h
 refine ⟨_,(@aH _ _ _ (aT (aU c_l_plain hr (by decide) rfl (aA (aU c_l_pool hr (by decide) rfl (aA (mv 0) (aA (mv 1) (aA (bT (bZ7 rfl) rfl G.b_list hX (aA (bT zE rfl G.b_range pM (aA (bJ eU rfl G.b_len cQ (aA (mv 1) aF)) aF)) aF)) aF)))) aF)))),?_⟩
 have hul:=hat.len
 walk_at "go"
 rw [hul]
 refine zS fun p hp => ?_
 have s1:=aE hp (.rng 0 ((hs.length:Nat):Int))
 have e1:(upd H p (.rng 0 ((hs.length:Nat):Int))) p = some (.rng 0 ((hs.length:Nat):Int)):=aB
 generalize upd H p (.rng 0 ((hs.length:Nat):Int)) = H1 at s1 e1 ⊢
 walk_at "go"
 refine bJ4 e1 (by omega) fun p2 hp2 => ?_
 have s2:=s1.trans (aE hp2 (.lst ((List.range hs.length).map fun k => V.int ((k:Nat):Int))))
 have e2:rdL (upd H1 p2 (.lst ((List.range hs.length).map fun k => V.int ((k:Nat):Int)))) p2 = some ((List.range hs.length).map fun k => V.int ((k:Nat):Int)):=eQ
 generalize upd H1 p2 (.lst ((List.range hs.length).map fun k => V.int ((k:Nat):Int))) = H2 at s2 e2 ⊢
 walk_at "go"
 refine ⟨a,b,p2,kvs,f,us,hs,List.range hs.length,rfl,s2 _ _ ha,lk,hfo,aJ s2 hb,hat.keep s2,ok,e2,by rw [Bz]; exact h6,fun k hk => Cc.mp hk,fun r3 kw3 g H3 hr3 s3 e3 lk3 hfo3 hg => ?_⟩
 walk_at "go"
 refine ⟨r3,kw3,g,rfl,e3,lk3,hfo3,fun r kws H4 hr s4 e4 lk4 => ?_⟩
 exact q r kws H4 (none_of (s2.trans s3) hr) (s2.trans (s3.trans s4)) e4 (lk4.ext (fL fun c _ => hg c))
theorem aZ8 {f:Nat → Option Int} (hf0:∀ c,0 ≤ aK f c) (hs:List (Option (List Nat))) (L:List Nat) (c:Nat):nG f hs L c = if fJ c then aK f c + cnt (aM hs L) c else 0:=by
 by_cases hc:fJ c
 · rw [if_pos hc]
   have h0:0 ≤ aK f c + cnt (aM hs L) c:=by have:=hf0 c; have:=fV (aM hs L) c; omega
   have e:aK (gL f hs L) c = aK f c + cnt (aM hs L) c:=eI (n:=fun c => aK f c + cnt (aM hs L) c) hc h0
   unfold nG
   rw [eI hc (by rw [e]; exact h0),e]
 · rw [if_neg hc]
   show (bA _ c).getD 0 = 0
   unfold bA
   rw [if_neg fun z => hc z.1]
   rfl
theorem aXC {f g:Nat → Option Int} {hs:List (Option (List Nat))} {L:List Nat} {cws:List (List Nat)} {W:List Wt} {F:List Nat} (hf0:∀ c,0 ≤ aK f c) (hg:∀ c,aK g c = aK f c + cnt (aM hs L) c) (h:LackOk cws (nG f hs L) W F):LackOk cws (aK g) W F:=by
 refine ⟨h.sub,h.flags,h.all,?_⟩
 have e:F.map (aK g) = F.map (nG f hs L):=Cj fun c hc => by
   obtain ⟨p,hp⟩:=h.flags
   rw [hp] at hc
   rw [aZ8 hf0,if_pos (flags_mem.mp (Dc.mp hc).1),hg c]
 rw [e]
 exact h.few
def kLo:Key:=Sum.inr (Str.ofString "locker")
def kHa:Key:=Sum.inr (Str.ofString "halyards")
def kWo:Key:=Sum.inr (Str.ofString "words")
structure SAt (H:Hp) (st l b wd:Addr) (kvs:List (Key × V)) (f:Nat → Option Int) (us:List V) (hs wv:List (Option (List Nat))):Prop where
 est:H st = some (.dK [(kLo,.ref l),(kHa,.ref b),(kWo,.ref wd)])
 el:H l = some (.dK kvs)
 lk:Lk kvs f
 hf0:∀ c,0 ≤ aK f c
 hfo:FlOnly f
 eb:H b = some (.lst us)
 hat:HalsAt H us hs
 ok:dO hs
 ew:H wd = some (.lst (wv.map wdV))
 fit:Fits hs wv
 h6:hs.length ≤ 6
 nw:V.ref wd ∉ us
 nbw:b ≠ wd
theorem SAt.keep {H H':Hp} {st l b wd:Addr} {kvs:List (Key × V)} {f:Nat → Option Int} {us:List V} {hs wv:List (Option (List Nat))} (h:SAt H st l b wd kvs f us hs wv) (s:Same H H'):SAt H' st l b wd kvs f us hs wv :=
 ⟨s _ _ h.est,s _ _ h.el,h.lk,h.hf0,h.hfo,s _ _ h.eb,h.hat.keep s,h.ok,s _ _ h.ew,h.fit,h.h6,h.nw,h.nbw⟩
theorem HalsAt.frame {H H':Hp} {us:List V} {hs:List (Option (List Nat))} {X:Addr → Prop} (a:HalsAt H us hs) (h:∀ p u,¬ X p → H p = some u → H' p = some u) (hx:∀ p xs,V.ref p ∈ us → H p = some (.lst xs) → ¬ X p):HalsAt H' us hs :=
 ⟨a.len,fun j v o hv ho => by
   have r:=a.val j v o hv ho
   cases o with
   | none => exact r
   | some cs =>
     obtain ⟨p,rfl,hp⟩:=r
     exact ⟨p,rfl,h p _ (hx p _ (Ai hv) hp) hp⟩⟩
theorem bJO {x y z:V}:bR [(kLo,x),(kHa,y),(kWo,z)] (Sum.inr (Str.ofString "locker")) = some x:=rfl
theorem vU {x y z:V}:bR [(kLo,x),(kHa,y),(kWo,z)] (Sum.inr (Str.ofString "halyards")) = some y:=rfl
theorem cJM {x y z:V}:bR [(kLo,x),(kHa,y),(kWo,z)] (Sum.inr (Str.ofString "words")) = some z:=rfl
theorem dXW {x y z u:V}:cP [(kLo,x),(kHa,y),(kWo,z)] (Sum.inr (Str.ofString "locker")) u = [(kLo,u),(kHa,y),(kWo,z)]:=rfl
theorem dZ2 {x y z u:V}:cP [(kLo,x),(kHa,y),(kWo,z)] (Sum.inr (Str.ofString "halyards")) u = [(kLo,x),(kHa,u),(kWo,z)]:=rfl
theorem bX9 (wv:List (Option (List Nat))) (n:Nat) (o:Option (List Nat)):(wv.map wdV).set n (wdV o) = (wv.set n o).map wdV:=(List.map_set ..).symm
theorem HalsAt.own {H:Hp} {b:Addr} {us:List V} {hs:List (Option (List Nat))} (a:HalsAt H us hs) (e:H b = some (.lst us)):V.ref b ∉ us:=fun z => by
 obtain ⟨j,hj⟩:=Ec.mp z
 obtain ⟨h,_,hv⟩:=a.at hj
 cases h with
 | none => cases (show V.ref b = V.non from hv)
 | some cs =>
   obtain ⟨p,ep,hp⟩:=hv
   cases ep
   rw [e] at hp
   have hu:us = (cs.map one).map V.str:=by injection hp with hp; injection hp
   rw [hu] at z
   obtain ⟨_,_,ez⟩:=Bc.mp z
   cases ez
theorem SAt.ints {H:Hp} {st l b wd r:Addr} {kvs:List (Key × V)} {f:Nat → Option Int} {us:List V} {hs wv:List (Option (List Nat))} {ms:List Int} (S:SAt H st l b wd kvs f us hs wv) (h1:1 ≤ hs.length) (e:H r = some (.lst (ms.map V.int))):r ≠ b:=fun z => by
 rw [z,S.eb] at e
 have hu:us = ms.map V.int:=by injection e with e; injection e
 have h0:0 < us.length:=by rw [S.hat.len]; exact h1
 have hj:us[0]? = some us[0]:=Aa h0
 obtain ⟨h,_,hv⟩:=S.hat.at hj
 have hm:us[0] ∈ ms.map V.int:=by rw [← hu]; exact Br _
 obtain ⟨i,_,ei⟩:=Bc.mp hm
 rw [← ei] at hv
 cases h with
 | none => cases (show V.int i = V.non from hv)
 | some cs => obtain ⟨p,ep,_⟩:=hv; cases ep
def rN:Sp:=fun vs H Q _ => ∃ (st l b wd:Addr) (kvs:List (Key × V)) (f:Nat → Option Int) (us:List V) (hs wv:List (Option (List Nat))) (n:Nat) (cw:List Nat),vs = [.ref st,.int ((n:Nat):Int),.str (bE cw)] ∧ SAt H st l b wd kvs f us hs wv ∧ n < hs.length ∧ 1 ≤ cw.length ∧ cw.length ≤ 7 ∧ (∀ d ∈ cw,bS d) ∧ (∀ c,kZ f hs c ≤ 10) ∧
 ∀ (l' b':Addr) (kvs':List (Key × V)) (f':Nat → Option Int) (us':List V) (hs' wv':List (Option (List Nat))) (H':Hp),(∀ p u,p ≠ st → p ≠ wd → H p = some u → H' p = some u) → SAt H' st l' b' wd kvs' f' us' hs' wv' → hs'.length = hs.length → (∀ c,kZ f' hs' c = kZ f hs c) → Q (.bl true) H'
theorem sc_l_step:FnScope ["_law_state", "_law_number", "_law_word_here", "_law_found", "_law_short", "e", "_law_others_here", "_law_pool_here"] ["_law_state", "_law_number", "_law_word_here"] (aG gQ):=⟨rfl,rfl,rfl,by decide +kernel,rfl,by decide +kernel,by decide +kernel⟩
theorem aX6 {Zw Zz Zx Zy:Addr} {f:Addr} {fd:FuncData} (F:Fun K "_law_step" "_law_step" gQ f fd) (G:Gs K mg Zw Zz Zx Zy) (c_l_others:Cal P w K mg base 1 "_law_others" ["_law_halyards", "_law_number"] nL) (c_l_pool:Cal P w K mg base 1 "_law_pool" ["_law_locker_here", "_law_halyards", "_law_numbers"] jT) (c_l_are_short:Cal P w K mg base 2 "_law_are_short" ["_law_locker_here", "_law_words_here", "_law_wants", "_law_flags"] iY) (c_hauled:tV P w K mg base 12 "hauled" ["locker", "halyards", "number", "word"] (qV Zw)) (c_l_words:Cal P w K mg base 2 "_law_words" ["_law_halyards", "_law_word_here", "_law_numbers"] pF):FnOk P w K mg base CX0 13 f fd ["_law_state", "_law_number", "_law_word_here"] rN:=by
 refine F.ok sc_l_step (fun vs H Q E h => ?_) (fun cdv A outer s H vs Q E hr h => ?_)
 · obtain ⟨st,l,b,wd,kvs,f,us,hs,wv,n,cw,rfl,_⟩:=h; rfl
 obtain ⟨st,l,b,wd,kvs,f,us,hs,wv,n,cw,rfl,S,hn,hc1,hc7,hcL,htot,q⟩:=h
 refine ⟨_,(@aD _ _ _ _ _ (@aP _ _ 3 _ _ _ _ sc_l_step.nd (by rfl) (by exact (Or.inl rfl)) dA (by rfl) (by first | exact Or.inl rfl | exact Or.inr rfl)) (@aD _ _ _ _ _ (@aP _ _ 4 _ _ _ _ sc_l_step.nd (by rfl) (by exact (Or.inl rfl)) dA (by rfl) (by first | exact Or.inl rfl | exact Or.inr rfl)) (@aD _ _ _ _ _ (aZ6 (i:=5) rfl rfl rfl sc_l_step.nd rfl rfl rfl G.c_Lack (fun pins R => (@aH _ _ _ (@aP _ _ 3 _ _ _ _ sc_l_step.nd (by rfl) (by exact (Or.inl rfl)) (aQV c_hauled (oV rfl) hr (by decide) rfl (aA (bP (Room.u1 hr) (mv 0) bM (fun _ _ => rfl)) (aA (bP (Room.u1 hr) (mv 0) bM (fun _ _ => rfl)) (aA (mv 1) (aA (mv 2) aF))))) (by rfl) (by first | exact Or.inl rfl | exact Or.inr rfl)))) (fun pins ea => (@aH _ _ _ (@aP _ _ 4 _ _ _ _ sc_l_step.nd (by rfl) (by exact (Or.inl rfl)) (iT (aA (lZ (K:=K) rfl (mv 5) rfl) (aA (lZ (K:=K) rfl (mv 5) rfl) aF))) (by rfl) (by first | exact Or.inl rfl | exact Or.inr rfl))))) (@aD _ _ _ _ _ (cS (bB mG (mv 3) dA (bF _)) (@aD _ _ _ _ _ (cX (Room.u1 hr) (mv 0) bM (bL cO (mv 3) aL (fun _ _ => rfl)) rfl) (@aD _ _ _ _ _ (cX (Room.u1 hr) (mv 0) bM (bL cO (mv 3) aL (fun _ _ => rfl)) rfl) (@aD _ _ _ _ _ (sU (mv 2) (tH (bP (Room.u1 hr) (mv 0) bM (fun _ _ => rfl)) (mv 1) lI)) (@aH _ _ _ (aT gS))))) bO) (@aD _ _ _ _ _ (@aP _ _ 6 _ _ _ _ sc_l_step.nd (by rfl) (by exact (Or.inl rfl)) (aU c_l_others hr (by decide) rfl (aA (bP (Room.u1 hr) (mv 0) bM (fun _ _ => rfl)) (aA (mv 1) aF))) (by rfl) (by first | exact Or.inl rfl | exact Or.inr rfl)) (@aD _ _ _ _ _ (@aP _ _ 7 _ _ _ _ sc_l_step.nd (by rfl) (by exact (Or.inl rfl)) (aU c_l_pool hr (by decide) rfl (aA (bP (Room.u1 hr) (mv 0) bM (fun _ _ => rfl)) (aA (bP (Room.u1 hr) (mv 0) bM (fun _ _ => rfl)) (aA (aX cH (cD (aA (mv 1) aF)) (mv 6)) aF)))) (by rfl) (by first | exact Or.inl rfl | exact Or.inr rfl)) (@aH _ _ _ (aT (aU c_l_are_short hr (by decide) rfl (aA (mv 7) (aA (aU c_l_words hr (by decide) rfl (aA (bP (Room.u1 hr) (mv 0) bM (fun _ _ => rfl)) (aA (mv 2) (aA (mv 6) aF)))) (aA (bL cO (mv 4) aL (fun _ _ => rfl)) (aA (bL cO (mv 4) aL (fun _ _ => rfl)) aF))))))))))))),?_⟩
 have nsw:st ≠ wd:=fun z => by have e:=S.est; rw [z,S.ew] at e; cases e
 have hin:aZ4 H l b kvs f us hs n cw:=⟨S.el,S.lk,S.hf0,aQ S.eb,S.hat,S.ok,S.h6,hn,hc1,hc7,hcL⟩
 walk_at "go"
 refine cK (z:=Str.ofString "locker") (.inl S.est) bJO ?_
 walk_at "go"
 refine cK (z:=Str.ofString "halyards") (.inl S.est) vU ?_
 walk_at "go"
 refine ⟨l,b,kvs,f,us,hs,n,cw,rfl,hin,fun t L B R ks gs j vs' kwr H1 s1 ht et hL eL hfst hgs hcnt hB eB hatB hR eR lkR hfr => ?_,fun hno dx l1 l2 rs W F H1 s1 ed el1 hwt el2 hlo _ _ => ⟨G.m_Lack,fun ea hea => ?_⟩⟩
 · have hks:ks.Sublist (aO hs n):=mem_sets.mp (Ai hfst.1)
   have hlk:∀ k ∈ ks,k < hs.length ∧ (hs.getD k none).isSome = true:=fun k hk => by
     have:=dH (hks.subset hk)
     exact ⟨this.1,this.2.1⟩
   have hgf:=aJP hgs (pU S.ok hc1 ⟨hc7,hcL⟩ hlk)
   have okB:dO (fW hs ((n :: ks).zip gs)):=zK S.ok _ fun z hz => (hgf z.2 (Dt hz).2).1
   have fitB:=S.fit.haul hn hks hgs hc1 hc7 hcL
   have totB:=bXJ S.hf0 S.hfo S.ok hn hks hgs (fun g hg => (hgf g hg).2) hcnt
   have S1:=S.keep s1
   have hlw:(wv.map wdV).length = hs.length:=by rw [Ab,S.fit.1]
   have nst:∀ p,H p = none → p ≠ st:=fun p hp z => by rw [z,S.est] at hp; cases hp
   have nwd:∀ p,H p = none → p ≠ wd:=fun p hp z => by rw [z,S.ew] at hp; cases hp
   walk_at "go"
   rw [show decide (V.ref t = V.non) = false from Av (fun z => nomatch z)]
   walk_at "go"
   refine jI et (v:=.ref R) rfl ?_
   walk_at "go"
   refine dR (z:=Str.ofString "locker") S1.est (bD (by show 3 ≤ _; omega)) ?_
   rw [dXW]
   have e2:(upd H1 st (.dK [(kLo,.ref R),(kHa,.ref b),(kWo,.ref wd)])) st = _:=aB
   have f2:∀ p u,p ≠ st → H1 p = some u → (upd H1 st (.dK [(kLo,.ref R),(kHa,.ref b),(kWo,.ref wd)])) p = some u:=fun p u hp hu => (aI hp).trans hu
   generalize upd H1 st (.dK [(kLo,.ref R),(kHa,.ref b),(kWo,.ref wd)]) = H2 at e2 f2 ⊢
   have et2:=f2 _ _ (nst t ht) et
   walk_at "go"
   refine jI et2 (v:=.ref B) rfl ?_
   walk_at "go"
   refine dR (z:=Str.ofString "halyards") e2 (bD (by show 3 ≤ _; omega)) ?_
   rw [dZ2]
   have e3:(upd H2 st (.dK [(kLo,.ref R),(kHa,.ref B),(kWo,.ref wd)])) st = _:=aB
   have f3:∀ p u,p ≠ st → H1 p = some u → (upd H2 st (.dK [(kLo,.ref R),(kHa,.ref B),(kWo,.ref wd)])) p = some u:=fun p u hp hu => (aI hp).trans (f2 p u hp hu)
   generalize upd H2 st (.dK [(kLo,.ref R),(kHa,.ref B),(kWo,.ref wd)]) = H3 at e3 f3 ⊢
   have ew3:=f3 _ _ (Ne.symm nsw) S1.ew
   walk_at "go"
   refine cK (z:=Str.ofString "words") (.inl e3) cJM ?_
   walk_at "go"
   refine aQ4 (o:=.non) (bG ew3) (sW (by omega) (by rw [hlw]; omega)) ?_
   rw [show ((n:Nat):Int).toNat = n from rfl,show V.str (bE cw) = wdV (some cw) from rfl,bX9]
   have e4:(upd H3 wd (.lst ((wv.set n (some cw)).map wdV))) wd = _:=aB
   have e4s:(upd H3 wd (.lst ((wv.set n (some cw)).map wdV))) st = _:=(aI nsw).trans e3
   have f4:∀ p u,p ≠ st → p ≠ wd → H1 p = some u → (upd H3 wd (.lst ((wv.set n (some cw)).map wdV))) p = some u:=fun p u h1 h2 hu => (aI h2).trans (f3 p u h1 hu)
   generalize upd H3 wd (.lst ((wv.set n (some cw)).map wdV)) = H4 at e4 e4s f4 ⊢
   walk_at "go"
   refine q R B kwr _ vs' (fW hs ((n :: ks).zip gs)) (wv.set n (some cw)) H4 (fun p u h1 h2 hu => f4 p u h1 h2 (s1 _ _ hu)) ⟨e4s,f4 _ _ (nst R hR) (nwd R hR) eR,lkR,fun c => ?_,fun c hc => ?_,f4 _ _ (nst B hB) (nwd B hB) eB,hatB.frame (X:=fun p => p = st ∨ p = wd) (fun p u hp hu => f4 p u (fun z => hp (.inl z)) (fun z => hp (.inr z)) hu) (fun p xs hp _ z => z.elim (nst p (hfr p hp)) (nwd p (hfr p hp))),okB,e4,fitB,by rw [eO]; exact S.h6,fun z => nwd wd (hfr wd z) rfl,nwd B hB⟩ (eO hs _) totB
   · show 0 ≤ (bA _ c).getD 0
     unfold bA
     split
     · rename_i h; exact Int.le_of_lt h.2
     · exact Gq _
   · unfold bA at hc
     by_cases h:fJ c
     · exact h
     · rw [if_neg fun z => h z.1] at hc; cases hc
 · have k3:=aE hea (mQ ea (.ref Zw) (some dx))
   have x3:(upd H1 ea (mQ ea (.ref Zw) (some dx))) ea = _:=aB
   have s3:=s1.trans k3
   have ed3:=k3 _ _ ed
   generalize upd H1 ea (mQ ea (.ref Zw) (some dx)) = H3 at k3 x3 s3 ed3 ⊢
   walk_at "go"
   refine ⟨ea,Zw,dx,_,_,rfl,.inl x3,ed3,G.xx_Lack,G.xn_Lack_wants,rfl,?_⟩
   walk_at "go"
   refine ⟨ea,Zw,dx,_,_,rfl,.inl x3,ed3,G.xx_Lack,G.xn_Lack_flags,rfl,?_⟩
   walk_at "go"
   refine ⟨by show 2 ≤ sizeLine; decide,fun t ht => ?_⟩
   have k4:=k3.trans (aE ht (.tup [.ref l1,.ref l2]))
   have s4:=s3.trans (aE ht (.tup [.ref l1,.ref l2]))
   have et:(upd H3 t (.tup [.ref l1,.ref l2])) t = _:=aB
   generalize upd H3 t (.tup [.ref l1,.ref l2]) = H4 at k4 s4 et ⊢
   have S4:=S.keep s4
   have hol:=lB hn
   have hok:∀ k ∈ aO hs n,k < hs.length ∧ (hs.getD k none).isSome = true:=fun k hk => ⟨(dH hk).1,(dH hk).2.1⟩
   have hww:=jO (cw:=cw) S.ok ⟨hc7,hcL⟩ hok
   have hwl:(bQ hs cw (aO hs n)).length ≤ 7:=by unfold bQ; rw [Az,Ab]; have:=S.h6; omega
   walk_at "go"
   rw [show decide (V.non = V.non) = true from rfl]
   walk_at "go"
   refine cK (z:=Str.ofString "halyards") (.inl S4.est) vU ?_
   walk_at "go"
   refine ⟨b,us,hs,n,rfl,aQ S4.eb,S4.hat,by have:=S.h6; omega,fun p5 H5 hp5 s5 e5 => ?_⟩
   have S5:=S4.keep s5
   walk_at "go"
   refine cK (z:=Str.ofString "locker") (.inl S5.est) bJO ?_
   walk_at "go"
   refine cK (z:=Str.ofString "halyards") (.inl S5.est) vU ?_
   walk_at "go"
   refine ⟨by show 1 ≤ sizeLine; decide,fun p6 hp6 => ?_⟩
   have k6:=aE hp6 (.lst [V.int ((n:Nat):Int)])
   have e6:(upd H5 p6 (.lst [V.int ((n:Nat):Int)])) p6 = some (.lst [V.int ((n:Nat):Int)]):=aB
   generalize upd H5 p6 (.lst [V.int ((n:Nat):Int)]) = H6 at k6 e6 ⊢
   walk_at "go"
   refine lF (bG e6) (bG (k6 _ _ e5)) (bI (by rw [gE]; have:=S.h6; show 1 + _ ≤ _; omega)) fun p7 hp7 => ?_
   have k7:=k6.trans (aE hp7 (.lst ((n :: aO hs n).map fun k => V.int ((k:Nat):Int))))
   have e7:rdL (upd H6 p7 (.lst ((n :: aO hs n).map fun k => V.int ((k:Nat):Int)))) p7 = some ((n :: aO hs n).map fun k => V.int ((k:Nat):Int)):=eQ
   change vC _ (upd H6 p7 (.lst ((n :: aO hs n).map fun k => V.int ((k:Nat):Int)))) _
   generalize upd H6 p7 (.lst ((n :: aO hs n).map fun k => V.int ((k:Nat):Int))) = H7 at k7 e7 ⊢
   have S7:=S5.keep k7
   walk_at "go"
   refine ⟨l,b,p7,kvs,f,us,hs,n :: aO hs n,rfl,S7.el,S.lk,S.hfo,aQ S7.eb,S7.hat,S.ok,e7,by rw [Az]; have:=S.h6; omega,fun k hk => by rcases Ba.mp hk with e | e; (· rw [e]; exact hn); (· exact (hok k e).1),fun r8 kw8 g8 H8 hr8 s8 e8 lk8 hfo8 hg8 => ?_⟩
   have S8:=S7.keep s8
   walk_at "go"
   refine cK (z:=Str.ofString "halyards") (.inl S8.est) vU ?_
   walk_at "go"
   refine ⟨b,p5,us,hs,cw,aO hs n,rfl,aQ S8.eb,S8.hat,S.ok,aQ ((k7.trans s8) _ _ e5),by have:=S.h6; omega,hok,fun r9 H9 hr9 s9 e9 => ?_⟩
   have s19:=k4.trans (s5.trans (k7.trans (s8.trans s9)))
   have s49:=s5.trans (k7.trans (s8.trans s9))
   have et9:=s49 _ _ et
   have fl:=fQ S.ok (n :: aO hs n)
   rw [Az] at fl
   walk_at "go"
   refine jI et9 (v:=.ref l1) rfl ?_
   walk_at "go"
   refine jI et9 (v:=.ref l2) rfl ?_
   walk_at "go"
   refine ⟨r8,r9,l1,l2,kw8,g8,bQ hs cw (aO hs n),rs,W,F,rfl,s9 _ _ e8,lk8,fun c => ?_,aQ e9,by omega,fun c hc => (hww c hc).1,s19 _ _ el1,⟨hwt.1,fun j p w hp hw => s19 _ _ (hwt.2 j p w hp hw)⟩,s19 _ _ el2,aXC S.hf0 hg8 hlo,fun H10 s10 => ?_⟩
   · have h1:=S.hf0 c
     have h2:=htot c
     unfold kZ at h2
     have h3:=fV (aM hs (n :: aO hs n)) c
     have h4:cnt (aM hs (n :: aO hs n)) c ≤ ((aM hs (n :: aO hs n)).length:Int):=Int.ofNat_le.mpr List.countP_le_length
     have h5:=fV (aM hs (List.range hs.length)) c
     have:=S.h6
     rw [hg8 c]
     omega
   · have s010:=s4.trans (s49.trans s10)
     exact q l b kvs f us hs wv H10 (fun p u _ _ hu => s010 _ _ hu) (S.keep s010) rfl fun _ => rfl
theorem sc_law:FnScope ["_law_script", "_law_many", "_law_base", "_law_locker_here", "_law_state", "_law_total", "_law_cell_here", "_law_number"] ["_law_script"] (aG lR):=⟨rfl,rfl,rfl,by decide +kernel,rfl,by decide +kernel,by decide +kernel⟩
theorem cJ3 {Zw Zz Zx Zy:Addr} {f:Addr} {fd:FuncData} (F:Fun K "law" "law" lR f fd) (G:Gs K mg Zw Zz Zx Zy) (c_l_locker:Cal P w K mg base 2 "_law_locker" ["_law_cell_here", "_law_base"] nJ) (c_l_plain:Cal P w K mg base 1 "_law_plain" ["_law_locker_here"] kU) (c_l_cell:Cal P w K mg base 1 "_law_cell" ["_law_script", "_law_k"] (qX K)) (c_l_pool:Cal P w K mg base 1 "_law_pool" ["_law_locker_here", "_law_halyards", "_law_numbers"] jT) (c_l_step:Cal P w K mg base 13 "_law_step" ["_law_state", "_law_number", "_law_word_here"] rN) (c_l_reads:Cal P w K mg base 2 "_law_reads" ["_law_halyards", "_law_words_here"] pW) (c_l_all:Cal P w K mg base 2 "_law_all" ["_law_locker_here", "_law_halyards"] vP) (c_l_word:Cal P w K mg base 2 "_law_word" ["_law_cell_here", "_law_base"] rC):FnOk P w K mg base CX0 14 f fd ["_law_script"] (sY K):=by
 refine F.ok sc_law (fun vs H Q E h => ?_) (fun cdv A outer s H vs Q E hr h => ?_)
 · obtain ⟨a,ns,rfl,_⟩:=h; rfl
 obtain ⟨a,ns,rfl,hS,h63,q⟩:=h
 refine ⟨_,(@aD _ _ _ _ _ (@aP _ _ 1 _ _ _ _ sc_law.nd (by rfl) (by exact (Or.inl rfl)) (aX cH aL (aX iO (aU c_l_cell hr (by decide) rfl (aA (mv 0) (aA aL aF))) aL)) (by rfl) (by first | exact Or.inl rfl | exact Or.inr rfl)) (@aD _ _ _ _ _ (@aP _ _ 2 _ _ _ _ sc_law.nd (by rfl) (by exact (Or.inl rfl)) (aX iO (aX uD (aU c_l_cell hr (by decide) rfl (aA (mv 0) (aA aL aF))) aL) aL) (by rfl) (by first | exact Or.inl rfl | exact Or.inr rfl)) (@aD _ _ _ _ _ (@aP _ _ 3 _ _ _ _ sc_law.nd (by rfl) (by exact (Or.inl rfl)) (aU c_l_locker hr (by decide) rfl (aA (aU c_l_cell hr (by decide) rfl (aA (mv 0) (aA aL aF))) (aA (mv 2) aF))) (by rfl) (by first | exact Or.inl rfl | exact Or.inr rfl)) (@aD _ _ _ _ _ (@aP _ _ 4 _ _ _ _ sc_law.nd (by rfl) (by exact (Or.inl rfl)) (bJV (oQ bM (mv 3) (oQ bM (aX bQU (cD (aA dA aF)) (mv 1)) (oQ bM (aX bQU (cD (aA dA aF)) (mv 1)) bZZ))) rfl rfl (by simp) (by decide)) (by rfl) (by first | exact Or.inl rfl | exact Or.inr rfl)) (@aD _ _ _ _ _ (@aP _ _ 5 _ _ _ _ sc_law.nd (by rfl) (by exact (Or.inl rfl)) (aU c_l_plain hr (by decide) rfl (aA (mv 3) aF)) (by rfl) (by first | exact Or.inl rfl | exact Or.inr rfl)) (@aD _ _ _ _ _ (bV PassesOwn.never rfl (cB (pT sl_list (mv 0) (lW aL) (lW aL))) (aV (i:=6) sc_law.nd rfl (Or.inl rfl)) (@aD _ _ _ _ _ (@aP _ _ 7 _ _ _ _ sc_law.nd (by rfl) (by exact (Or.inl rfl)) (aX iO (aX uD (mv 6) aL) (mv 1)) (by rfl) (by first | exact Or.inl rfl | exact Or.inr rfl)) (@aD _ _ _ _ _ (cS (bB xC (aX iO (mv 6) aL) aL (bF _)) (@aD _ _ _ _ _ (cX (Room.u1 hr) (mv 4) bM (aU c_l_pool hr (by decide) rfl (aA (bP (Room.u1 hr) (mv 4) bM (fun _ _ => rfl)) (aA (bP (Room.u1 hr) (mv 4) bM (fun _ _ => rfl)) (aA (cD (aA (mv 7) aF)) aF)))) rfl) (@aD _ _ _ _ _ (sU dA (tH (bP (Room.u1 hr) (mv 4) bM (fun _ _ => rfl)) (mv 7) lI)) (@aH _ _ _ (sU dA (tH (bP (Room.u1 hr) (mv 4) bM (fun _ _ => rfl)) (mv 7) lI))))) (@aH _ _ _ (cS (uC (lQ (aU c_l_step hr (by decide) rfl (aA (mv 4) (aA (mv 7) (aA (aU c_l_word hr (by decide) rfl (aA (aX uD (mv 6) aL) (aA (mv 2) aF))) aF)))))) (@aH _ _ _ (aT gS)) bO))) (@aH _ _ _ (cS (PW.pt (qQ (uC (lQ (aU c_l_reads hr (by decide) rfl (aA (bP (Room.u1 hr) (mv 4) bM (fun _ _ => rfl)) (aA (bP (Room.u1 hr) (mv 4) bM (fun _ _ => rfl)) aF))))) (pI (bB (dQO hr.units) (aU c_l_all hr (by decide) rfl (aA (bP (Room.u1 hr) (mv 4) bM (fun _ _ => rfl)) (aA (bP (Room.u1 hr) (mv 4) bM (fun _ _ => rfl)) aF))) (mv 5) (bF _))))) (@aH _ _ _ (aT gS)) bO))))) (@aH _ _ _ (aT gS)))))))),?_⟩
 walk_at "go"
 refine ⟨a,ns,_,rfl,hS,by omega,fun n1 => ?_⟩
 have y0:=Dd n1 (show (6:Int) ≠ 0 by decide)
 have y1:=Dg n1 (show (0:Int) < 6 by decide)
 obtain ⟨m,hm⟩:∃ m:Nat,1 + n1 % 6 = ((m:Nat):Int):=⟨(1 + n1 % 6).toNat,by omega⟩
 walk_at "go"
 rw [hm]
 refine ⟨a,ns,_,rfl,hS,by omega,fun n2 => ?_⟩
 walk_at "go"
 have z0:=Dd (n2 / 6) (show (23:Int) ≠ 0 by decide)
 generalize n2 / 6 % 23 = bs at z0 ⊢
 refine ⟨a,ns,_,rfl,hS,by omega,fun n3 => ?_⟩
 walk_at "go"
 refine ⟨n3,bs,rfl,z0,fun l kvs f H1 hl1 s1 el lk hf hfo => ?_⟩
 walk_at "go"
 refine fun st hst => ?_
 have s2:=aE hst (.dK [])
 have e2:(upd H1 st (.dK [])) st = some (.dK []):=aB
 generalize upd H1 st (.dK []) = H2 at s2 e2 ⊢
 have hm1:1 ≤ m:=by omega
 have hm6:m ≤ 6:=by omega
 have nst:st ≠ l:=fun z => by rw [z,el] at hst; cases hst
 unfold kW
 walk_at "go"
 unfold kW
 walk_at "go"
 refine ⟨by show 1 ≤ sizeLine; decide,fun p3 hp3 => ?_⟩
 have s3:=s2.trans (aE hp3 (.lst [V.non]))
 have e3:(upd H2 p3 (.lst [V.non])) p3 = some (.lst [V.non]):=aB
 have e23:=aE hp3 (.lst [V.non]) _ _ e2
 generalize upd H2 p3 (.lst [V.non]) = H3 at s3 e3 e23 ⊢
 have hrep:(List.replicate ((m:Nat):Int).toNat [V.non]).flatten = (List.replicate m (none:Option (List Nat))).map wdV:=by
   rw [Cw]
   clear hm hm1 hm6
   induction m with
   | zero => rfl
   | succ m ih => rw [Dx,Co,ih]; rfl
 walk_at "go"
 refine ⟨p3,_,_,rfl,rfl,e3,by omega,by omega,by rw [Cw]; exact bI (by show 1 * m ≤ _; omega),fun b hb => ?_⟩
 rw [hrep]
 have s4:=s3.trans (aE hb (.lst ((List.replicate m (none:Option (List Nat))).map wdV)))
 have e4:(upd H3 b (.lst ((List.replicate m (none:Option (List Nat))).map wdV))) b = _:=aB
 have e24:=aE hb (.lst ((List.replicate m (none:Option (List Nat))).map wdV)) _ _ e23
 generalize upd H3 b (.lst ((List.replicate m (none:Option (List Nat))).map wdV)) = H4 at s4 e4 e24 ⊢
 unfold kW
 walk_at "go"
 refine ⟨by show 1 ≤ sizeLine; decide,fun p5 hp5 => ?_⟩
 have k5:=aE hp5 (.lst [V.non])
 have e5:(upd H4 p5 (.lst [V.non])) p5 = some (.lst [V.non]):=aB
 generalize upd H4 p5 (.lst [V.non]) = H5 at k5 e5 ⊢
 walk_at "go"
 refine ⟨p5,_,_,rfl,rfl,e5,by omega,by omega,by rw [Cw]; exact bI (by show 1 * m ≤ _; omega),fun wd hwd => ?_⟩
 rw [hrep]
 have k6:=k5.trans (aE hwd (.lst ((List.replicate m (none:Option (List Nat))).map wdV)))
 have e6:(upd H5 wd (.lst ((List.replicate m (none:Option (List Nat))).map wdV))) wd = _:=aB
 generalize upd H5 wd (.lst ((List.replicate m (none:Option (List Nat))).map wdV)) = H6 at k6 e6 ⊢
 have e26:=k6 _ _ e24
 have e46:=k6 _ _ e4
 have s16:=s4.trans k6
 unfold kW
 refine ⟨e26,[(kLo,.ref l),(kHa,.ref b),(kWo,.ref wd)],rfl,by show 3 ≤ 15; decide,?_⟩
 rw [show mP [] [(kLo,V.ref l),(kHa,V.ref b),(kWo,V.ref wd)] = [(kLo,V.ref l),(kHa,V.ref b),(kWo,V.ref wd)] from rfl]
 have hst1:H1 st = none:=hst
 have hst0:H st = none:=none_of s1 hst
 have hwd0:H wd = none:=none_of (s1.trans (s4.trans k5)) hwd
 have nsw:wd ≠ st:=fun z => by rw [z,e26] at e6; cases e6
 have nbw:b ≠ wd:=fun z => by have e:=k5 _ _ e4; rw [z,hwd] at e; cases e
 have nsb:b ≠ st:=fun z => by rw [z,e26] at e46; cases e46
 have nsl:l ≠ st:=Ne.symm nst
 have s7:Same H1 (upd H6 st (.dK [(kLo,.ref l),(kHa,.ref b),(kWo,.ref wd)])):=aY hst1 s16
 have e7:(upd H6 st (.dK [(kLo,.ref l),(kHa,.ref b),(kWo,.ref wd)])) st = _:=aB
 have e7b:(upd H6 st (.dK [(kLo,.ref l),(kHa,.ref b),(kWo,.ref wd)])) b = _:=(aI nsb).trans e46
 have e7w:(upd H6 st (.dK [(kLo,.ref l),(kHa,.ref b),(kWo,.ref wd)])) wd = _:=(aI nsw).trans e6
 generalize upd H6 st (.dK [(kLo,.ref l),(kHa,.ref b),(kWo,.ref wd)]) = H7 at s7 e7 e7b e7w ⊢
 have hgetn:∀ k,(List.replicate m (none:Option (List Nat))).getD k none = none:=fun k => by
   rw [Ac]
   cases e:(List.replicate m (none:Option (List Nat)))[k]? with
   | none => rfl
   | some o => rw [(Fy.mp (Ai e)).2]; rfl
 have S0:SAt H7 st l b wd kvs f ((List.replicate m (none:Option (List Nat))).map wdV) (List.replicate m none) (List.replicate m none):=⟨e7,s7 _ _ el,lk,fun c => (hf c).1,hfo,e7b,⟨Ab _,fun j v o hv ho => by
   rw [Ag,ho] at hv
   have hz:=(Fy.mp (Ai ho)).2
   subst hz
   cases hv
   rfl⟩,fun cs hcs => (nomatch (Fy.mp hcs).2),e7w,⟨rfl,fun k _ => by rw [hgetn]; trivial⟩,by rw [List.length_replicate]; exact hm6,(fun z => by
   obtain ⟨o,ho,eo⟩:=Bc.mp z
   rw [(Fy.mp ho).2] at eo
   cases eo),nbw⟩
 have htot0:∀ c,kZ f (List.replicate m none) c = aK f c:=fun c => by
   unfold kZ
   have e:aM (List.replicate m (none:Option (List Nat))) (List.range (List.replicate m (none:Option (List Nat))).length) = []:=by
     unfold aM
     rw [List.flatMap_eq_nil_iff]
     intro k _
     rw [hgetn]
     rfl
   rw [e]
   show _ + ((0:Nat):Int) = _
   omega
 have s07:=s1.trans s7
 clear s2 s3 s4 k5 k6 s16 e2 e3 e4 e5 e6 e23 e24 e26 e46 hrep e7 e7b e7w hst1 hgetn hp3 hp5 hb hwd
 walk_at "go"
 refine ⟨l,kvs,f,rfl,S0.el,lk,hfo,fun t kwt H8 ht s8 et lkt => ?_⟩
 have S8:=S0.keep s8
 have s08:=s07.trans s8
 have ntw:t ≠ wd:=fun z => by rw [z,S0.ew] at ht; cases ht
 have nts:t ≠ st:=fun z => by rw [z,S0.est] at ht; cases ht
 have hS8:=s08.seq hS
 walk_at "go"
 refine cJ9 hS8 fun r9 hr9 => ?_
 obtain ⟨ms,em,_,hml⟩:=bXM ns (some 2) (some 42)
 rw [em]
 have s9:=aE hr9 (.lst (ms.map V.int))
 have e9:(upd H8 r9 (.lst (ms.map V.int))) r9 = some (.lst (ms.map V.int)):=aB
 generalize upd H8 r9 (.lst (ms.map V.int)) = H9 at s9 e9 ⊢
 have S9:=S8.keep s9
 have et9:=s9 _ _ et
 have nrw:r9 ≠ wd:=fun z => by rw [z,S8.ew] at hr9; cases hr9
 have nrs:r9 ≠ st:=fun z => by rw [z,S8.est] at hr9; cases hr9
 have r9':=aQ e9
 have hm0:(0:Int) < ((m:Nat):Int):=by omega
 walk_at "go"
 refine dB (xs:=ms.map V.int) (fun i σ H' => ∃ (v6 v7:Option V) (l' b':Addr) (kvs':List (Key × V)) (f':Nat → Option Int) (us':List V) (hs' wv':List (Option (List Nat))),σ = [some (.ref a),some (.int ((m:Nat):Int)),some (.int bs),some (.ref l),some (.ref st),some (.ref t),v6,v7] ∧ H' r9 = some (.lst (ms.map V.int)) ∧ H' t = some (.dK kwt) ∧ SAt H' st l' b' wd kvs' f' us' hs' wv' ∧ hs'.length = m ∧ ∀ c,kZ f' hs' c = aK f c)
   ⟨_,_,l,b,kvs,f,_,_,_,rfl,e9,et9,S9,List.length_replicate ..,htot0⟩ (fun i σ H' _ ⟨_,_,_,_,_,_,_,_,_,_,e,_⟩ => aQ e) ?_ ?_
 · clear S9 S8 S0 e9 et9 s9 s8 s07 s08 hS8 htot0
   rintro i x σ H10 hx ⟨v6,v7,l1,b1,kv1,f1,us1,hs1,wv1,rfl,e10,et10,S,hlm,htc⟩
   obtain ⟨c,_,rfl⟩:=xL hx
   have y2:=Dd (c / 6) (show ((m:Nat):Int) ≠ 0 by omega)
   have y3:=Dg (c / 6) hm0
   obtain ⟨n,hn⟩:∃ n:Nat,c / 6 % ((m:Nat):Int) = ((n:Nat):Int):=⟨(c / 6 % ((m:Nat):Int)).toNat,by omega⟩
   rw [hn] at y2 y3
   have hnl:n < hs1.length:=by omega
   walk_at "gs"
   with_reducible refine aZ3 ?_
   walk_at "gs"
   rw [hn]
   with_reducible refine cJ2 (fun σ' H' => ∃ (l' b':Addr) (kvs':List (Key × V)) (f':Nat → Option Int) (us':List V) (hs' wv':List (Option (List Nat))),σ' = [some (.ref a),some (.int ((m:Nat):Int)),some (.int bs),some (.ref l),some (.ref st),some (.ref t),some (.int c),some (.int ((n:Nat):Int))] ∧ H' r9 = some (.lst (ms.map V.int)) ∧ H' t = some (.dK kwt) ∧ SAt H' st l' b' wd kvs' f' us' hs' wv' ∧ hs'.length = m ∧ ∀ c,kZ f' hs' c = aK f c) ?_ ?_
   · clear S htc hlm hnl e10 et10 us1 hs1 wv1 f1 kv1 l1 b1 v6 v7 hx
     rintro σ' H11 ⟨l2,b2,kv2,f2,us2,hs2,wv2,rfl,e11,et11,S,hlm,htc⟩
     walk_at "go"
     refine cK (z:=Str.ofString "halyards") (.inl S.est) vU ?_
     walk_at "go"
     refine cK (z:=Str.ofString "words") (.inl S.est) cJM ?_
     walk_at "go"
     refine ⟨b2,wd,us2,hs2,wv2,rfl,aQ S.eb,S.hat,aQ S.ew,S.fit,S.h6,fun H12 s12 => ?_⟩
     have S2:=S.keep s12
     walk_at "go"
     refine cK (z:=Str.ofString "locker") (.inl S2.est) bJO ?_
     walk_at "go"
     refine cK (z:=Str.ofString "halyards") (.inl S2.est) vU ?_
     walk_at "go"
     refine ⟨l2,b2,kv2,f2,us2,hs2,rfl,S2.el,S.lk,S.hfo,aQ S2.eb,S2.hat,S.ok,S.h6,fun r13 kw13 H13 hr13 s13 e13 lk13 => ?_⟩
     have s3:=s12.trans s13
     refine dXM 0 (.dic (.inl e13) (.inl (s3 _ _ et11)) (lk13.deq (lkt.ext (fL fun c _ => (htc c).symm)))) ?_
     walk_at "go"
     exact ⟨_,_,l2,b2,kv2,f2,us2,hs2,wv2,rfl,s3 _ _ e11,s3 _ _ et11,S.keep s3,hlm,htc⟩
   · intro N hN
     walk_at "go"
     refine fZ (fun hd => ?_) (fun hd => ?_)
     · walk_at "go"
       refine cK (z:=Str.ofString "locker") (.inl S.est) bJO ?_
       walk_at "go"
       refine cK (z:=Str.ofString "halyards") (.inl S.est) vU ?_
       walk_at "go"
       refine ⟨by show 1 ≤ sizeLine; decide,fun p2 hp2 => ?_⟩
       have s2:=aE hp2 (.lst [V.int ((n:Nat):Int)])
       have e2:rdL (upd H10 p2 (.lst [V.int ((n:Nat):Int)])) p2 = some (([n]).map fun k => V.int ((k:Nat):Int)):=eQ
       generalize upd H10 p2 (.lst [V.int ((n:Nat):Int)]) = H11 at s2 e2 ⊢
       have S1:=S.keep s2
       walk_at "go"
       refine ⟨l1,b1,p2,kv1,f1,us1,hs1,[n],rfl,S1.el,S.lk,S.hfo,aQ S1.eb,S1.hat,S.ok,e2,by show 1 ≤ 6; decide,fun k hk => by rw [As.mp hk]; exact hnl,fun r3 kw3 g3 H12 hr3 s3 e3 lk3 hfo3 hg3 => ?_⟩
       have s13:=s2.trans s3
       have S2:=S.keep s13
       have nsw:st ≠ wd:=fun z => by have e:=S.est; rw [z,S.ew] at e; cases e
       have nbs:b1 ≠ st:=fun z => by have e:=S.eb; rw [z,S.est] at e; cases e
       have nr3s:r3 ≠ st:=fun z => by rw [z,S1.est] at hr3; cases hr3
       have nr3w:r3 ≠ wd:=fun z => by rw [z,S1.ew] at hr3; cases hr3
       have hul1:=S.hat.len
       have hlw:(wv1.map wdV).length = hs1.length:=by rw [Ab,S.fit.1]
       walk_at "go"
       refine dR (z:=Str.ofString "locker") S2.est (bD (by show 3 ≤ _; omega)) ?_
       rw [dXW]
       have e4:(upd H12 st (.dK [(kLo,.ref r3),(kHa,.ref b1),(kWo,.ref wd)])) st = _:=aB
       have f4:∀ p u,p ≠ st → H12 p = some u → (upd H12 st (.dK [(kLo,.ref r3),(kHa,.ref b1),(kWo,.ref wd)])) p = some u:=fun p u hp hu => (aI hp).trans hu
       generalize upd H12 st (.dK [(kLo,.ref r3),(kHa,.ref b1),(kWo,.ref wd)]) = H13 at e4 f4 ⊢
       have eb4:=f4 _ _ nbs S2.eb
       walk_at "go"
       refine cK (z:=Str.ofString "halyards") (.inl e4) vU ?_
       walk_at "go"
       refine aQ4 (o:=.non) (bG eb4) (sW (by omega) (by rw [hul1]; omega)) ?_
       rw [show ((n:Nat):Int).toNat = n from rfl]
       have e5:(upd H13 b1 (.lst (us1.set n V.non))) b1 = _:=aB
       have e5s:(upd H13 b1 (.lst (us1.set n V.non))) st = _:=(aI (Ne.symm nbs)).trans e4
       have f5:∀ p u,p ≠ st → p ≠ b1 → H12 p = some u → (upd H13 b1 (.lst (us1.set n V.non))) p = some u:=fun p u hp hp2 hu => (aI hp2).trans (f4 p u hp hu)
       generalize upd H13 b1 (.lst (us1.set n V.non)) = H14 at e5 e5s f5 ⊢
       have ew5:=f5 _ _ (Ne.symm nsw) (Ne.symm S.nbw) S2.ew
       walk_at "go"
       refine cK (z:=Str.ofString "words") (.inl e5s) cJM ?_
       walk_at "go"
       refine aQ4 (o:=.non) (bG ew5) (sW (by omega) (by rw [hlw]; omega)) ?_
       rw [show ((n:Nat):Int).toNat = n from rfl,show V.non = wdV none from rfl,bX9]
       have e6:(upd H14 wd (.lst ((wv1.set n none).map wdV))) wd = _:=aB
       have e6s:(upd H14 wd (.lst ((wv1.set n none).map wdV))) st = _:=(aI nsw).trans e5s
       have e6b:(upd H14 wd (.lst ((wv1.set n none).map wdV))) b1 = _:=(aI S.nbw).trans e5
       have f6:∀ p u,¬ (p = st ∨ p = b1 ∨ p = wd) → H12 p = some u → (upd H14 wd (.lst ((wv1.set n none).map wdV))) p = some u:=fun p u hp hu => (aI fun z => hp (.inr (.inr z))).trans (f5 p u (fun z => hp (.inl z)) (fun z => hp (.inr (.inl z))) hu)
       generalize upd H14 wd (.lst ((wv1.set n none).map wdV)) = H15 at e6 e6s e6b f6 ⊢
       have hatF:HalsAt H15 us1 hs1:=S2.hat.frame (X:=fun p => p = st ∨ p = b1 ∨ p = wd) f6 fun p xs hp hx z => by
         rcases z with z | z | z
         · rw [z,S2.est] at hx; cases hx
         · rw [z] at hp; exact S2.hat.own S2.eb hp
         · rw [z] at hp; exact S.nw hp
       have n9b:=S.ints (by omega) e10
       have ntb:t ≠ b1:=fun z => by rw [z,S.eb] at et10; cases et10
       refine hN _ _ ⟨r3,b1,kw3,g3,us1.set n .non,hs1.set n none,wv1.set n none,rfl,f6 _ _ (fun z => z.elim nrs fun z => z.elim n9b nrw) (s13 _ _ e10),f6 _ _ (fun z => z.elim nts fun z => z.elim ntb ntw) (s13 _ _ et10),⟨e6s,f6 _ _ (fun z => z.elim nr3s fun z => z.elim (fun w => by rw [w,S2.eb] at e3; cases e3) nr3w) e3,lk3,fun c => ?_,hfo3,e6b,hatF.set (k:=n) (v:=V.non) (h:=none) rfl,fun cs hcs => ?_,e6,S.fit.lower hnl,by rw [Cg]; exact S.h6,fun z => ?_,S.nbw⟩,by rw [Cg]; exact hlm,fun c => (aXW hnl hg3 c).trans (htc c)⟩
       · rw [hg3 c]; have:=S.hf0 c; have:=fV (aM hs1 [n]) c; omega
       · rcases Ed hcs with e | e
         · exact S.ok cs e
         · cases e
       · rcases Ed z with e | e
         · exact S.nw e
         · cases e
     · walk_at "go"
       refine ⟨_,bs,rfl,z0,fun cw H11 s11 hc1 hc7 hcL => ?_⟩
       have S1:=S.keep s11
       walk_at "go"
       refine ⟨st,l1,b1,wd,kv1,f1,us1,hs1,wv1,n,cw,rfl,S1,hnl,hc1,hc7,hcL,fun c => by rw [htc c]; exact (hf c).2,fun l2 b2 kv2 f2 us2 hs2 wv2 H12 fr S2 hl2 ht2 => ?_⟩
       walk_at "go"
       exact hN _ _ ⟨l2,b2,kv2,f2,us2,hs2,wv2,rfl,fr _ _ nrs nrw (s11 _ _ e10),fr _ _ nts ntw (s11 _ _ et10),S2,hl2.trans hlm,fun c => (ht2 c).trans (htc c)⟩
 · rintro σ H10 ⟨v6,v7,l1,b1,kv1,f1,us1,hs1,wv1,rfl,e10,et10,S,hlm,htc⟩
   walk_at "go"
   exact q _
end
local macro_rules | `(tactic| walk_at "bd") => `(tactic| (intro a1 a2 a3 a4 a5 a6 us hl; iterate 7 (all_goals try (rcases us with _ | ⟨u,us⟩; (· first | rfl | (simp at hl)))); all_goals (simp at hl)))
theorem all_mk {l:PySem.W.OpenLaw} {w:World} {K:PySem.W.Frag} {h:Heap} {mg:Str → Option Value} {fa:Addr} {od_0 an_0 od_1 an_1 od_2 an_2 od_3 an_3 od_4 an_4 od_5 an_5 od_6 an_6 od_7 an_7 od_8 an_8 od_9 an_9 od_10 an_10 od_11 an_11 od_12 an_12 od_13 an_13 od_14 an_14 od_15 an_15 od_16 an_16 od_17 an_17 od_18 an_18 od_19 an_19 od_20 an_20 od_21 an_21 od_22 an_22 od_23 an_23 od_24 an_24 od_25 an_25 od_26 an_26 od_27 an_27 od_28 an_28 od_29 an_29 od_30 an_30 od_31 an_31 od_32 an_32 od_33 an_33 od_34 an_34 od_35 an_35 od_36 an_36 od_37 an_37 od_38 an_38:Option Addr} {sl_0 sl_1 sl_2 sl_3 sl_4 sl_5 sl_6 sl_7 sl_8 sl_9 sl_10 sl_11 sl_12 sl_13 sl_14 sl_15 sl_16 sl_17 sl_18 sl_19 sl_20 sl_21 sl_22 sl_23 sl_24 sl_25 sl_26 sl_27 sl_28 sl_29 sl_30 sl_31 sl_32 sl_33 sl_34 sl_35 sl_36 sl_37 sl_38:Array (Option Value)} {f_0 f_1 f_2 f_3 f_4 f_5 f_6 f_7 f_8 f_9 f_10 f_11 f_12 f_13 f_14 f_15 f_16 f_17 f_18 f_19 f_20 f_21 f_22 f_23 f_24 f_25 f_26 f_27 f_28 f_29 f_30 f_31 f_32 f_33 f_34 f_35 f_36 f_37 f_38:Addr} {oc_0 kV_0 dc_0 pm_0 cd_0 ct_0 oc_1 kV_1 dc_1 pm_1 cd_1 ct_1 oc_2 kV_2 dc_2 pm_2 cd_2 ct_2 oc_3 kV_3 dc_3 pm_3 cd_3 ct_3 oc_4 kV_4 dc_4 pm_4 cd_4 ct_4 oc_5 kV_5 dc_5 pm_5 cd_5 ct_5 oc_6 kV_6 dc_6 pm_6 cd_6 ct_6 oc_7 kV_7 dc_7 pm_7 cd_7 ct_7 oc_8 kV_8 dc_8 pm_8 cd_8 ct_8 oc_9 kV_9 dc_9 pm_9 cd_9 ct_9 oc_10 kV_10 dc_10 pm_10 cd_10 ct_10 oc_11 kV_11 dc_11 pm_11 cd_11 ct_11 oc_12 kV_12 dc_12 pm_12 cd_12 ct_12 oc_13 kV_13 dc_13 pm_13 cd_13 ct_13 oc_14 kV_14 dc_14 pm_14 cd_14 ct_14 oc_15 kV_15 dc_15 pm_15 cd_15 ct_15 oc_16 kV_16 dc_16 pm_16 cd_16 ct_16 oc_17 kV_17 dc_17 pm_17 cd_17 ct_17 oc_18 kV_18 dc_18 pm_18 cd_18 ct_18 oc_19 kV_19 dc_19 pm_19 cd_19 ct_19 oc_20 kV_20 dc_20 pm_20 cd_20 ct_20 oc_21 kV_21 dc_21 pm_21 cd_21 ct_21 oc_22 kV_22 dc_22 pm_22 cd_22 ct_22 oc_23 kV_23 dc_23 pm_23 cd_23 ct_23 oc_24 kV_24 dc_24 pm_24 cd_24 ct_24 oc_25 kV_25 dc_25 pm_25 cd_25 ct_25 oc_26 kV_26 dc_26 pm_26 cd_26 ct_26 oc_27 kV_27 dc_27 pm_27 cd_27 ct_27 oc_28 kV_28 dc_28 pm_28 cd_28 ct_28 oc_29 kV_29 dc_29 pm_29 cd_29 ct_29 oc_30 kV_30 dc_30 pm_30 cd_30 ct_30 oc_31 kV_31 dc_31 pm_31 cd_31 ct_31 oc_32 kV_32 dc_32 pm_32 cd_32 ct_32 oc_33 kV_33 dc_33 pm_33 cd_33 ct_33 oc_34 kV_34 dc_34 pm_34 cd_34 ct_34 oc_35 kV_35 dc_35 pm_35 cd_35 ct_35 oc_36 kV_36 dc_36 pm_36 cd_36 ct_36 oc_37 kV_37 dc_37 pm_37 cd_37 ct_37 oc_38 kV_38 dc_38 pm_38 cd_38 ct_38:Value} {t_FLAGS:Tok} {t_SUBSTITUTES:Tok} {t_MOST_PLACES:Tok} {Zw:Addr} {Zz:Addr} {Zx:Addr} {Zy:Addr} (X:K.In h) (Gn:h.Ns mainGlobals mg) (hfa:mg "law" = some (.ref fa))
   (a_0:PySem.W.nsIn K mainGlobals "_law_stream" = some (some (.ref f_0))) (l_0:K.lookup f_0 = some ⟨oc_0,od_0,.func (PySem.W.fnOf "_law_stream" "_law_stream" (aS fB) (aR fB) (aG fB) .none kV_0 dc_0 pm_0 an_0 cd_0 ct_0),sl_0⟩) (c_0:PySem.W.codeIn K cd_0 "_law_stream" = true) (k_0:PySem.W.keepIn K (.ref f_0) = true)
   (a_1:PySem.W.nsIn K mainGlobals "_law_locker" = some (some (.ref f_1))) (l_1:K.lookup f_1 = some ⟨oc_1,od_1,.func (PySem.W.fnOf "_law_locker" "_law_locker" (aS eW) (aR eW) (aG eW) .none kV_1 dc_1 pm_1 an_1 cd_1 ct_1),sl_1⟩) (c_1:PySem.W.codeIn K cd_1 "_law_locker" = true) (k_1:PySem.W.keepIn K (.ref f_1) = true)
   (a_2:PySem.W.nsIn K mainGlobals "_law_plain" = some (some (.ref f_2))) (l_2:K.lookup f_2 = some ⟨oc_2,od_2,.func (PySem.W.fnOf "_law_plain" "_law_plain" (aS fM) (aR fM) (aG fM) .none kV_2 dc_2 pm_2 an_2 cd_2 ct_2),sl_2⟩) (c_2:PySem.W.codeIn K cd_2 "_law_plain" = true) (k_2:PySem.W.keepIn K (.ref f_2) = true)
   (a_3:PySem.W.nsIn K mainGlobals "_law_cell" = some (some (.ref f_3))) (l_3:K.lookup f_3 = some ⟨oc_3,od_3,.func (PySem.W.fnOf "_law_cell" "_law_cell" (aS gN) (aR gN) (aG gN) .none kV_3 dc_3 pm_3 an_3 cd_3 ct_3),sl_3⟩) (c_3:PySem.W.codeIn K cd_3 "_law_cell" = true) (k_3:PySem.W.keepIn K (.ref f_3) = true)
   (a_4:PySem.W.nsIn K mainGlobals "_law_pool" = some (some (.ref f_4))) (l_4:K.lookup f_4 = some ⟨oc_4,od_4,.func (PySem.W.fnOf "_law_pool" "_law_pool" (aS gK) (aR gK) (aG gK) .none kV_4 dc_4 pm_4 an_4 cd_4 ct_4),sl_4⟩) (c_4:PySem.W.codeIn K cd_4 "_law_pool" = true) (k_4:PySem.W.keepIn K (.ref f_4) = true)
   (a_5:PySem.W.nsIn K mainGlobals "_law_others" = some (some (.ref f_5))) (l_5:K.lookup f_5 = some ⟨oc_5,od_5,.func (PySem.W.fnOf "_law_others" "_law_others" (aS dU) (aR dU) (aG dU) .none kV_5 dc_5 pm_5 an_5 cd_5 ct_5),sl_5⟩) (c_5:PySem.W.codeIn K cd_5 "_law_others" = true) (k_5:PySem.W.keepIn K (.ref f_5) = true)
   (a_6:PySem.W.nsIn K mainGlobals "_law_choices" = some (some (.ref f_6))) (l_6:K.lookup f_6 = some ⟨oc_6,od_6,.func (PySem.W.fnOf "_law_choices" "_law_choices" (aS eE) (aR eE) (aG eE) .none kV_6 dc_6 pm_6 an_6 cd_6 ct_6),sl_6⟩) (c_6:PySem.W.codeIn K cd_6 "_law_choices" = true) (k_6:PySem.W.keepIn K (.ref f_6) = true)
   (a_7:PySem.W.nsIn K mainGlobals "_law_are_short" = some (some (.ref f_7))) (l_7:K.lookup f_7 = some ⟨oc_7,od_7,.func (PySem.W.fnOf "_law_are_short" "_law_are_short" (aS cM) (aR cM) (aG cM) .none kV_7 dc_7 pm_7 an_7 cd_7 ct_7),sl_7⟩) (c_7:PySem.W.codeIn K cd_7 "_law_are_short" = true) (k_7:PySem.W.keepIn K (.ref f_7) = true)
   (a_8:PySem.W.nsIn K mainGlobals "plain_locker" = some (some (.ref f_8))) (l_8:K.lookup f_8 = some ⟨oc_8,od_8,.func (PySem.W.fnOf "plain_locker" "plain_locker" (aS cR) (aR cR) (aG cR) .none kV_8 dc_8 pm_8 an_8 cd_8 ct_8),sl_8⟩) (c_8:PySem.W.codeIn K cd_8 "plain_locker" = true) (k_8:PySem.W.keepIn K (.ref f_8) = true)
   (a_9:PySem.W.nsIn K mainGlobals "put_in" = some (some (.ref f_9))) (l_9:K.lookup f_9 = some ⟨oc_9,od_9,.func (PySem.W.fnOf "put_in" "put_in" (aS gY) (aR gY) (aG gY) .none kV_9 dc_9 pm_9 an_9 cd_9 ct_9),sl_9⟩) (c_9:PySem.W.codeIn K cd_9 "put_in" = true) (k_9:PySem.W.keepIn K (.ref f_9) = true)
   (a_10:PySem.W.nsIn K mainGlobals "rising_lists" = some (some (.ref f_10))) (l_10:K.lookup f_10 = some ⟨oc_10,od_10,.func (PySem.W.fnOf "rising_lists" "rising_lists" (aS cE) (aR cE) (aG cE) .none kV_10 dc_10 pm_10 an_10 cd_10 ct_10),sl_10⟩) (c_10:PySem.W.codeIn K cd_10 "rising_lists" = true) (k_10:PySem.W.keepIn K (.ref f_10) = true)
   (a_11:PySem.W.nsIn K mainGlobals "sets_of" = some (some (.ref f_11))) (l_11:K.lookup f_11 = some ⟨oc_11,od_11,.func (PySem.W.fnOf "sets_of" "sets_of" (aS fP) (aR fP) (aG fP) .none kV_11 dc_11 pm_11 an_11 cd_11 ct_11),sl_11⟩) (c_11:PySem.W.codeIn K cd_11 "sets_of" = true) (k_11:PySem.W.keepIn K (.ref f_11) = true)
   (y_12:PySem.W.typeIn K (.ref f_12) = some (.type "function"))
   (a_12:PySem.W.findIn K (.ref Zw) "__init__" = some (some (.ref f_12))) (l_12:K.lookup f_12 = some ⟨oc_12,od_12,.func (PySem.W.fnOf "__init__" "Lack.__init__" (aS eF) (aR eF) (aG eF) .none kV_12 dc_12 pm_12 an_12 cd_12 ct_12),sl_12⟩) (c_12:PySem.W.codeIn K cd_12 "Lack.__init__" = true) (k_12:PySem.W.keepIn K (.ref f_12) = true)
   (a_13:PySem.W.nsIn K mainGlobals "others_hung" = some (some (.ref f_13))) (l_13:K.lookup f_13 = some ⟨oc_13,od_13,.func (PySem.W.fnOf "others_hung" "others_hung" (aS cL) (aR cL) (aG cL) .none kV_13 dc_13 pm_13 an_13 cd_13 ct_13),sl_13⟩) (c_13:PySem.W.codeIn K cd_13 "others_hung" = true) (k_13:PySem.W.keepIn K (.ref f_13) = true)
   (a_14:PySem.W.nsIn K mainGlobals "wants_of" = some (some (.ref f_14))) (l_14:K.lookup f_14 = some ⟨oc_14,od_14,.func (PySem.W.fnOf "wants_of" "wants_of" (aS dS) (aR dS) (aG dS) .none kV_14 dc_14 pm_14 an_14 cd_14 ct_14),sl_14⟩) (c_14:PySem.W.codeIn K cd_14 "wants_of" = true) (k_14:PySem.W.keepIn K (.ref f_14) = true)
   (a_15:PySem.W.nsIn K mainGlobals "choices_at" = some (some (.ref f_15))) (l_15:K.lookup f_15 = some ⟨oc_15,od_15,.func (PySem.W.fnOf "choices_at" "choices_at" (aS cW) (aR cW) (aG cW) .none kV_15 dc_15 pm_15 an_15 cd_15 ct_15),sl_15⟩) (c_15:PySem.W.codeIn K cd_15 "choices_at" = true) (k_15:PySem.W.keepIn K (.ref f_15) = true)
   (a_16:PySem.W.nsIn K mainGlobals "choices_of" = some (some (.ref f_16))) (l_16:K.lookup f_16 = some ⟨oc_16,od_16,.func (PySem.W.fnOf "choices_of" "choices_of" (aS dE) (aR dE) (aG dE) .none kV_16 dc_16 pm_16 an_16 cd_16 ct_16),sl_16⟩) (c_16:PySem.W.codeIn K cd_16 "choices_of" = true) (k_16:PySem.W.keepIn K (.ref f_16) = true)
   (a_17:PySem.W.nsIn K mainGlobals "hoists_of" = some (some (.ref f_17))) (l_17:K.lookup f_17 = some ⟨oc_17,od_17,.func (PySem.W.fnOf "hoists_of" "hoists_of" (aS dX) (aR dX) (aG dX) .none kV_17 dc_17 pm_17 an_17 cd_17 ct_17),sl_17⟩) (c_17:PySem.W.codeIn K cd_17 "hoists_of" = true) (k_17:PySem.W.keepIn K (.ref f_17) = true)
   (a_18:PySem.W.nsIn K mainGlobals "asked_from" = some (some (.ref f_18))) (l_18:K.lookup f_18 = some ⟨oc_18,od_18,.func (PySem.W.fnOf "asked_from" "asked_from" (aS cU) (aR cU) (aG cU) .none kV_18 dc_18 pm_18 an_18 cd_18 ct_18),sl_18⟩) (c_18:PySem.W.codeIn K cd_18 "asked_from" = true) (k_18:PySem.W.keepIn K (.ref f_18) = true)
   (a_19:PySem.W.nsIn K mainGlobals "hang_along" = some (some (.ref f_19))) (l_19:K.lookup f_19 = some ⟨oc_19,od_19,.func (PySem.W.fnOf "hang_along" "hang_along" (aS dG) (aR dG) (aG dG) .none kV_19 dc_19 pm_19 an_19 cd_19 ct_19),sl_19⟩) (c_19:PySem.W.codeIn K cd_19 "hang_along" = true) (k_19:PySem.W.keepIn K (.ref f_19) = true)
   (a_20:PySem.W.nsIn K mainGlobals "hang_all" = some (some (.ref f_20))) (l_20:K.lookup f_20 = some ⟨oc_20,od_20,.func (PySem.W.fnOf "hang_all" "hang_all" (aS cN) (aR cN) (aG cN) .none kV_20 dc_20 pm_20 an_20 cd_20 ct_20),sl_20⟩) (c_20:PySem.W.codeIn K cd_20 "hang_all" = true) (k_20:PySem.W.keepIn K (.ref f_20) = true)
   (a_21:PySem.W.nsIn K mainGlobals "lack_of" = some (some (.ref f_21))) (l_21:K.lookup f_21 = some ⟨oc_21,od_21,.func (PySem.W.fnOf "lack_of" "lack_of" (aS fU) (aR fU) (aG fU) .none kV_21 dc_21 pm_21 an_21 cd_21 ct_21),sl_21⟩) (c_21:PySem.W.codeIn K cd_21 "lack_of" = true) (k_21:PySem.W.keepIn K (.ref f_21) = true)
   (a_22:PySem.W.nsIn K mainGlobals "flags_on" = some (some (.ref f_22))) (l_22:K.lookup f_22 = some ⟨oc_22,od_22,.func (PySem.W.fnOf "flags_on" "flags_on" (aS eZ) (aR eZ) (aG eZ) .none kV_22 dc_22 pm_22 an_22 cd_22 ct_22),sl_22⟩) (c_22:PySem.W.codeIn K cd_22 "flags_on" = true) (k_22:PySem.W.keepIn K (.ref f_22) = true)
   (a_23:PySem.W.nsIn K mainGlobals "is_flag" = some (some (.ref f_23))) (l_23:K.lookup f_23 = some ⟨oc_23,od_23,.func (PySem.W.fnOf "is_flag" "is_flag" (aS fR) (aR fR) (aG fR) .none kV_23 dc_23 pm_23 an_23 cd_23 ct_23),sl_23⟩) (c_23:PySem.W.codeIn K cd_23 "is_flag" = true) (k_23:PySem.W.keepIn K (.ref f_23) = true)
   (a_24:PySem.W.nsIn K mainGlobals "may_stand" = some (some (.ref f_24))) (l_24:K.lookup f_24 = some ⟨oc_24,od_24,.func (PySem.W.fnOf "may_stand" "may_stand" (aS dZ) (aR dZ) (aG dZ) .none kV_24 dc_24 pm_24 an_24 cd_24 ct_24),sl_24⟩) (c_24:PySem.W.codeIn K cd_24 "may_stand" = true) (k_24:PySem.W.keepIn K (.ref f_24) = true)
   (a_25:PySem.W.nsIn K mainGlobals "is_hoist" = some (some (.ref f_25))) (l_25:K.lookup f_25 = some ⟨oc_25,od_25,.func (PySem.W.fnOf "is_hoist" "is_hoist" (aS eV) (aR eV) (aG eV) .none kV_25 dc_25 pm_25 an_25 cd_25 ct_25),sl_25⟩) (c_25:PySem.W.codeIn K cd_25 "is_hoist" = true) (k_25:PySem.W.keepIn K (.ref f_25) = true)
   (a_26:PySem.W.nsIn K mainGlobals "read_of" = some (some (.ref f_26))) (l_26:K.lookup f_26 = some ⟨oc_26,od_26,.func (PySem.W.fnOf "read_of" "read_of" (aS fO) (aR fO) (aG fO) .none kV_26 dc_26 pm_26 an_26 cd_26 ct_26),sl_26⟩) (c_26:PySem.W.codeIn K cd_26 "read_of" = true) (k_26:PySem.W.keepIn K (.ref f_26) = true)
   (a_27:PySem.W.nsIn K mainGlobals "words_with" = some (some (.ref f_27))) (l_27:K.lookup f_27 = some ⟨oc_27,od_27,.func (PySem.W.fnOf "words_with" "words_with" (aS cT) (aR cT) (aG cT) .none kV_27 dc_27 pm_27 an_27 cd_27 ct_27),sl_27⟩) (c_27:PySem.W.codeIn K cd_27 "words_with" = true) (k_27:PySem.W.keepIn K (.ref f_27) = true)
   (a_28:PySem.W.nsIn K mainGlobals "least_set" = some (some (.ref f_28))) (l_28:K.lookup f_28 = some ⟨oc_28,od_28,.func (PySem.W.fnOf "least_set" "least_set" (aS eG) (aR eG) (aG eG) .none kV_28 dc_28 pm_28 an_28 cd_28 ct_28),sl_28⟩) (c_28:PySem.W.codeIn K cd_28 "least_set" = true) (k_28:PySem.W.keepIn K (.ref f_28) = true)
   (y_29:PySem.W.typeIn K (.ref f_29) = some (.type "function"))
   (a_29:PySem.W.findIn K (.ref Zx) "__init__" = some (some (.ref f_29))) (l_29:K.lookup f_29 = some ⟨oc_29,od_29,.func (PySem.W.fnOf "__init__" "Short.__init__" (aS dF) (aR dF) (aG dF) .none kV_29 dc_29 pm_29 an_29 cd_29 ct_29),sl_29⟩) (c_29:PySem.W.codeIn K cd_29 "Short.__init__" = true) (k_29:PySem.W.keepIn K (.ref f_29) = true)
   (a_30:PySem.W.nsIn K mainGlobals "taken" = some (some (.ref f_30))) (l_30:K.lookup f_30 = some ⟨oc_30,od_30,.func (PySem.W.fnOf "taken" "taken" (aS kB) (aR kB) (aG kB) .none kV_30 dc_30 pm_30 an_30 cd_30 ct_30),sl_30⟩) (c_30:PySem.W.codeIn K cd_30 "taken" = true) (k_30:PySem.W.keepIn K (.ref f_30) = true)
   (a_31:PySem.W.nsIn K mainGlobals "hauled" = some (some (.ref f_31))) (l_31:K.lookup f_31 = some ⟨oc_31,od_31,.func (PySem.W.fnOf "hauled" "hauled" (aS hU) (aR hU) (aG hU) .none kV_31 dc_31 pm_31 an_31 cd_31 ct_31),sl_31⟩) (c_31:PySem.W.codeIn K cd_31 "hauled" = true) (k_31:PySem.W.keepIn K (.ref f_31) = true)
   (a_32:PySem.W.nsIn K mainGlobals "_law_read" = some (some (.ref f_32))) (l_32:K.lookup f_32 = some ⟨oc_32,od_32,.func (PySem.W.fnOf "_law_read" "_law_read" (aS gX) (aR gX) (aG gX) .none kV_32 dc_32 pm_32 an_32 cd_32 ct_32),sl_32⟩) (c_32:PySem.W.codeIn K cd_32 "_law_read" = true) (k_32:PySem.W.keepIn K (.ref f_32) = true)
   (a_33:PySem.W.nsIn K mainGlobals "_law_words" = some (some (.ref f_33))) (l_33:K.lookup f_33 = some ⟨oc_33,od_33,.func (PySem.W.fnOf "_law_words" "_law_words" (aS fA) (aR fA) (aG fA) .none kV_33 dc_33 pm_33 an_33 cd_33 ct_33),sl_33⟩) (c_33:PySem.W.codeIn K cd_33 "_law_words" = true) (k_33:PySem.W.keepIn K (.ref f_33) = true)
   (a_34:PySem.W.nsIn K mainGlobals "_law_step" = some (some (.ref f_34))) (l_34:K.lookup f_34 = some ⟨oc_34,od_34,.func (PySem.W.fnOf "_law_step" "_law_step" (aS gQ) (aR gQ) (aG gQ) .none kV_34 dc_34 pm_34 an_34 cd_34 ct_34),sl_34⟩) (c_34:PySem.W.codeIn K cd_34 "_law_step" = true) (k_34:PySem.W.keepIn K (.ref f_34) = true)
   (a_35:PySem.W.nsIn K mainGlobals "_law_reads" = some (some (.ref f_35))) (l_35:K.lookup f_35 = some ⟨oc_35,od_35,.func (PySem.W.fnOf "_law_reads" "_law_reads" (aS fS) (aR fS) (aG fS) .none kV_35 dc_35 pm_35 an_35 cd_35 ct_35),sl_35⟩) (c_35:PySem.W.codeIn K cd_35 "_law_reads" = true) (k_35:PySem.W.keepIn K (.ref f_35) = true)
   (a_36:PySem.W.nsIn K mainGlobals "_law_all" = some (some (.ref f_36))) (l_36:K.lookup f_36 = some ⟨oc_36,od_36,.func (PySem.W.fnOf "_law_all" "_law_all" (aS jM) (aR jM) (aG jM) .none kV_36 dc_36 pm_36 an_36 cd_36 ct_36),sl_36⟩) (c_36:PySem.W.codeIn K cd_36 "_law_all" = true) (k_36:PySem.W.keepIn K (.ref f_36) = true)
   (a_37:PySem.W.nsIn K mainGlobals "_law_word" = some (some (.ref f_37))) (l_37:K.lookup f_37 = some ⟨oc_37,od_37,.func (PySem.W.fnOf "_law_word" "_law_word" (aS gO) (aR gO) (aG gO) .none kV_37 dc_37 pm_37 an_37 cd_37 ct_37),sl_37⟩) (c_37:PySem.W.codeIn K cd_37 "_law_word" = true) (k_37:PySem.W.keepIn K (.ref f_37) = true)
   (a_38:PySem.W.nsIn K mainGlobals "law" = some (some (.ref f_38))) (l_38:K.lookup f_38 = some ⟨oc_38,od_38,.func (PySem.W.fnOf "law" "law" (aS lR) (aR lR) (aG lR) .none kV_38 dc_38 pm_38 an_38 cd_38 ct_38),sl_38⟩) (c_38:PySem.W.codeIn K cd_38 "law" = true) (k_38:PySem.W.keepIn K (.ref f_38) = true)
   (z_range:PySem.W.nsIn K mainGlobals "range" = some none)
   (z_len:PySem.W.nsIn K mainGlobals "len" = some none)
   (z_dict:PySem.W.nsIn K mainGlobals "dict" = some none)
   (z_min:PySem.W.nsIn K mainGlobals "min" = some none)
   (z_sum:PySem.W.nsIn K mainGlobals "sum" = some none)
   (z_set:PySem.W.nsIn K mainGlobals "set" = some none)
   (z_enumerate:PySem.W.nsIn K mainGlobals "enumerate" = some none)
   (z_list:PySem.W.nsIn K mainGlobals "list" = some none)
   (z_int:PySem.W.nsIn K mainGlobals "int" = some none)
   (z_all:PySem.W.nsIn K mainGlobals "all" = some none)
   (z_zip:PySem.W.nsIn K mainGlobals "zip" = some none)
   (g_FLAGS:PySem.W.nsIn K mainGlobals "FLAGS" = some (some (.str "abcdefghijklmnopqrstuvw1234" t_FLAGS)))
   (g_SUBSTITUTES:PySem.W.nsIn K mainGlobals "SUBSTITUTES" = some (some (.str "1234" t_SUBSTITUTES)))
   (g_MOST_PLACES:PySem.W.nsIn K mainGlobals "MOST_PLACES" = some (some (.int 7 t_MOST_PLACES)))
   (q_Lack:PySem.W.nsIn K mainGlobals "Lack" = some (some (.ref Zw)))
   (q_TowerError:PySem.W.nsIn K mainGlobals "TowerError" = some (some (.ref Zz)))
   (q_Short:PySem.W.nsIn K mainGlobals "Short" = some (some (.ref Zx)))
   (q_NoHoist:PySem.W.nsIn K mainGlobals "NoHoist" = some (some (.ref Zy)))
   (f_m_Lack:PySem.W.exmOne K (.ref Zw) (.ref Zw) = some true)
   (f_x_NoHoist:PySem.W.excIn K Zy [.type "ValueError",.type "Exception",.type "BaseException",.type "object"] "ValueError.__new__" = true)
   (f_m_Short:PySem.W.exmOne K (.ref Zx) (.ref Zx) = some true)
   (f_t1_TowerError:PySem.W.specialIn K (.ref Zz) "__getattribute__" = some (some (.builtin "type.__getattribute__")))
   (f_t2_TowerError:PySem.W.readsIn K Zz (.type "type") = true)
   (f_t3_TowerError:PySem.W.findCls K (.ref Zz) (.type "type") "__init__" = some (.val (.builtin "ValueError.__init__")))
   (f_xo_Lack:sS K Zw [.type "ValueError",.type "Exception",.type "BaseException",.type "object"] "ValueError.__new__" = true)
   (f_xk_Lack:PySem.W.keepIn K (.ref Zw) = true)
   (f_xe1_Lack:PySem.W.hasDictIn K Zw = true)
   (f_xe2_Lack:PySem.W.findIn K (.ref Zw) "__getattribute__" = some (some (.builtin "BaseException.__getattribute__")))
   (f_xe3_Lack:PySem.W.findIn K (.ref Zw) "__getattr__" = some none)
   (f_xe4_Lack:PySem.W.findIn K (.ref Zw) "__class__" = some (some (.builtin "object.__class__")))
   (f_xe5_Lack:PySem.W.specialIn K (.builtin "object.__class__") "__get__" = some (some (.builtin "getset_descriptor.__get__")))
   (f_xe6_Lack:PySem.W.takesIn K (.builtin "object.__class__") = some true)
   (f_xe7_Lack:PySem.W.mroIn K Zw (.type "object") = some true)
   (f_xe8_Lack:PySem.W.subIn K (.ref Zw) (.type "BaseException") = some true)
   (f_xs_Lack:PySem.W.findIn K (.ref Zw) "__setattr__" = some (some (.builtin "object.__setattr__")))
   (f_xr_Lack:bQT K Zw Zz = true)
   (f_xv_Lack:PySem.W.subIn K (.ref Zw) (.type "ValueError") = some true)
   (f_xn_Lack_wants:PySem.W.findIn K (.ref Zw) "wants" = some none)
   (f_xn_Lack_flags:PySem.W.findIn K (.ref Zw) "flags" = some none)
   (f_xo_Short:sS K Zx [.type "ValueError",.type "Exception",.type "BaseException",.type "object"] "ValueError.__new__" = true)
   (f_xk_Short:PySem.W.keepIn K (.ref Zx) = true)
   (f_xe1_Short:PySem.W.hasDictIn K Zx = true)
   (f_xe2_Short:PySem.W.findIn K (.ref Zx) "__getattribute__" = some (some (.builtin "BaseException.__getattribute__")))
   (f_xe3_Short:PySem.W.findIn K (.ref Zx) "__getattr__" = some none)
   (f_xe4_Short:PySem.W.findIn K (.ref Zx) "__class__" = some (some (.builtin "object.__class__")))
   (f_xe5_Short:PySem.W.specialIn K (.builtin "object.__class__") "__get__" = some (some (.builtin "getset_descriptor.__get__")))
   (f_xe6_Short:PySem.W.takesIn K (.builtin "object.__class__") = some true)
   (f_xe7_Short:PySem.W.mroIn K Zx (.type "object") = some true)
   (f_xe8_Short:PySem.W.subIn K (.ref Zx) (.type "BaseException") = some true)
   (f_xs_Short:PySem.W.findIn K (.ref Zx) "__setattr__" = some (some (.builtin "object.__setattr__")))
   (f_xr_Short:bQT K Zx Zz = true)
   (f_xv_Short:PySem.W.subIn K (.ref Zx) (.type "ValueError") = some true)
   (f_xn_Short_flag:PySem.W.findIn K (.ref Zx) "flag" = some none)
   : ∃ fd:FuncData,(∀ (s:Shared) (v:Value),BindsTo s fd ⟨[v],[]⟩ [("_law_script",v)]) ∧ ∀ base:Heap,K.In base → base.Ns mainGlobals mg → FnOk l.prog w K mg base CX0 14 fa fd ["_law_script"] (sY K):=by
 have M:∀ {x:Str} {v:Value},PySem.W.nsIn K mainGlobals x = some (some v) → mg x = some v:=fun h => PySem.W.mg_of X Gn h
 have N:∀ {x:Str},PySem.W.nsIn K mainGlobals x = some none → mg x = none:=fun h => PySem.W.mg_none_of X Gn h
 have e:=hfa.symm.trans (M a_38)
 cases e
 have G:Gs K mg Zw Zz Zx Zy:=⟨M q_Lack,M q_TowerError,M q_Short,M q_NoHoist,f_m_Lack,f_x_NoHoist,f_m_Short,f_t1_TowerError,f_t2_TowerError,f_t3_TowerError,f_xo_Lack,f_xk_Lack,f_xe1_Lack,f_xe2_Lack,f_xe3_Lack,f_xe4_Lack,f_xe5_Lack,f_xe6_Lack,f_xe7_Lack,f_xe8_Lack,f_xs_Lack,f_xr_Lack,f_xv_Lack,f_xn_Lack_wants,f_xn_Lack_flags,f_xo_Short,f_xk_Short,f_xe1_Short,f_xe2_Short,f_xe3_Short,f_xe4_Short,f_xe5_Short,f_xe6_Short,f_xe7_Short,f_xe8_Short,f_xs_Short,f_xr_Short,f_xv_Short,f_xn_Short_flag,N z_range,N z_len,N z_dict,N z_min,N z_sum,N z_set,N z_enumerate,N z_list,N z_int,N z_all,N z_zip,⟨_,M g_FLAGS⟩,⟨_,M g_SUBSTITUTES⟩,⟨_,M g_MOST_PLACES⟩⟩
 have F_0:=bC (st:=fB) l_0 c_0 k_0
 have b_0:=F_0.binds (ps:=["_law_cell_here", "_law_many"]) (by walk_at "bd")
 have F_1:=bC (st:=eW) l_1 c_1 k_1
 have b_1:=F_1.binds (ps:=["_law_cell_here", "_law_base"]) (by walk_at "bd")
 have F_2:=bC (st:=fM) l_2 c_2 k_2
 have b_2:=F_2.binds (ps:=["_law_locker_here"]) (by walk_at "bd")
 have F_3:=bC (st:=gN) l_3 c_3 k_3
 have b_3:=F_3.binds (ps:=["_law_script", "_law_k"]) (by walk_at "bd")
 have F_4:=bC (st:=gK) l_4 c_4 k_4
 have b_4:=F_4.binds (ps:=["_law_locker_here", "_law_halyards", "_law_numbers"]) (by walk_at "bd")
 have F_5:=bC (st:=dU) l_5 c_5 k_5
 have b_5:=F_5.binds (ps:=["_law_halyards", "_law_number"]) (by walk_at "bd")
 have F_6:=bC (st:=eE) l_6 c_6 k_6
 have b_6:=F_6.binds (ps:=["_law_word_here", "_law_place"]) (by walk_at "bd")
 have F_7:=bC (st:=cM) l_7 c_7 k_7
 have b_7:=F_7.binds (ps:=["_law_locker_here", "_law_words_here", "_law_wants", "_law_flags"]) (by walk_at "bd")
 have F_8:=bC (st:=cR) l_8 c_8 k_8
 have b_8:=F_8.binds (ps:=["locker"]) (by walk_at "bd")
 have F_9:=bC (st:=gY) l_9 c_9 k_9
 have b_9:=F_9.binds (ps:=["locker", "flags"]) (by walk_at "bd")
 have F_10:=bC (st:=cE) l_10 c_10 k_10
 have b_10:=F_10.binds (ps:=["numbers", "many"]) (by walk_at "bd")
 have F_11:=bC (st:=fP) l_11 c_11 k_11
 have b_11:=F_11.binds (ps:=["others"]) (by walk_at "bd")
 have F_12:=bC (st:=eF) l_12 c_12 k_12
 have b_12:=F_12.binds (ps:=["self", "wants", "flags"]) (by walk_at "bd")
 have F_13:=bC (st:=cL) l_13 c_13 k_13
 have b_13:=F_13.binds (ps:=["halyards", "number"]) (by walk_at "bd")
 have F_14:=bC (st:=dS) l_14 c_14 k_14
 have b_14:=F_14.binds (ps:=["words"]) (by walk_at "bd")
 have F_15:=bC (st:=cW) l_15 c_15 k_15
 have b_15:=F_15.binds (ps:=["word", "place"]) (by walk_at "bd")
 have F_16:=bC (st:=dE) l_16 c_16 k_16
 have b_16:=F_16.binds (ps:=["words"]) (by walk_at "bd")
 have F_17:=bC (st:=dX) l_17 c_17 k_17
 have b_17:=F_17.binds (ps:=["words", "flags"]) (by walk_at "bd")
 have F_18:=bC (st:=cU) l_18 c_18 k_18
 have b_18:=F_18.binds (ps:=["first", "choices", "hung"]) (by walk_at "bd")
 have F_19:=bC (st:=dG) l_19 c_19 k_19
 have b_19:=F_19.binds (ps:=["flag", "asked", "hung"]) (by walk_at "bd")
 have F_20:=bC (st:=cN) l_20 c_20 k_20
 have b_20:=F_20.binds (ps:=["locker", "words"]) (by walk_at "bd")
 have F_21:=bC (st:=fU) l_21 c_21 k_21
 have b_21:=F_21.binds (ps:=["locker", "words"]) (by walk_at "bd")
 have F_22:=bC (st:=eZ) l_22 c_22 k_22
 have b_22:=F_22.binds (ps:=["halyards", "numbers"]) (by walk_at "bd")
 have F_23:=bC (st:=fR) l_23 c_23 k_23
 have b_23:=F_23.binds (ps:=["text"]) (by walk_at "bd")
 have F_24:=bC (st:=dZ) l_24 c_24 k_24
 have b_24:=F_24.binds (ps:=["text", "place"]) (by walk_at "bd")
 have F_25:=bC (st:=eV) l_25 c_25 k_25
 have b_25:=F_25.binds (ps:=["flags"]) (by walk_at "bd")
 have F_26:=bC (st:=fO) l_26 c_26 k_26
 have b_26:=F_26.binds (ps:=["flags"]) (by walk_at "bd")
 have F_27:=bC (st:=cT) l_27 c_27 k_27
 have b_27:=F_27.binds (ps:=["halyards", "word", "lowered"]) (by walk_at "bd")
 have F_28:=bC (st:=eG) l_28 c_28 k_28
 have b_28:=F_28.binds (ps:=["locker", "halyards", "number", "word"]) (by walk_at "bd")
 have F_29:=bC (st:=dF) l_29 c_29 k_29
 have b_29:=F_29.binds (ps:=["self", "flag"]) (by walk_at "bd")
 have F_30:=bC (st:=kB) l_30 c_30 k_30
 have b_30:=F_30.binds (ps:=["locker", "flags"]) (by walk_at "bd")
 have F_31:=bC (st:=hU) l_31 c_31 k_31
 have b_31:=F_31.binds (ps:=["locker", "halyards", "number", "word"]) (by walk_at "bd")
 have F_32:=bC (st:=gX) l_32 c_32 k_32
 have b_32:=F_32.binds (ps:=["_law_hoist"]) (by walk_at "bd")
 have F_33:=bC (st:=fA) l_33 c_33 k_33
 have b_33:=F_33.binds (ps:=["_law_halyards", "_law_word_here", "_law_numbers"]) (by walk_at "bd")
 have F_34:=bC (st:=gQ) l_34 c_34 k_34
 have b_34:=F_34.binds (ps:=["_law_state", "_law_number", "_law_word_here"]) (by walk_at "bd")
 have F_35:=bC (st:=fS) l_35 c_35 k_35
 have b_35:=F_35.binds (ps:=["_law_halyards", "_law_words_here"]) (by walk_at "bd")
 have F_36:=bC (st:=jM) l_36 c_36 k_36
 have b_36:=F_36.binds (ps:=["_law_locker_here", "_law_halyards"]) (by walk_at "bd")
 have F_37:=bC (st:=gO) l_37 c_37 k_37
 have b_37:=F_37.binds (ps:=["_law_cell_here", "_law_base"]) (by walk_at "bd")
 have F_38:=bC (st:=lR) l_38 c_38 k_38
 refine ⟨PySem.W.fnOf "law" "law" (aS lR) (aR lR) (aG lR) .none kV_38 dc_38 pm_38 an_38 cd_38 ct_38,fun s v => .of_eq rfl,fun base _ _ => ?_⟩
 have mk:∀ {k:Nat} {x:Str} {ps:List Str} {sp:Sp} {f:Addr} {fd:FuncData},FnOk l.prog w K mg base CX0 k f fd ps sp → mg x = some (.ref f) → PySem.W.keepIn K (.ref f) = true → Binds K fd ps [] → Cal l.prog w K mg base k x ps sp:=fun a b c d => ⟨_,_,a,b,c,d⟩
 have mkX:∀ {k:Nat} {x:Str} {ps:List Str} {sp:Sp} {f:Addr} {fd:FuncData},FnOk l.prog w K mg base (CXr l.prog w) k f fd ps sp → mg x = some (.ref f) → PySem.W.keepIn K (.ref f) = true → Binds K fd ps [] → tV l.prog w K mg base k x ps sp:=fun a b c d => ⟨_,_,a,b,c,d⟩
 have c_l_stream:=mk (vX F_0 G ) (M a_0) k_0 b_0
 have c_l_locker:=mk (wA F_1 G c_l_stream) (M a_1) k_1 b_1
 have c_l_plain:=mk (xT F_2 G ) (M a_2) k_2 b_2
 have c_l_cell:=mk (aXA F_3 G ) (M a_3) k_3 b_3
 have c_l_pool:=mk (aQ6 F_4 G ) (M a_4) k_4 b_4
 have c_l_others:=mk (xB F_5 G ) (M a_5) k_5 b_5
 have c_l_choices:=mk (uI F_6 G ) (M a_6) k_6 b_6
 have c_l_are_short:=mk (oN F_7 G c_l_choices) (M a_7) k_7 b_7
 have c_plain_locker:=mk (nR F_8 G ) (M a_8) k_8 b_8
 have c_put_in:=mk (aX5 F_9 G c_plain_locker) (M a_9) k_9 b_9
 have c_rising_lists:Cal l.prog w K mg base 9 "rising_lists" ["numbers", "many"] (cJ 8):=⟨f_10,_,bZC cJ mT (M a_10) k_10 b_10 (fun d n c => nP F_10 G c) 8,M a_10,k_10,b_10⟩
 have c_sets_of:=mk (yD F_11 G c_rising_lists) (M a_11) k_11 b_11
 have c_Lack_init:xM l.prog w K mg base 1 Zw ["self", "wants", "flags"] (fK Zw):=⟨f_12,_,sZ F_12 G ,a_12,y_12,b_12⟩
 have c_others_hung:=mk (pL F_13 G ) (M a_13) k_13 b_13
 have c_wants_of:=mk (vJ F_14 G ) (M a_14) k_14 b_14
 have c_choices_at:=mk (qC F_15 G ) (M a_15) k_15 b_15
 have c_choices_of:=mk (pZ F_16 G c_wants_of c_choices_at) (M a_16) k_16 b_16
 have c_hoists_of:=mk (tE F_17 G ) (M a_17) k_17 b_17
 have c_asked_from:=mk (qA F_18 G ) (M a_18) k_18 b_18
 have c_hang_along:=mk (qO F_19 G ) (M a_19) k_19 b_19
 have c_hang_all:=mkX (uQ F_20 G c_choices_of c_plain_locker c_hoists_of c_asked_from c_hang_along c_Lack_init) (M a_20) k_20 b_20
 have c_lack_of:=mk (zC F_21 G c_hang_all) (M a_21) k_21 b_21
 have c_flags_on:=mk (vE F_22 G ) (M a_22) k_22 b_22
 have c_is_flag:=mk (xG F_23 G ) (M a_23) k_23 b_23
 have c_may_stand:=mk (tW F_24 G c_is_flag) (M a_24) k_24 b_24
 have c_is_hoist:=mk (vQ F_25 G c_may_stand) (M a_25) k_25 b_25
 have c_read_of:=mkX (xZ F_26 G c_is_hoist) (M a_26) k_26 b_26
 have c_words_with:=mk (qL F_27 G c_read_of) (M a_27) k_27 b_27
 have c_least_set:=mkX (uA F_28 G c_sets_of c_Lack_init c_others_hung c_put_in c_lack_of c_flags_on c_words_with) (M a_28) k_28 b_28
 have c_Short_init:xM l.prog w K mg base 1 Zx ["self", "flag"] (gH Zx):=⟨f_29,_,qD F_29 G ,a_29,y_29,b_29⟩
 have c_taken:=mkX (bQI F_30 G c_plain_locker c_Short_init) (M a_30) k_30 b_30
 have c_hauled:=mkX (aX7 F_31 G c_put_in c_least_set c_flags_on c_hang_all c_taken c_words_with) (M a_31) k_31 b_31
 have c_l_read:=mk (aXX F_32 G ) (M a_32) k_32 b_32
 have c_l_words:=mk (yX F_33 G c_l_read) (M a_33) k_33 b_33
 have c_l_step:=mk (aX6 F_34 G c_l_others c_l_pool c_l_are_short c_hauled c_l_words) (M a_34) k_34 b_34
 have c_l_reads:=mk (xH F_35 G c_l_choices) (M a_35) k_35 b_35
 have c_l_all:=mk (bQZ F_36 G c_l_plain c_l_pool) (M a_36) k_36 b_36
 have c_l_word:=mk (aXK F_37 G c_l_stream) (M a_37) k_37 b_37
 exact cJ3 F_38 G c_l_locker c_l_plain c_l_cell c_l_pool c_l_step c_l_reads c_l_all c_l_word
theorem walk {l:PySem.W.OpenLaw} {q:Program} {loose:List Str} {XP:(Str → Option Value) → Heap → Prop} {YP:World → Heap → Prop} {d:DefRec} {K:Params → PySem.W.Frag} (hn:l.most = some 63) (hdf:d.params.defaults = [])
   (hY:∀ (w:World) (h:Heap),YP w h → (K w.params).In h)
   (F:∀ (w:World) (mg:Str → Option Value) (fa:Addr) (h:Heap),(K w.params).In h → h.Ns mainGlobals mg → mg d.name = some (.ref fa) →
     ∃ fd:FuncData,(∀ (s:Shared) (u:Value),BindsTo s fd ⟨[u],[]⟩ [("_law_script",u)]) ∧ ∀ base:Heap,(K w.params).In base → base.Ns mainGlobals mg → FnOk l.prog w (K w.params) mg base CX0 14 fa fd ["_law_script"] (sY (K w.params))) :
   PySem.W.WalkO q loose XP YP l.row.toRowW d [] (fun f vs => PySem.call f vs) :=
 L2.bZQ (n:=63) (k:=14) (x := "_law_script") (CX:=fun _ => CX0) (sp:=fun w => sY (K w.params)) hn (by decide) hdf ⟨rfl,by decide,by decide⟩ hY F (fun _ _ a ns hl _ hS => ⟨a,ns,rfl,hS,hl,fun _ => rfl⟩) fun _ _ _ _ _ z => z
end Mine
namespace PySem.W.Fast
theorem tw15820959024020833128:True:=⟨⟩
theorem tw13298157760487107019:True:=⟨⟩
theorem tw2514567550845961533:True:=⟨⟩
theorem tw9843044104081513521:True:=⟨⟩
theorem tw10551883724626492421:True:=⟨⟩
theorem tw6836411084789867677:True:=⟨⟩
theorem tw9713544317371346961:True:=⟨⟩
theorem tw2108204899276476513:True:=⟨⟩
theorem tw13913882642412164993:True:=⟨⟩
theorem tw16792141836642397294:True:=⟨⟩
theorem tw7139053730145169784:True:=⟨⟩
theorem tw8278794778836608551:True:=⟨⟩
theorem tw15780960543758941153:True:=⟨⟩
theorem tw13780372765319666788:True:=⟨⟩
theorem tw582170323340263071:True:=⟨⟩
theorem tw3557635819578354768:True:=⟨⟩
theorem tw12128192347145045981:True:=⟨⟩
theorem tw6748757281505501749:True:=⟨⟩
theorem tw6819536709144583620:True:=⟨⟩
theorem tw5686090704095961103:True:=⟨⟩
theorem tw8900718294471832209:True:=⟨⟩
theorem tw6364500920451369064:True:=⟨⟩
theorem tw4440434521578301649:True:=⟨⟩
theorem tw10517890692028300392:True:=⟨⟩
theorem tw13037765240843147802:True:=⟨⟩
theorem tw6613592421367345077:True:=⟨⟩
theorem tw3293504387481180718:True:=⟨⟩
theorem tw4837374558607055548:True:=⟨⟩
theorem tw1957063340459591292:True:=⟨⟩
theorem tw18204972086211503711:True:=⟨⟩
theorem tw6820459443056858751:True:=⟨⟩
theorem tw182873903273278239:True:=⟨⟩
theorem tw3076351853648395123:True:=⟨⟩
theorem tw11126312581398213604:True:=⟨⟩
theorem tw4730357394865275497:True:=⟨⟩
theorem tw4490942973326481260:True:=⟨⟩
theorem tw864283047947402751:True:=⟨⟩
theorem tw14994175449299823486:True:=⟨⟩
theorem tw2601126464385039374:True:=⟨⟩
theorem tw11885778869750837122:True:=⟨⟩
theorem tw6077515391049193605:True:=⟨⟩
theorem tw9511065089078880905:True:=⟨⟩
theorem tw1490396112610773986:True:=⟨⟩
theorem tw8329274220391281143:True:=⟨⟩
theorem tw4561387117490289020:True:=⟨⟩
theorem tw4494763634265067745:True:=⟨⟩
theorem tw8596102841479583090:True:=⟨⟩
theorem tw12031581064189789931:True:=⟨⟩
theorem tw1590500350013535210:True:=⟨⟩
theorem tw10915181270663330862:True:=⟨⟩
theorem tw14342805151475381756:True:=⟨⟩
theorem tw4620693160933700352:True:=⟨⟩
theorem tw13510535044490041040:True:=⟨⟩
theorem tw17820839334866026283:True:=⟨⟩
theorem tw8815207511332608610:True:=⟨⟩
theorem tw11480337321255792918:True:=⟨⟩
theorem tw11557168395273967559:True:=⟨⟩
theorem tw11217456491699016586:True:=⟨⟩
theorem tw3614455495001153992:True:=⟨⟩
theorem tw2313795469369911697:True:=⟨⟩
theorem tw17875950186072663602:True:=⟨⟩
theorem tw16498589194147907083:True:=⟨⟩
theorem tw15990583701948808840:True:=⟨⟩
theorem tw16045635889669022669:True:=⟨⟩
theorem tw10307658068669557050:True:=⟨⟩
theorem tw5247756063015349661:True:=⟨⟩
theorem tw2382363958805573524:True:=⟨⟩
theorem tw7586082614371321973:True:=⟨⟩
theorem tw122418673563183943:True:=⟨⟩
theorem tw12995394510475634303:True:=⟨⟩
theorem tw4157532294777895957:True:=⟨⟩
theorem tw8092017268205026689:True:=⟨⟩
theorem tw11778631334104608036:True:=⟨⟩
theorem tw3392907624135053769:True:=⟨⟩
theorem tw10676372844573881731:True:=⟨⟩
theorem tw8101568742377540279:True:=⟨⟩
theorem tw4871425050756412630:True:=⟨⟩
theorem tw13391528859660321140:True:=⟨⟩
theorem tw7350297339931876563:True:=⟨⟩
theorem tw11074597966035403997:True:=⟨⟩
theorem tw12206439942293329833:True:=⟨⟩
theorem tw9707975057440945512:True:=⟨⟩
theorem tw2530347485283746836:True:=⟨⟩
theorem tw10577601304952452278:True:=⟨⟩
theorem tw11512674407512760255:True:=⟨⟩
theorem tw13737085590402948047:True:=⟨⟩
theorem tw1168012075091446875:True:=⟨⟩
theorem tw8739909014805790348:True:=⟨⟩
theorem tw7233765582764769957:True:=⟨⟩
theorem tw14363762612218146465:True:=⟨⟩
theorem tw17890320707973808822:True:=⟨⟩
theorem tw14844294723420141512:True:=⟨⟩
theorem tw9048890396709797480:True:=⟨⟩
theorem tw4157662939521194417:True:=⟨⟩
theorem tw2293307129299019071:True:=⟨⟩
theorem tw4937813810144414378:True:=⟨⟩
theorem tw9643555667746729075:True:=⟨⟩
theorem tw8255371318955147743:True:=⟨⟩
theorem tw5491297496274104592:True:=⟨⟩
theorem tw15044573110148588908:True:=⟨⟩
theorem tw5922056204452097237:True:=⟨⟩
theorem tw14411936714287740133:True:=⟨⟩
theorem tw8656073711465389533:True:=⟨⟩
theorem tw6129249703020419742:True:=⟨⟩
theorem tw17033541648691334663:True:=⟨⟩
theorem tw1600339370293713006:True:=⟨⟩
theorem tw9467599612352664330:True:=⟨⟩
theorem tw2530919050526902263:True:=⟨⟩
theorem tw1049820172151643247:True:=⟨⟩
theorem tw6543819048835774978:True:=⟨⟩
theorem tw2673444488898604542:True:=⟨⟩
theorem tw17005168902787605087:True:=⟨⟩
theorem tw126037464923337985:True:=⟨⟩
theorem tw3648496856623362169:True:=⟨⟩
theorem tw14355316642493689767:True:=⟨⟩
theorem tw18340384636690108420:True:=⟨⟩
theorem tw12150098826680283272:True:=⟨⟩
theorem tw728869226489045356:True:=⟨⟩
theorem tw11566439786119296498:True:=⟨⟩
theorem tw6967036059573578620:True:=⟨⟩
theorem tw18224611420460261090:True:=⟨⟩
theorem tw12359403112458120307:True:=⟨⟩
theorem tw17623992479458370965:True:=⟨⟩
theorem tw10816383952203086158:True:=⟨⟩
theorem tw3871074994410930130:True:=⟨⟩
theorem tw9304883686404148753:True:=⟨⟩
theorem tw14691622409836014876:True:=⟨⟩
theorem tw9905089215842314709:True:=⟨⟩
theorem tw17327404459160086068:True:=⟨⟩
theorem tw434568729675118545:True:=⟨⟩
theorem tw1431759427767133268:True:=⟨⟩
theorem tw151874900995884054:True:=⟨⟩
theorem tw15697679032109370652:True:=⟨⟩
theorem tw14961413677086485311:True:=⟨⟩
theorem tw17643656097655913895:True:=⟨⟩
theorem tw1475017663113777788:True:=⟨⟩
theorem tw7062731012875159447:True:=⟨⟩
theorem tw12024388769712383783:True:=⟨⟩
theorem tw5994247229548540626:True:=⟨⟩
theorem tw13579453367798499545:True:=⟨⟩
theorem tw1001066858296695160:True:=⟨⟩
theorem tw2278836467871382991:True:=⟨⟩
theorem tw11001484993731218949:True:=⟨⟩
theorem tw15393548512319732261:True:=⟨⟩
theorem tw16619641285563428038:True:=⟨⟩
theorem tw12974313900652477916:True:=⟨⟩
theorem tw4301466106617740579:True:=⟨⟩
theorem tw16245821168236866149:True:=⟨⟩
theorem tw17592935795309930192:True:=⟨⟩
theorem tw16869615529561112468:True:=⟨⟩
theorem tw13425546588532325076:True:=⟨⟩
theorem tw2854464846020940596:True:=⟨⟩
theorem tw3135700500637408546:True:=⟨⟩
theorem tw15943570448992445321:True:=⟨⟩
theorem tw12048635630251000826:True:=⟨⟩
theorem tw8275593985124897612:True:=⟨⟩
theorem tw14163971416592745628:True:=⟨⟩
theorem tw11867769244548366345:True:=⟨⟩
theorem tw3813110900933528466:True:=⟨⟩
theorem tw10947645039941224679:True:=⟨⟩
theorem tw16200218130948069474:True:=⟨⟩
theorem tw6852264950833452328:True:=⟨⟩
theorem tw1202435643402900080:True:=⟨⟩
theorem tw313028071622127074:True:=⟨⟩
theorem tw10062008086552824151:True:=⟨⟩
theorem tw3052907275673311765:True:=⟨⟩
theorem tw5052267994083101213:True:=⟨⟩
theorem tw15235872787438898035:True:=⟨⟩
theorem tw9451556275997555751:True:=⟨⟩
theorem tw2593363538459107905:True:=⟨⟩
theorem tw5101093599179752069:True:=⟨⟩
theorem tw5371994229607870568:True:=⟨⟩
theorem tw5795550274801278629:True:=⟨⟩
theorem tw14689418773004505262:True:=⟨⟩
theorem tw5405898003519063893:True:=⟨⟩
theorem tw4768554124033319422:True:=⟨⟩
theorem tw12751160885458911875:True:=⟨⟩
theorem tw3124613355624408999:True:=⟨⟩
theorem tw11142122490104640155:True:=⟨⟩
theorem tw7852143097073559800:True:=⟨⟩
theorem tw3563886239704777762:True:=⟨⟩
theorem tw11565549498565353510:True:=⟨⟩
theorem tw5504088980831862242:True:=⟨⟩
theorem tw17303243075124802821:True:=⟨⟩
theorem tw11358643260668522346:True:=⟨⟩
theorem tw1884301670712007364:True:=⟨⟩
theorem tw8323493696254006878:True:=⟨⟩
theorem tw9240566949605955053:True:=⟨⟩
theorem tw11372766597888813802:True:=⟨⟩
theorem tw11961138860046580357:True:=⟨⟩
theorem tw10874493812222613875:True:=⟨⟩
theorem tw1319884431700829141:True:=⟨⟩
theorem tw17577247287613475642:True:=⟨⟩
theorem tw665203261397838545:True:=⟨⟩
theorem tw18430093022785760230:True:=⟨⟩
theorem tw8676843435889051156:True:=⟨⟩
theorem tw5271767582964851404:True:=⟨⟩
theorem tw7745308912566297447:True:=⟨⟩
theorem tw937736466453194313:True:=⟨⟩
theorem tw3990143514403130828:True:=⟨⟩
theorem tw9009043286599971240:True:=⟨⟩
theorem tw5880569732788045563:True:=⟨⟩
theorem tw3932545797037264925:True:=⟨⟩
theorem tw8678830459265193963:True:=⟨⟩
theorem tw18320870910459524536:True:=⟨⟩
theorem tw6850478455337123093:True:=⟨⟩
theorem tw14782382701325752177:True:=⟨⟩
theorem tw4099497854586008914:True:=⟨⟩
theorem tw8163612598920996365:True:=⟨⟩
theorem tw8105096098771748237:True:=⟨⟩
theorem tw7928192176573170816:True:=⟨⟩
theorem tw2882153128063972125:True:=⟨⟩
theorem tw2382617885711543300:True:=⟨⟩
theorem tw6139918571034071646:True:=⟨⟩
theorem tw3448114290454460302:True:=⟨⟩
theorem tw12133727767173414697:True:=⟨⟩
theorem tw5931533612301742590:True:=⟨⟩
theorem tw8261466585236995171:True:=⟨⟩
theorem tw4713065262088538196:True:=⟨⟩
theorem tw10616905026618395581:True:=⟨⟩
theorem tw12990684703461325321:True:=⟨⟩
theorem tw6328387112429154562:True:=⟨⟩
theorem tw18271014684621868875:True:=⟨⟩
theorem tw4261081481805395590:True:=⟨⟩
theorem tw8150718586878426835:True:=⟨⟩
theorem tw13707538535341292093:True:=⟨⟩
theorem tw15630254279419268338:True:=⟨⟩
theorem tw11185167460662794761:True:=⟨⟩
theorem tw18195642570218771046:True:=⟨⟩
theorem tw186954902319247949:True:=⟨⟩
theorem tw6851519100394971644:True:=⟨⟩
theorem tw3087933355597490503:True:=⟨⟩
theorem tw296421069289892444:True:=⟨⟩
theorem tw6347586300171722183:True:=⟨⟩
theorem tw11174626547054121101:True:=⟨⟩
theorem tw4852522487240875311:True:=⟨⟩
theorem tw5766573034773795372:True:=⟨⟩
theorem tw17036972033426663566:True:=⟨⟩
theorem tw7993181957557136960:True:=⟨⟩
theorem tw3281174909734173346:True:=⟨⟩
theorem tw11215590052261724423:True:=⟨⟩
theorem tw1892399792690645379:True:=⟨⟩
theorem tw7941591831937310382:True:=⟨⟩
theorem tw10720994329994236535:True:=⟨⟩
theorem tw6357310748979822075:True:=⟨⟩
theorem tw18228262448866727516:True:=⟨⟩
theorem tw9880783289845428109:True:=⟨⟩
theorem tw2313151794577732350:True:=⟨⟩
theorem tw10541881749304794232:True:=⟨⟩
theorem tw15167022360838016081:True:=⟨⟩
theorem tw2720939135692017383:True:=⟨⟩
theorem tw8647190418239124982:True:=⟨⟩
theorem tw16192395111466281405:True:=⟨⟩
theorem tw15072848046645483042:True:=⟨⟩
theorem tw12151754326782916987:True:=⟨⟩
theorem tw17172039933219337014:True:=⟨⟩
theorem tw16901184309587490139:True:=⟨⟩
theorem tw980101411117072862:True:=⟨⟩
theorem tw16006662664801849924:True:=⟨⟩
theorem tw835411608454536098:True:=⟨⟩
theorem tw10213455016182799656:True:=⟨⟩
theorem tw3647557796971480452:True:=⟨⟩
theorem tw8631542440806890420:True:=⟨⟩
theorem tw6290025656857770884:True:=⟨⟩
theorem tw12103743429055923150:True:=⟨⟩
theorem tw2626231615763448924:True:=⟨⟩
theorem tw13018459504785485273:True:=⟨⟩
theorem tw14154239759966419067:True:=⟨⟩
theorem tw10227141399521252485:True:=⟨⟩
theorem tw10696050153822896910:True:=⟨⟩
theorem tw200594381933249965:True:=⟨⟩
theorem tw12957733701864931158:True:=⟨⟩
theorem tw12590126970422957969:True:=⟨⟩
theorem tw8074169944235985384:True:=⟨⟩
theorem tw1137605819199144441:True:=⟨⟩
theorem tw14413402168479677338:True:=⟨⟩
theorem tw8301447475687122097:True:=⟨⟩
theorem tw12719289442402564602:True:=⟨⟩
theorem tw6913058702075772508:True:=⟨⟩
theorem tw17869951143553392669:True:=⟨⟩
theorem tw6275291449358082730:True:=⟨⟩
theorem tw7115785148473413493:True:=⟨⟩
theorem tw11231921946831442202:True:=⟨⟩
theorem tw9594647625005380247:True:=⟨⟩
theorem tw16764049308592622915:True:=⟨⟩
theorem tw10048836386838578049:True:=⟨⟩
theorem tw14568039771516470760:True:=⟨⟩
theorem tw17870711369478064528:True:=⟨⟩
theorem tw2946533472363688178:True:=⟨⟩
theorem tw8669054858505657284:True:=⟨⟩
theorem tw6724118857431035932:True:=⟨⟩
theorem tw3344734092960320845:True:=⟨⟩
theorem tw7899258549928393087:True:=⟨⟩
theorem tw17823440039434873793:True:=⟨⟩
theorem tw6177015560170038620:True:=⟨⟩
theorem tw267608697185272769:True:=⟨⟩
end PySem.W.Fast
open PySem PySem.W PyProof.Rows
set_option maxRecDepth 100000 in
set_option maxHeartbeats 0 in
theorem PySem.Challenge.cw_flaglocker_k31_whole_many_hauls_holds : PySem.Challenge.rw_flaglocker_k31_whole_many_hauls.Holds := by
  w_on; o_law; k_head; (case hw => w_witness2)
  k_fill
  refine Mine.walk (l:=PySem.Challenge.rw_flaglocker_k31_whole_many_hauls) rfl rfl (fun w h Y => PySem.W.kIn_of Y) ?F
  case F =>
    intro w mg fa h KX G hmg
    refine' Mine.all_mk KX G hmg ?a_0 ?l_0 ?c_0 ?k_0 ?a_1 ?l_1 ?c_1 ?k_1 ?a_2 ?l_2 ?c_2 ?k_2 ?a_3 ?l_3 ?c_3 ?k_3 ?a_4 ?l_4 ?c_4 ?k_4 ?a_5 ?l_5 ?c_5 ?k_5 ?a_6 ?l_6 ?c_6 ?k_6 ?a_7 ?l_7 ?c_7 ?k_7 ?a_8 ?l_8 ?c_8 ?k_8 ?a_9 ?l_9 ?c_9 ?k_9 ?a_10 ?l_10 ?c_10 ?k_10 ?a_11 ?l_11 ?c_11 ?k_11 ?y_12 ?a_12 ?l_12 ?c_12 ?k_12 ?a_13 ?l_13 ?c_13 ?k_13 ?a_14 ?l_14 ?c_14 ?k_14 ?a_15 ?l_15 ?c_15 ?k_15 ?a_16 ?l_16 ?c_16 ?k_16 ?a_17 ?l_17 ?c_17 ?k_17 ?a_18 ?l_18 ?c_18 ?k_18 ?a_19 ?l_19 ?c_19 ?k_19 ?a_20 ?l_20 ?c_20 ?k_20 ?a_21 ?l_21 ?c_21 ?k_21 ?a_22 ?l_22 ?c_22 ?k_22 ?a_23 ?l_23 ?c_23 ?k_23 ?a_24 ?l_24 ?c_24 ?k_24 ?a_25 ?l_25 ?c_25 ?k_25 ?a_26 ?l_26 ?c_26 ?k_26 ?a_27 ?l_27 ?c_27 ?k_27 ?a_28 ?l_28 ?c_28 ?k_28 ?y_29 ?a_29 ?l_29 ?c_29 ?k_29 ?a_30 ?l_30 ?c_30 ?k_30 ?a_31 ?l_31 ?c_31 ?k_31 ?a_32 ?l_32 ?c_32 ?k_32 ?a_33 ?l_33 ?c_33 ?k_33 ?a_34 ?l_34 ?c_34 ?k_34 ?a_35 ?l_35 ?c_35 ?k_35 ?a_36 ?l_36 ?c_36 ?k_36 ?a_37 ?l_37 ?c_37 ?k_37 ?a_38 ?l_38 ?c_38 ?k_38 ?z_range ?z_len ?z_dict ?z_min ?z_sum ?z_set ?z_enumerate ?z_list ?z_int ?z_all ?z_zip ?g_FLAGS ?g_SUBSTITUTES ?g_MOST_PLACES ?q_Lack ?q_TowerError ?q_Short ?q_NoHoist ?f_m_Lack ?f_x_NoHoist ?f_m_Short ?f_t1_TowerError ?f_t2_TowerError ?f_t3_TowerError ?f_xo_Lack ?f_xk_Lack ?f_xe1_Lack ?f_xe2_Lack ?f_xe3_Lack ?f_xe4_Lack ?f_xe5_Lack ?f_xe6_Lack ?f_xe7_Lack ?f_xe8_Lack ?f_xs_Lack ?f_xr_Lack ?f_xv_Lack ?f_xn_Lack_wants ?f_xn_Lack_flags ?f_xo_Short ?f_xk_Short ?f_xe1_Short ?f_xe2_Short ?f_xe3_Short ?f_xe4_Short ?f_xe5_Short ?f_xe6_Short ?f_xe7_Short ?f_xe8_Short ?f_xs_Short ?f_xr_Short ?f_xv_Short ?f_xn_Short_flag
    (case q_Lack | q_TowerError | q_Short | q_NoHoist | a_0 | l_0 | c_0 | k_0 | a_1 | l_1 | c_1 | k_1 | a_2 | l_2 | c_2 | k_2 | a_3 | l_3 | c_3 | k_3 | a_4 | l_4 | c_4 | k_4 | a_5 | l_5 | c_5 | k_5 | a_6 | l_6 | c_6 | k_6 | a_7 | l_7 | c_7 | k_7 | a_8 | l_8 | c_8 | k_8 => k_is)
    (case a_9 | l_9 | c_9 | k_9 | a_10 | l_10 | c_10 | k_10 | a_11 | l_11 | c_11 | k_11 | a_12 | l_12 | c_12 | k_12 | a_13 | l_13 | c_13 | k_13 | a_14 | l_14 | c_14 | k_14 | a_15 | l_15 | c_15 | k_15 | a_16 | l_16 | c_16 | k_16 | a_17 | l_17 | c_17 | k_17 | a_18 | l_18 | c_18 | k_18 => k_is)
    (case a_19 | l_19 | c_19 | k_19 | a_20 | l_20 | c_20 | k_20 | a_21 | l_21 | c_21 | k_21 | a_22 | l_22 | c_22 | k_22 | a_23 | l_23 | c_23 | k_23 | a_24 | l_24 | c_24 | k_24 | a_25 | l_25 | c_25 | k_25 | a_26 | l_26 | c_26 | k_26 | a_27 | l_27 | c_27 | k_27 | a_28 | l_28 | c_28 | k_28 => k_is)
    (case a_29 | l_29 | c_29 | k_29 | a_30 | l_30 | c_30 | k_30 | a_31 | l_31 | c_31 | k_31 | a_32 | l_32 | c_32 | k_32 | a_33 | l_33 | c_33 | k_33 | a_34 | l_34 | c_34 | k_34 | a_35 | l_35 | c_35 | k_35 | a_36 | l_36 | c_36 | k_36 | a_37 | l_37 | c_37 | k_37 | a_38 | l_38 | c_38 | k_38 => k_is)
    (case z_range | z_len | z_dict | z_min | z_sum | z_set | z_enumerate | z_list | z_int | z_all | z_zip | g_FLAGS | g_SUBSTITUTES | g_MOST_PLACES => k_is)
    (case f_m_Lack => kts_exm)
    (case f_x_NoHoist => k_exc)
    (case f_m_Short => kts_exm)
    (case f_t1_TowerError | f_t2_TowerError | f_t3_TowerError => k_is)
    (case f_xo_Lack => kernel_rfl!)
    (case f_xk_Lack | f_xe1_Lack | f_xe2_Lack | f_xe3_Lack | f_xe4_Lack | f_xe5_Lack | f_xe6_Lack | f_xe7_Lack | f_xe8_Lack | f_xs_Lack => k_is)
    (case f_xr_Lack => kernel_rfl!)
    (case f_xv_Lack | f_xn_Lack_wants | f_xn_Lack_flags => k_is)
    (case f_xo_Short => kernel_rfl!)
    (case f_xk_Short | f_xe1_Short | f_xe2_Short | f_xe3_Short | f_xe4_Short | f_xe5_Short | f_xe6_Short | f_xe7_Short | f_xe8_Short | f_xs_Short => k_is)
    (case f_xr_Short => kernel_rfl!)
    (case f_xv_Short | f_xn_Short_flag | y_12 | y_29 => k_is)
