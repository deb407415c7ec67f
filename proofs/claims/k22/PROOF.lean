import PyProof.Rows.All
import Wide.All
import OpenK.AllK
import Wide.FinOn
import Lean
import PyProof.EqAt
import PyProof.EqKinds
import PyProof.TupleCall
import PySem.Challenge.RW_flaglocker_k22_papers_that_no_more_can
set_option Elab.async false
set_option compiler.extract_closed false
set_option linter.all false
set_option maxRecDepth 100000
abbrev Aa:=@List.getElem?_eq_getElem
abbrev Ab:=@List.length_map
abbrev Ac:=@PySem.wpAny_bind
abbrev Ad:=@List.getElem?_eq_some_iff
abbrev Ae:=@PySem.Heap.get?_push_of_some
abbrev Af:=@List.getD_eq_getElem?_getD
abbrev Ag:=@List.getElem?_map
abbrev Ah:=@PySem.wpAny_pure
abbrev Ai:=@Nat.le_refl
abbrev Aj:=@List.map_append
abbrev Ak:=@List.mem_of_getElem?
abbrev Al:=@List.mem_cons_of_mem
abbrev Am:=@List.length_append
abbrev An:=@PySem.Heap.lt_size
abbrev Ao:=@Bool.false_ne_true
abbrev Ap:=@decide_eq_true
abbrev Aq:=@List.mem_cons_self
abbrev Ar:=@PySem.Heap.get?_push_size
abbrev As:=@List.mem_singleton
abbrev Au:=@PySem.wpAny_loadPart'
abbrev Av:=@decide_eq_false
abbrev Aw:=@List.map_cons
abbrev Ax:=@Nat.le_trans
abbrev Ay:=@List.getElem?_append_left
abbrev Az:=@Nat.lt_of_lt_of_le
abbrev Ba:=@List.mem_map
abbrev Bb:=@List.take_add_one
abbrev Bc:=@PySem.PassesOwn.never
abbrev Bd:=@Nat.ne_of_lt
abbrev Be:=@List.size_toArray
abbrev Bf:=@List.getElem?_append_right
abbrev Bg:=@List.mem_cons
abbrev Bh:=@decide_eq_true_iff
abbrev Bi:=@Option.some.inj
abbrev Bj:=@List.length_range
abbrev Bk:=@List.mem_append
abbrev Bl:=@List.length_take
abbrev Bm:=@List.mem_append_right
abbrev Bn:=@List.length_cons
abbrev Bo:=@List.take_length
abbrev Bp:=@PySem.F.plainAttrs_list
abbrev Bq:=@List.nodup_cons
abbrev Br:=@PySem.Heap.get?_update_other
abbrev Bs:=@PySem.F.slot_dict_get
abbrev Bt:=@Array.length_toList
abbrev Bu:=@PySem.wpAny_holding
abbrev Bv:=@PySem.wpAny_mono
abbrev Bw:=@List.append_nil
abbrev Bx:=@List.getElem_mem
abbrev By:=@Nat.zero_le
abbrev Bz:=@List.mem_range
abbrev Ca:=@List.mem_iff_getElem
abbrev Cb:=@of_decide_eq_true
abbrev Cc:=@Array.getElem?_toList
abbrev Cd:=@List.map_congr_left
abbrev Ce:=@List.map_map
abbrev Cf:=@List.length_drop
abbrev Cg:=@Bool.and_eq_true
abbrev Ci:=@List.all_eq_true
abbrev Cj:=@Array.getElem?_eq_some_iff
abbrev Ck:=@List.range_succ
abbrev Cm:=@List.filterMap_append
abbrev Co:=@PyProof.Rows.callWith_type1
abbrev Cp:=@congrArg
abbrev Cq:=@PySem.W.kia_one
abbrev Cr:=@PySem.mem_of_lookup
abbrev Cs:=@List.mem_filter
abbrev Ct:=@List.mem_append_left
abbrev Cu:=@PySem.wpAny_call_entry
abbrev Cv:=@PySem.Around.under_plainId
abbrev Cw:=@List.countP_cons
abbrev Cy:=@List.sum_cons
abbrev Cz:=@Nat.le_of_lt
abbrev Da:=@PySem.wpAny_newObj_type
abbrev Dc:=@Int.toNat_natCast
abbrev Dd:=@beq_eq_false_iff_ne
abbrev De:=@List.filterMap_cons
abbrev Df:=@PySem.wpAny_field
abbrev Dg:=@Int.emod_nonneg
abbrev Dh:=@List.drop_eq_getElem_cons
abbrev Di:=@PySem.F.type_dict_get
abbrev Dj:=@List.lookup_cons
abbrev Dm:=@Int.emod_lt_of_pos
abbrev Dn:=@Nat.lt_irrefl
abbrev Do:=@List.length_filterMap_le
abbrev Dp:=@PySem.wpAny_typeNameOfWhole_keyiter
abbrev Dq:=@Bool.eq_false_iff
abbrev Dr:=@List.flatMap_cons
abbrev Ds:=@Option.map_some
abbrev Dt:=@PySem.codeAny_builtin
abbrev Du:=@PySem.F.slot_dict_keyiterator_next
abbrev Dv:=@PySem.wpAny_richCompare_same_room
abbrev Dw:=@List.take_of_length_le
abbrev Dx:=@decide_eq_decide
abbrev Dy:=@List.mem_filterMap
abbrev Dz:=@Nat.lt_of_le_of_lt
abbrev Ea:=@PySem.tupleKind_room_in1
abbrev Eb:=@List.filterMap_nil
abbrev Ec:=@of_decide_eq_false
abbrev Ed:=@PySem.wpAny_passesOwn
abbrev Ee:=@List.nodup_append
abbrev Ef:=@Option.isSome_iff_exists
abbrev Eg:=@PySem.F.slot_list_append
abbrev Eh:=@PySem.F.type_list_append
abbrev Ei:=@PySem.wpAny_getItem_str_slice
abbrev Ej:=@List.filter_cons
abbrev Ek:=@PySem.wpAny_Call_Name_kw
abbrev El:=@PySem.call_meetsIn
abbrev Em:=@PySem.F.entry_dict_get
abbrev En:=@List.filter_append
abbrev Eo:=@Bool.false_or
abbrev Ep:=@PySem.plainId_quiet
abbrev Er:=@List.getElem?_eq_none
abbrev Et:=@List.getElem?_zipWith
abbrev Eu:=@PySem.wpAny_truthy_bool
abbrev Ew:=@PySem.wpAny_loadPart_at
abbrev Ey:=@Array.getD_eq_getD_getElem?
abbrev Ez:=@PySem.Heap.get?_none_of_le
abbrev Fa:=@List.getElem?_set_ne
abbrev Fb:=@PySem.codeAny_call_builtin
abbrev Fc:=@List.getElem_inj
abbrev Fd:=@PySem.codeAny_mono
abbrev Fe:=@PySem.Calls.call_function_entry
abbrev Ff:=@Array.getElem?_eq_getElem
abbrev Fg:=@Classical.byContradiction
abbrev Fh:=@PySem.Heap.SameBut.update
abbrev Fi:=@List.flatMap_append
abbrev Fj:=@List.filterMap_cons_some
abbrev Fk:=@List.filterMap_cons_none
abbrev Fl:=@PyProof.Rows.listUpdate_at
abbrev Fm:=@PySem.F.slot_list_extend
abbrev Fn:=@PySem.F.type_list_extend
abbrev Fo:=@PySem.wpAny_specialOf
abbrev Fp:=@Nat.not_lt_zero
abbrev Fq:=@PySem.W.of_hideAll
abbrev Fs:=@PySem.SeqAt.EqAt.int_int
abbrev Ft:=@PySem.Obj.data_mapFields
abbrev Fu:=@Nat.add_sub_cancel_left
abbrev Fv:=@Nat.le_succ
abbrev Fw:=@PySem.F.slot_list_clear
abbrev Fx:=@PySem.F.type_list_clear
abbrev Fy:=@List.getElem?_set_self
abbrev Fz:=@Nat.ne_of_gt
abbrev Ga:=@PySem.Heap.size_push
abbrev Gb:=@PySem.Calls.callWith_builtin
abbrev Gc:=@PySem.wpAny_pyIter_list
abbrev Gd:=@PySem.wpAny_setField
abbrev Ge:=@PySem.AutoSeq1.sub_list_list
abbrev Gf:=@List.drop_eq_nil_of_le
abbrev Gg:=@List.drop_of_length_le
abbrev Gh:=@PySem.wpAny_call
abbrev Gi:=@beq_self_eq_true
abbrev Gj:=@List.any_eq_true
abbrev Gk:=@List.getElem_map
abbrev Gm:=@Nat.min_eq_right
abbrev Gp:=@List.mem_flatMap
abbrev Gq:=@List.any_cons
abbrev Gr:=@PySem.wpAny_newList
abbrev Gu:=@Int.le_refl
abbrev Gv:=@PyProof.Rows.seqEpoch_at
abbrev Gw:=@LawfulBEq.eq_of_beq
namespace L2
open PySem PySem.Spec PyProof.Rows
abbrev Key:=Sum Int Str
def iH:Key → Value → Bool
 | .inl k,v => Value.isInt k v
 | .inr x,v => Value.isStrOf x v
def cZ7 (w:World):Key → Int
 | .inl k => hashInt k
 | .inr x => hashStr w x
theorem bI:∀ {k:Key} {v:Value},iH k v = true → (∃ i t,k = Sum.inl i ∧ v = Value.int i t) ∨ (∃ x t,k = Sum.inr x ∧ v = Value.str x t)
 | .inl i,v,h => by
   obtain ⟨t,e⟩:=Value.isInt_shape (k:=i) (v:=v) h
   exact .inl ⟨i,t,rfl,e⟩
 | .inr x,v,h => by
   obtain ⟨t,e⟩:=Value.isStrOf_shape (x:=x) (v:=v) h
   exact .inr ⟨x,t,rfl,e⟩
theorem yC (i:Int) (t:Tok):iH (.inl i) (.int i t) = true:=by simp [iH,Value.isInt]
theorem yR (x:Str) (t:Tok):iH (.inr x) (.str x t) = true:=by simp [iH,Value.isStrOf]
theorem cQ6 (a b:Int):decide ((Sum.inl a:Key) = Sum.inl b) = (a == b):=by
 by_cases e:a = b
 · subst e; simp
 · have h:¬ (Sum.inl a:Key) = Sum.inl b:=fun q => e (Sum.inl.inj q)
   rw [Av h]
   exact (Dd.mpr e).symm
theorem cXO (a b:Str):decide ((Sum.inr a:Key) = Sum.inr b) = decide (a = b):=by
 by_cases e:a = b
 · subst e; simp
 · have h:¬ (Sum.inr a:Key) = Sum.inr b:=fun q => e (Sum.inr.inj q)
   rw [Av h,Av e]
theorem cQ5 (a:Int) (b:Str):decide ((Sum.inl a:Key) = Sum.inr b) = false:=Av (fun q => nomatch q)
theorem bJJ (a:Str) (b:Int):decide ((Sum.inr a:Key) = Sum.inl b) = false:=Av (fun q => nomatch q)
def aS (prog:Program) (w:World):PySem.KeyKind prog w Key where
 is:=iH
 hash:=cZ7 w
 inj:=fun v a b ha hb => by
   rcases bI ha with ⟨i,t,rfl,rfl⟩ | ⟨x,t,rfl,rfl⟩
   · rcases bI hb with ⟨j,u,rfl,e⟩ | ⟨y,u,rfl,e⟩
     · injection e with e1 _; rw [e1]
     · exact nomatch e
   · rcases bI hb with ⟨j,u,rfl,e⟩ | ⟨y,u,rfl,e⟩
     · exact nomatch e
     · injection e with e1 _; rw [e1]
 byValue:=fun k v h => by
   rcases bI h with ⟨i,t,rfl,rfl⟩ | ⟨x,t,rfl,rfl⟩ <;> rfl
 pyHash:=fun hv h => by
   rcases bI hv with ⟨i,t,rfl,rfl⟩ | ⟨x,t,rfl,rfl⟩
   · exact wpAny_pyHash_int h
   · exact wpAny_pyHash_str h
 eqBool:=fun hu hv h => by
   rcases bI hu with ⟨i,t,rfl,rfl⟩ | ⟨x,t,rfl,rfl⟩
   · rcases bI hv with ⟨j,u,rfl,rfl⟩ | ⟨y,u,rfl,rfl⟩
     · rw [cQ6] at h; exact wpAny_eqBool_int h
     · rw [cQ5] at h; exact SeqAt.EqAt.int_str i t y u _ _ _ _ h
   · rcases bI hv with ⟨j,u,rfl,rfl⟩ | ⟨y,u,rfl,rfl⟩
     · rw [bJJ] at h; exact SeqAt.EqAt.str_int x t j u _ _ _ _ h
     · rw [cXO] at h; exact wpAny_eqBool_str h
 «strs» := fun k x t v h => by
   rcases bI h with ⟨i,u,rfl,e⟩ | ⟨y,u,rfl,e⟩
   · exact nomatch e
   · injection e with e1 _
     subst e1
     cases v <;> rfl
theorem rB (prog:Program) (w:World) (i:Int) (t:Tok):(aS prog w).is (.inl i) (.int i t) = true:=yC i t
theorem rR (prog:Program) (w:World) (x:Str) (t:Tok):(aS prog w).is (.inr x) (.str x t) = true:=yR x t
end L2
namespace L2
open PySem PySem.Spec PyProof.Rows
inductive V where
 | non | bl (b:Bool) | int (i:Int) | str (x:Str) | byt (b:Array UInt8) | flt (b:UInt64) | ref (a:Addr) | ty (n:String)
 deriving DecidableEq
def RelV:V → Value → Prop
 | .non,u => u = Value.none
 | .bl b,u => u = Value.bool b
 | .int i,u => ∃ t,u = Value.int i t
 | .str x,u => ∃ t,u = Value.str x t
 | .byt b,u => ∃ t,u = Value.bytes b t
 | .flt b,u => ∃ t,u = Value.float b t
 | .ref a,u => u = Value.ref a
 | .ty n,u => u = Value.type n
abbrev Vals:List V → List Value → Prop:=Paired RelV
theorem Vals.length {xs:List V} {us:List Value} (r:Vals xs us):xs.length = us.length:=Paired.length r
theorem Vals.get:∀ {xs:List V} {us:List Value} {i:Nat} {x:V},Vals xs us → xs[i]? = some x → ∃ u,us[i]? = some u ∧ RelV x u
 | _,_,_,_,.nil,e => by simp at e
 | _,_,0,_,.cons r _,e => by simp at e; subst e; exact ⟨_,rfl,r⟩
 | _,_,i + 1,x,.cons _ t,e => by
   obtain ⟨u,h1,h2⟩:=Vals.get (i:=i) (x:=x) t (by simpa using e)
   exact ⟨u,by simpa using h1,h2⟩
theorem Vals.set {x:V} {u:Value} (r:RelV x u):∀ {xs:List V} {us:List Value} (i:Nat),Vals xs us → Vals (xs.set i x) (us.set i u)
 | _,_,_,.nil => .nil
 | _,_,0,.cons _ t => .cons r t
 | _,_,i + 1,.cons q t => .cons q (Vals.set r i t)
theorem Vals.append:∀ {xs ys:List V} {us ws:List Value},Vals xs us → Vals ys ws → Vals (xs ++ ys) (us ++ ws)
 | _,_,_,_,.nil,s => s
 | _,_,_,_,.cons r t,s => .cons r (Vals.append t s)
theorem Vals.take:∀ {xs:List V} {us:List Value} (n:Nat),Vals xs us → Vals (xs.take n) (us.take n)
 | _,_,0,_ => .nil
 | _,_,_ + 1,.nil => .nil
 | _,_,n + 1,.cons r t => .cons r (Vals.take n t)
theorem Vals.drop:∀ {xs:List V} {us:List Value} (n:Nat),Vals xs us → Vals (xs.drop n) (us.drop n)
 | _,_,0,r => r
 | _,_,_ + 1,.nil => .nil
 | _,_,n + 1,.cons _ t => Vals.drop n t
theorem Vals.none_of:∀ {xs:List V} {us:List Value} {i:Nat},Vals xs us → xs[i]? = none → us[i]? = none:=fun {xs us i} r e => by
 have h1:=r.length
 have h2:xs.length ≤ i:=List.getElem?_eq_none_iff.mp e
 exact List.getElem?_eq_none_iff.mpr (by omega)
def RelO:Option V → Option Value → Prop
 | some v,some u => RelV v u
 | none,none => True
 | _,_ => False
def KV {κ:Type}:List (κ × V) → List (κ × Value) → Prop:=Paired fun (p:κ × V) (q:κ × Value) => p.1 = q.1 ∧ RelV p.2 q.2
def kV:Key → V
 | .inl i => .int i
 | .inr x => .str x
inductive HO where
   | lst (xs:List V)
   | tup (xs:List V)
   | dK (kvs:List (Key × V)) | dT (kvs:List (List Key × V))
   | set (S:Int → Bool) (n:Nat)
   | ins (C dx:Addr) (fs:List (Str × V))
   | own (x:Addr)
   | xd (fs:List (Str × V))
   | met (f x:Addr)
   | rng (lo hi:Int)
   | frz (o:Obj) (u:HO)
   | tbl (ps:Array Value)
   | ext (φ:Heap → Prop)
abbrev Hp:=Addr → Option HO
def upd (H:Hp) (a:Addr) (o:HO):Hp:=fun b => if b = a then some o else H b
theorem aB {H:Hp} {a:Addr} {o:HO}:upd H a o a = some o:=by unfold upd; rw [if_pos rfl]
theorem aJ {H:Hp} {a b:Addr} {o:HO} (h:b ≠ a):upd H a o b = H b:=by unfold upd; rw [if_neg h]
theorem vZ {H:Hp} {a:Addr} {o u:HO}:upd (upd H a o) a u = upd H a u:=by
 funext b; unfold upd; split <;> rfl
theorem cZH {H:Hp} {a b:Addr} {o u:HO} (h:H a = some o) (h':H b = some u) (d:o ≠ u):a ≠ b:=by
 intro e; subst e; rw [h] at h'; exact d (Bi h')
theorem bG {H:Hp} {a b:Addr} {o:HO} (h:H a = some o) (h':H b = none):a ≠ b:=by
 intro e; subst e; rw [h] at h'; cases h'
section
variable (P:Program) (w:World)
def ObjOk (H:Hp) (h:Heap) (a:Addr):HO → Prop
 | .lst xs => xs.length ≤ sizeLine ∧ ∃ (its:List Value) (n:Nat),Vals xs its ∧ h.get? a = some { cls:=.type "list",data:=.seq its.toArray n }
 | .tup xs => xs.length ≤ sizeLine ∧ ∃ its:List Value,Vals xs its ∧ IsTup h a its.toArray
 | .dK kvs => kvs.length ≤ sizeLine ∧ (a == sysModules) = false ∧ ∃ vs,KV kvs vs ∧ h.DictOf (aS P w) a vs
 | .dT kvs => kvs.length ≤ sizeLine ∧ (a == sysModules) = false ∧ ∃ xs:List (List Key × Addr × Value),
     Paired (fun (p:List Key × V) (q:List Key × Addr × Value) => p.1 = q.1 ∧ H q.2.1 = some (.tup (p.1.map kV)) ∧ RelV p.2 q.2.2) kvs xs ∧
     ∃ o es ep,h.get? a = some o ∧ o.ExactDict ∧ o.data = .dict es ep ∧ es.toList = xs.map (entryOfKey (tupleKind (aS P w))) ∧ (xs.map (·.1)).Nodup
 | .set S n => h.SetOf (intKind P w) a S n
 | .ins C dx fs => H dx = some (.own a) ∧ fs.length ≤ 1000 ∧ dx ≠ a ∧ h.get? a = some (PySem.W.instObj C dx) ∧
     ∃ mA,h.Ns1 dx mA ∧ (∀ f,RelO (fs.lookup f) (mA f)) ∧ PySem.Within mA (fs.map (·.1))
 | .own _ => ∃ o,h.get? a = some o
 | .xd fs => ∃ mA,h.Ns1 a mA ∧ ∀ f,RelO (fs.lookup f) (mA f)
 | .rng lo hi => ∃ t u v,h.get? a = some { cls:=.type "range",data:=.fields #[.int lo t,.int hi u,.int 1 v] }
 | .frz o u => h.get? a = some o ∧ ObjOk H h a u
 | .tbl ps => h.get? a = some { cls:=.none,data:=.fields ps }
 | .met f x => h.get? a = some (PySem.W.methodObj (.ref f) (.ref x))
 | .ext φ => φ h ∧ (∃ o,h.get? a = some o) ∧ ∀ h1 h2:Heap,φ h1 → (∀ o,h1.get? a = some o → h2.get? a = some o) → φ h2
def HOk (H:Hp) (h:Heap):Prop:=∀ a o,H a = some o → ObjOk P w H h a o
end
section
variable {P:Program} {w:World} {H H':Hp} {h h':Heap} {a:Addr} {o:HO}
theorem ObjOk.lt (x:ObjOk P w H h a o):a < h.objs.size:=by
 cases o with
 | lst xs => obtain ⟨_,_,_,_,e⟩:=x; exact An e
 | tup xs => obtain ⟨_,_,_,p⟩:=x; exact p.lt
 | dK kvs => obtain ⟨_,_,_,_,o,_,_,e,_⟩:=x; exact An e
 | dT kvs => obtain ⟨_,_,_,_,o,_,_,e,_⟩:=x; exact An e
 | set S n => obtain ⟨o,_,_,_,e,_⟩:=x; exact An e
 | ins C dx fs => obtain ⟨_,_,_,e,_⟩:=x; exact An e
 | own y => obtain ⟨_,e⟩:=x; exact An e
 | xd fs => obtain ⟨_,⟨_,_,_,e,_⟩,_⟩:=x; exact An e
 | rng lo hi => obtain ⟨_,_,_,e⟩:=x; exact An e
 | frz ob u => obtain ⟨e,_⟩:=x; exact An e
 | tbl ps => exact An (show h.get? a = some _ from x)
 | met f y => exact An (show h.get? a = some _ from x)
 | ext φ => obtain ⟨_,⟨_,e⟩,_⟩:=x; exact An e
theorem Paired.mapP {α β:Type} {F G:α → β → Prop}:∀ {l₁:List α} {l₂:List β},Paired F l₁ l₂ → (∀ a b,F a b → G a b) → Paired G l₁ l₂
 | _,_,.nil,_ => .nil
 | _,_,.cons r t,f => .cons (f _ _ r) (Paired.mapP t f)
theorem ObjOk.stay (x:ObjOk P w H h a o) (k:∀ b u,(b = a ∨ H b = some (.own a)) → h.get? b = some u → h'.get? b = some u)
   (ho:∀ b,H b = some (.own a) → H' b = some (.own a)) (ht:∀ b xs,H b = some (.tup xs) → H' b = some (.tup xs)):ObjOk P w H' h' a o:=by
 induction o with
 | lst xs => obtain ⟨z,its,n,r,e⟩:=x; exact ⟨z,its,n,r,k _ _ (.inl rfl) e⟩
 | tup xs => obtain ⟨z,its,r,ob,e,c⟩:=x; exact ⟨z,its,r,ob,k _ _ (.inl rfl) e,c⟩
 | dK kvs => obtain ⟨z,y,vs,r,ob,es,ep,e,c⟩:=x; exact ⟨z,y,vs,r,ob,es,ep,k _ _ (.inl rfl) e,c⟩
 | dT kvs =>
   obtain ⟨z,y,xs,r,ob,es,ep,e,c⟩:=x
   exact ⟨z,y,xs,Paired.mapP r fun p q z => ⟨z.1,ht _ _ z.2.1,z.2.2⟩,ob,es,ep,k _ _ (.inl rfl) e,c⟩
 | set S n => obtain ⟨ob,es,ep,t,e,c⟩:=x; exact ⟨ob,es,ep,t,k _ _ (.inl rfl) e,c⟩
 | ins C dx fs =>
   obtain ⟨d,z,ne,e,mA,⟨od,es,ep,e2,c⟩,r⟩:=x
   exact ⟨ho _ d,z,ne,k _ _ (.inl rfl) e,mA,⟨od,es,ep,k _ _ (.inr d) e2,c⟩,r⟩
 | own y => obtain ⟨ob,e⟩:=x; exact ⟨ob,k _ _ (.inl rfl) e⟩
 | xd fs => obtain ⟨mA,⟨od,es,ep,e,c⟩,r⟩:=x; exact ⟨mA,⟨od,es,ep,k _ _ (.inl rfl) e,c⟩,r⟩
 | rng lo hi => obtain ⟨t,u,v,e⟩:=x; exact ⟨t,u,v,k _ _ (.inl rfl) e⟩
 | frz ob u ih => obtain ⟨e,q⟩:=x; exact ⟨k _ _ (.inl rfl) e,ih q⟩
 | tbl ps =>
   have e:h.get? a = some { cls:=.none,data:=.fields ps }:=x
   show h'.get? a = some { cls:=.none,data:=.fields ps }
   exact k a _ (.inl rfl) e
 | met f y =>
   have e:h.get? a = some (PySem.W.methodObj (.ref f) (.ref y)):=x
   show h'.get? a = some (PySem.W.methodObj (.ref f) (.ref y))
   exact k a _ (.inl rfl) e
 | ext φ => obtain ⟨p,⟨o,e⟩,st⟩:=x; exact ⟨st _ _ p fun o q => k _ _ (.inl rfl) q,⟨o,k _ _ (.inl rfl) e⟩,st⟩
theorem HOk.lt (x:HOk P w H h) (e:H a = some o):a < h.objs.size:=(x a o e).lt
theorem HOk.fresh (x:HOk P w H h) (e:h.objs.size ≤ a):H a = none:=by
 cases q:H a with
 | none => rfl
 | some u => exact absurd (Az (x.lt q) e) (Dn _)
theorem HOk.kept (x:HOk P w H h) (k:∀ b u,h.get? b = some u → h'.get? b = some u):HOk P w H h':=fun a o e =>
 (x a o e).stay (fun b u _ q => k b u q) (fun _ q => q) fun _ _ q => q
theorem HOk.laid (x:HOk P w H h) (k:∀ b u,h.get? b = some u → h'.get? b = some u) (hp:h.objs.size ≤ a) (new:ObjOk P w (upd H a o) h' a o):HOk P w (upd H a o) h':=fun b u e => by
 have hn:=x.fresh hp
 by_cases hb:b = a
 · subst hb; rw [aB] at e; cases e; exact new
 · rw [aJ hb] at e
   exact (x b u e).stay (fun c v _ q => k c v q) (fun c q => by rw [aJ (bG q hn)]; exact q) fun c xs q => by rw [aJ (bG q hn)]; exact q
end
def Rd (H:Hp) (a:Addr) (u:HO):Prop:=H a = some u ∨ ∃ o,H a = some (.frz o u)
theorem Rd.of {H:Hp} {a:Addr} {u:HO} (h:H a = some u):Rd H a u:=.inl h
theorem Rd.ok {P:Program} {w:World} {H:Hp} {h:Heap} {a:Addr} {u:HO} (r:Rd H a u) (x:HOk P w H h):ObjOk P w H h a u:=by
 rcases r with r | ⟨o,r⟩
 · exact x a u r
 · obtain ⟨_,q⟩:=x a _ r
   exact q
def Mut:Option HO → Prop
 | some (.lst _) => True
 | some (.dK _) => True
 | some (.dT _) => True
 | some (.set _ _) => True
 | some (.ins _ _ _) => True
 | some (.ext _) => True
 | _ => False
section
variable {P:Program} {w:World} {H:Hp} {h h':Heap} {x e:Addr} {o':HO}
theorem HOk.write (ok:HOk P w H h) (mu:Mut (H x)) (he:e = x ∨ H e = some (.own x)) (k:∀ b u,b ≠ e → h.get? b = some u → h'.get? b = some u) (heo:∃ u,h'.get? e = some u)
   (new:ObjOk P w (upd H x o') h' x o'):HOk P w (upd H x o') h':=fun b u q => by
 have nown:∀ c y,H c = some (.own y) → c ≠ x:=fun c y r z => by subst z; rw [r] at mu; exact mu
 have ntup:∀ c xs,H c = some (.tup xs) → c ≠ x:=fun c xs r z => by subst z; rw [r] at mu; exact mu
 by_cases hb:b = x
 · subst hb; rw [aB] at q; cases q; exact new
 · rw [aJ hb] at q
   by_cases hbe:b = e
   · have q':H b = some (.own x):=by
       rcases he with z | z
       · exact absurd (hbe.trans z) hb
       · rw [hbe]; exact z
     rw [q] at q'; cases q'
     obtain ⟨v,hv⟩:=heo
     exact ⟨v,by rw [hbe]; exact hv⟩
   · refine (ok b u q).stay (fun c v hc r => k c v ?_ r) (fun c r => by rw [aJ (nown c b r)]; exact r) fun c xs r => by rw [aJ (ntup c xs r)]; exact r
     rcases hc with rfl | hc
     · exact hbe
     · rintro rfl
       rcases he with z | z
       · exact nown c b hc z
       · rw [hc] at z; cases z; exact hb rfl
end
structure Un (fs ex:List Addr) (H H':Hp) (h h':Heap):Prop where
 keep:∀ b o,h.get? b = some o → H b = none → b ∉ fs → b ∉ ex → h'.get? b = some o
 slot:∀ b o,h.get? b = some o → H b = none → b ∈ fs → b ∉ ex → ∃ sl,h'.get? b = some { o with slots:=sl }
 free:∀ b o,h.get? b = some o → H b = none → b ∉ ex → H' b = none
 there:∀ b o,h.get? b = some o → b ∉ ex → ∃ o',h'.get? b = some o'
 tups:∀ b xs,H b = some (.tup xs) → H' b = some (.tup xs)
 frzs:∀ b o u,H b = some (.frz o u) → H' b = some (.frz o u)
 tbls:∀ b ps,H b = some (.tbl ps) → ∃ more,H' b = some (.tbl (ps ++ more))
section
variable {fs fs' ex ex':List Addr} {H H1 H2:Hp} {h h1 h2 h':Heap} {a x e:Addr} {o:HO}
theorem Un.any (u:Un fs ex H H1 h h1) {b:Addr} {ob:Obj} (q:h.get? b = some ob) (n:H b = none) (hx:b ∉ ex):∃ sl,h1.get? b = some { ob with slots:=sl }:=by
 by_cases hb:b ∈ fs
 · exact u.slot b ob q n hb hx
 · exact ⟨ob.slots,u.keep b ob q n hb hx⟩
theorem Un.trans (a:Un fs ex H H1 h h1) (b:Un fs ex H1 H2 h1 h2):Un fs ex H H2 h h2 where
 keep:=fun c ob q n hc hx => b.keep c ob (a.keep c ob q n hc hx) (a.free c ob q n hx) hc hx
 slot:=fun c ob q n hc hx => by
   obtain ⟨sl,e1⟩:=a.slot c ob q n hc hx
   obtain ⟨sl',e2⟩:=b.slot c _ e1 (a.free c ob q n hx) hc hx
   exact ⟨sl',e2⟩
 free:=fun c ob q n hx => by
   obtain ⟨o',e1⟩:=a.there c ob q hx
   exact b.free c o' e1 (a.free c ob q n hx) hx
 there:=fun c ob q hx => by
   obtain ⟨o',e1⟩:=a.there c ob q hx
   exact b.there c o' e1 hx
 tups:=fun c xs q => b.tups c xs (a.tups c xs q)
 frzs:=fun c ob xs q => b.frzs c ob xs (a.frzs c ob xs q)
 tbls:=fun c ps q => by
   obtain ⟨m1,e1⟩:=a.tbls c ps q
   obtain ⟨m2,e2⟩:=b.tbls c _ e1
   exact ⟨m1 ++ m2,by rw [e2,Array.append_assoc]⟩
theorem Un.kept (k:∀ b u,h.get? b = some u → h'.get? b = some u):Un fs ex H H h h' :=
 ⟨fun b ob q _ _ _ => k b ob q,fun b ob q _ _ _ => ⟨ob.slots,k b ob q⟩,fun _ _ _ n _ => n,fun b ob q _ => ⟨ob,k b ob q⟩,fun _ _ q => q,fun _ _ _ q => q,fun _ ps q => ⟨#[],by rw [q]; simp⟩⟩
theorem Un.refl:Un fs ex H H h h:=Un.kept fun _ _ q => q
theorem Un.laid (k:∀ b u,h.get? b = some u → h'.get? b = some u) (hp:h.objs.size ≤ a) (hn:H a = none):Un fs ex H (upd H a o) h h' where
 keep:=fun b u q _ _ _ => k b u q
 slot:=fun b u q _ _ _ => ⟨u.slots,k b u q⟩
 free:=fun b u q n _ => by rw [aJ (Bd (Az (An q) hp))]; exact n
 there:=fun b u q _ => ⟨u,k b u q⟩
 tups:=fun b xs q => by rw [aJ (bG q hn)]; exact q
 frzs:=fun b u xs q => by rw [aJ (bG q hn)]; exact q
 tbls:=fun b ps q => ⟨#[],by rw [aJ (bG q hn),q]; simp⟩
theorem Un.write (mu:Mut (H x)) (he:e = x ∨ H e = some (.own x)) (k:∀ b u,b ≠ e → h.get? b = some u → h'.get? b = some u) (heo:∃ u,h'.get? e = some u):Un fs ex H (upd H x o) h h':=by
 have hx:∀ b,H b = none → b ≠ x:=fun b n z => by subst z; rw [n] at mu; exact mu
 have hb:∀ b,H b = none → b ≠ e:=fun b n z => by
   subst z
   rcases he with r | r
   · exact hx b n r
   · rw [n] at r; cases r
 have hm:∀ b u,H b = some u → ¬ Mut (some u) → b ≠ x:=fun b u q nm z => by subst z; rw [q] at mu; exact nm mu
 refine ⟨fun b u q n _ _ => k b u (hb b n) q,fun b u q n _ _ => ⟨u.slots,k b u (hb b n) q⟩,fun b u q n _ => by rw [aJ (hx b n)]; exact n,fun b u q _ => ?_,
   fun b xs q => by rw [aJ (hm b _ q fun z => z)]; exact q,fun b u xs q => by rw [aJ (hm b _ q fun z => z)]; exact q,fun b ps q => ⟨#[],by rw [aJ (hm b _ q fun z => z),q]; simp⟩⟩
 by_cases hbe:b = e
 · subst hbe; exact heo
 · exact ⟨u,k b u hbe q⟩
theorem Un.mono (u:Un fs ex H H1 h h1) (hs:∀ b ∈ fs,b ∈ fs') (hx:∀ b ∈ ex,b ∈ ex'):Un fs' ex' H H1 h h1 :=
 ⟨fun b ob q n hb he => u.keep b ob q n (fun z => hb (hs b z)) fun z => he (hx b z),fun _ _ q n _ he => u.any q n fun z => he (hx _ z),fun b ob q n he => u.free b ob q n fun z => he (hx b z),fun b ob q he => u.there b ob q fun z => he (hx b z),u.tups,u.frzs,u.tbls⟩
end
def trk (h:Heap) (H:Hp):List Addr:=(List.range h.objs.size).filter fun a => (H a).isSome
def qQ (h:Heap) (H:Hp):Heap:=PySem.W.hideAll h (trk h H)
theorem yW (h:Heap) (H:Hp):(qQ h H).objs.size = h.objs.size:=PySem.W.hideAll_size _ _
theorem aQ6 {h:Heap} {H:Hp} {b:Addr} {o:Obj} (e:h.get? b = some o) (n:H b = none):(qQ h H).get? b = some o :=
 PySem.W.hideAll_get _ e fun hm => by
   have q:(H b).isSome = true:=(Cs.mp hm).2
   rw [n] at q; simp at q
theorem bQQ {h:Heap} {H:Hp} {b:Addr} {o:Obj} (e:(qQ h H).get? b = some o):h.get? b = some o ∧ H b = none:=by
 have e':h.get? b = some o:=Fq (trk h H) e
 refine ⟨e',?_⟩
 cases q:H b with
 | none => rfl
 | some x =>
   have hm:b ∈ trk h H:=List.mem_filter.mpr ⟨List.mem_range.mpr (Heap.lt_size e'),by simp [q]⟩
   have z:(qQ h H).get? b = none:=PySem.W.hideAll_none (trk h H) hm
   rw [z] at e; cases e
def aJ1 (g h:Heap) (L:Addr):List (Addr × Obj):=(List.range h.objs.size).filterMap fun a => if a = L ∨ (g.get? a).isSome = true then none else (h.get? a).map fun o => (a,o)
def rest (g h:Heap) (L d:Addr):List (Addr × Obj):=(aJ1 g h L).filter fun p => decide (p.1 ≠ d)
end L2
namespace L2
open PySem PySem.Spec PyProof.Rows
structure Mod (K:PySem.W.Frag) (mg:Str → Option Value) (base:Heap):Prop where
 kin:K.In base
 glob:base.Ns mainGlobals mg
 blt:∃ mb,base.Ns builtinsNs mb ∧ ∀ x:Str,x ≠ "__name__" → mb x = bootBuiltins x
 nolimit:base.NoLimit
structure Cx where
 prog:Program
 w:World
 K:PySem.W.Frag
 mg:Str → Option Value
 base:Heap
 A:Around
 N:List Str
 s₀:Shared
 H₀:Hp
 env:Env
 outer:List Env
 stack:List Env
 ex:List Addr
 fn:Str → Bool
 calm:Bool
 pn:List (Addr × Obj)
 xe:Value → Shared → Prop
def frs (l:List Env):List Addr:=l.filterMap (·.frame)
abbrev Cx.fs (X:Cx):List Addr:=frs X.outer
def Vis (sc:Scope) (x:Str):Prop:=sc.names.lookup x = some .local ∨ sc.names.lookup x = some .cell ∨ sc.names.lookup x = some .free
def Loc (sc:Scope) (x:Str):Prop:=sc.names.lookup x = some .local ∨ sc.names.lookup x = some .cell
def dQV (env:Env) (h:Heap) (m:Str → Option Value) (x:Str) (u:Value):Prop :=
 (env.kindOf x = some .local ∧ m x = some u) ∨ ((env.kindOf x = some .cell ∨ env.kindOf x = some .free) ∧ ∃ c,env.cells.lookup x = some c ∧ h.IsCell c (some u))
structure Cx.Ok (X:Cx):Prop where
 mod:Mod X.K X.mg X.base
 kind:X.env.scope.kind = .function
 glob:X.env.globals = mainGlobals
 blt:X.env.builtins = builtinsNs
 above:X.s₀.heap.objs.size ≤ X.env.locals
 inj:∀ x y c,X.env.cells.lookup x = some c → X.env.cells.lookup y = some c → x = y
 has:∀ x,(X.env.kindOf x = some .cell ∨ X.env.kindOf x = some .free) → ∃ c,X.env.cells.lookup x = some c
 cab:∀ x c,X.fn x = true → X.env.cells.lookup x = some c → X.s₀.heap.objs.size ≤ c
 hd:X.calm = true → X.A.handled = none
 frames:X.A.frames = some X.stack
 stk:X.stack = X.outer ∨ (X.stack = X.env :: X.outer ∧ X.env.frame = some X.env.locals)
 exf:∀ b ∈ X.ex,b ≠ X.env.locals ∧ ∀ x c,X.env.cells.lookup x = some c → c ≠ b
 bs:∀ b o,X.base.get? b = some o → X.s₀.heap.get? b = some o ∧ X.H₀ b = none
 bsz:X.base.objs.size ≤ X.s₀.heap.objs.size
 noex:∀ b o,X.base.get? b = some o → b ∉ X.ex
 exfs:∀ b ∈ X.ex,b ∉ X.fs
 funs:X.s₀.heap.FunFrames X.base X.outer
 frf:∀ b ∈ X.fs,X.H₀ b = none
structure Inv (X:Cx) (pins:List (Addr × Obj)) (σ:List (Option V)) (H:Hp) (s:Shared):Prop where
 ok:X.Ok
 os:s.os = X.s₀.os
 bare:AllBare s.gens
 base:Un X.fs X.ex X.H₀ H X.s₀.heap s.heap
 loc:∃ m,s.heap.Ns X.env.locals m ∧ ∀ (i:Nat) (x:Str) (v:V),X.N[i]? = some x → σ[i]? = some (some v) → Vis X.env.scope x → ∃ u,RelV v u ∧ dQV X.env s.heap m x u
 cell:∀ x c,X.env.cells.lookup x = some c → ∃ v,s.heap.IsCell c v
 free:H X.env.locals = none
 freeC:∀ x c,X.env.cells.lookup x = some c → H c = none
 pin:∀ p ∈ X.pn ++ pins,s.heap.get? p.1 = some p.2 ∧ H p.1 = none ∧ p.1 ≠ X.env.locals ∧ p.1 ∉ X.fs ∧ ∀ v,p.2.data ≠ .cell v
 hok:HOk X.prog X.w H s.heap
 len:σ.length = X.N.length
section
variable {X:Cx} {pins:List (Addr × Obj)} {σ:List (Option V)} {H H':Hp} {s:Shared} {h':Heap}
theorem Cx.Ok.nofr (ok:X.Ok) {b:Addr} {o:Obj} (e:X.base.get? b = some o):b ∉ X.fs:=fun hb => by
 have:=(ok.funs.mem hb).1
 rw [e] at this; cases this
theorem Inv.bs (I:Inv X pins σ H s):∀ b o,X.base.get? b = some o → s.heap.get? b = some o ∧ H b = none:=fun b o e =>
 ⟨I.base.keep b o (I.ok.bs b o e).1 (I.ok.bs b o e).2 (I.ok.nofr e) (I.ok.noex b o e),I.base.free b o (I.ok.bs b o e).1 (I.ok.bs b o e).2 (I.ok.noex b o e)⟩
theorem Inv.bk (I:Inv X pins σ H s):∀ b o,X.base.get? b = some o → s.heap.get? b = some o:=fun b o e => (I.bs b o e).1
theorem Inv.mod (I:Inv X pins σ H s):Mod X.K X.mg X.base:=I.ok.mod
theorem Inv.kIn (I:Inv X pins σ H s):X.K.In s.heap:=I.ok.mod.kin.keeps I.bk
theorem Inv.nolimit (I:Inv X pins σ H s):s.heap.NoLimit:=I.ok.mod.nolimit.keeps I.bk
theorem Inv.fr (I:Inv X pins σ H s):∃ m,Fr X.base X.env.locals s.heap m :=
 let ⟨m,hn,_⟩:=I.loc
 ⟨m,hn,I.bk,Ax I.ok.bsz I.ok.above⟩
theorem Inv.lt (I:Inv X pins σ H s):X.env.locals < s.heap.objs.size:=let ⟨_,hn,_⟩:=I.loc; hn.lt
theorem Inv.sz (I:Inv X pins σ H s):X.s₀.heap.objs.size ≤ s.heap.objs.size:=Ax I.ok.above (Cz I.lt)
theorem Inv.nofs (I:Inv X pins σ H s) {a:Addr} (h:s.heap.objs.size ≤ a):a ∉ X.fs:=fun hb => by
 obtain ⟨_,o,ho,_⟩:=I.ok.funs.mem hb
 exact absurd (Az (An ho) (Ax I.sz h)) (Dn _)
theorem Inv.cne (I:Inv X pins σ H s):∀ x c,X.env.cells.lookup x = some c → c ≠ X.env.locals:=fun x c e z => by
 obtain ⟨v,o,ho,hd⟩:=I.cell x c e
 obtain ⟨m,⟨o',es,ep,ho',hd',_⟩,_⟩:=I.loc
 rw [z,ho'] at ho; cases ho; rw [hd'] at hd; cases hd
theorem Inv.funs (I:Inv X pins σ H s):s.heap.FunFrames X.base X.outer:=by
 have all:∀ (l:List Env),(∀ b ∈ frs l,b ∈ X.fs) → X.s₀.heap.FunFrames X.base l → s.heap.FunFrames X.base l:=by
   intro l
   induction l with
   | nil => intro _ _; trivial
   | cons env r ih =>
     intro hs hl
     obtain ⟨hk,⟨L,o,hf,hn,ho,hd⟩,hr⟩:=hl
     have hL:L ∈ X.fs:=hs L (by unfold frs; rw [De,hf]; exact Aq)
     obtain ⟨sl,e⟩:=I.base.slot L o ho (I.ok.frf L hL) hL fun z => I.ok.exfs L z hL
     exact ⟨hk,⟨L,_,hf,hn,e,hd⟩,ih (fun b hb => hs b (by unfold frs; rw [De,hf]; exact Al _ hb)) hr⟩
 exact all X.outer (fun _ hb => hb) I.ok.funs
theorem Inv.stack (I:Inv X pins σ H s):s.heap.FunFrames X.base X.stack:=by
 rcases I.ok.stk with e | ⟨e,hf⟩
 · rw [e]; exact I.funs
 · rw [e]
   obtain ⟨m,hn,_⟩:=I.loc
   refine .cons (by rw [I.ok.kind]; decide) hf hn ?_ I.funs
   exact Ez (Ax I.ok.bsz I.ok.above)
theorem Inv.stkSub (I:Inv X pins σ H s):∀ b ∈ frs X.stack,b ∈ X.env.locals :: X.fs:=fun b hb => by
 rcases I.ok.stk with e | ⟨e,hf⟩
 · rw [e] at hb; exact Al _ hb
 · rw [e] at hb
   unfold frs at hb
   rw [De,hf] at hb
   exact hb
theorem Inv.stkFree (I:Inv X pins σ H s):∀ b ∈ frs X.stack,H b = none:=fun b hb => by
 rcases Bg.mp (I.stkSub b hb) with e | hb
 · rw [e]; exact I.free
 · obtain ⟨_,o,ho,_⟩:=I.ok.funs.mem hb
   exact I.base.free b o ho (I.ok.frf b hb) fun z => I.ok.exfs b z hb
theorem Inv.step {g':Array GenState} {t':Nat} {d':Drawn} {ch:List Addr} (I:Inv X pins σ H s)
   (hch:∀ b ∈ ch,(b ∈ X.ex ∨ X.s₀.heap.objs.size ≤ b) ∧ b ≠ X.env.locals ∧ (∀ x c,X.env.cells.lookup x = some c → c ≠ b) ∧ ∀ p ∈ X.pn ++ pins,p.1 ≠ b)
   (keep:∀ b o,b ≠ X.env.locals → b ∉ X.fs → b ∉ ch → s.heap.get? b = some o → H b = none → h'.get? b = some o)
   (slot:∀ b o,b ≠ X.env.locals → b ∈ X.fs → b ∉ ch → s.heap.get? b = some o → H b = none → ∃ sl,h'.get? b = some { o with slots:=sl }) (free:∀ b o,b ∉ ch → s.heap.get? b = some o → H b = none → H' b = none)
   (there:∀ b o,b ∉ ch → s.heap.get? b = some o → ∃ o',h'.get? b = some o')
   (tups:∀ b xs,H b = some (.tup xs) → H' b = some (.tup xs)) (frzs:∀ b o u,H b = some (.frz o u) → H' b = some (.frz o u)) (tbls:∀ b ps,H b = some (.tbl ps) → ∃ more,H' b = some (.tbl (ps ++ more)))
   (ns:∀ m,s.heap.Ns X.env.locals m → h'.Ns X.env.locals m) (hok:HOk X.prog X.w H' h') (hg:AllBare g') :
   Inv X pins σ H' { s with heap:=h',gens:=g',drawn:=d',toks:=t' }:=by
 have neL:∀ b o,X.s₀.heap.get? b = some o → b ≠ X.env.locals:=fun b o e => Bd (Az (An e) I.ok.above)
 have neC:∀ b o,X.s₀.heap.get? b = some o → b ∉ X.ex → b ∉ ch:=fun b o e hx hb => by
   rcases (hch b hb).1 with z | z
   · exact hx z
   · exact absurd (Az (An e) z) (Dn _)
 have cellK:∀ x c,X.env.cells.lookup x = some c → ∀ v,s.heap.IsCell c v → h'.IsCell c v:=fun x c e v ⟨o,ho,hd⟩ => by
   have nch:c ∉ ch:=fun z => (hch c z).2.2.1 x c e rfl
   by_cases hc:c ∈ X.fs
   · obtain ⟨sl,q⟩:=slot c o (I.cne x c e) hc nch ho (I.freeC x c e)
     exact ⟨_,q,hd⟩
   · exact ⟨o,keep c o (I.cne x c e) hc nch ho (I.freeC x c e),hd⟩
 refine ⟨I.ok,I.os,hg,⟨fun b o e n hb hx => ?_,fun b o e n hb hx => ?_,fun b o e n hx => ?_,fun b o e hx => ?_,fun b xs e => tups b xs (I.base.tups b xs e),fun b o xs e => frzs b o xs (I.base.frzs b o xs e),fun b ps e => ?_⟩,?_,fun x c e => ?_,?_,fun x c e => ?_,fun p hp => ?_,hok,I.len⟩
 · exact keep b o (neL b o e) hb (neC b o e hx) (I.base.keep b o e n hb hx) (I.base.free b o e n hx)
 · obtain ⟨sl,e1⟩:=I.base.slot b o e n hb hx
   obtain ⟨sl',e2⟩:=slot b _ (neL b o e) hb (neC b o e hx) e1 (I.base.free b o e n hx)
   exact ⟨sl',e2⟩
 · obtain ⟨o',e1⟩:=I.base.there b o e hx
   exact free b o' (neC b o e hx) e1 (I.base.free b o e n hx)
 · obtain ⟨o',e1⟩:=I.base.there b o e hx
   exact there b o' (neC b o e hx) e1
 · obtain ⟨m1,e1⟩:=I.base.tbls b ps e
   obtain ⟨m2,e2⟩:=tbls b _ e1
   exact ⟨m1 ++ m2,by rw [e2,Array.append_assoc]⟩
 · obtain ⟨m,hn,hl⟩:=I.loc
   refine ⟨m,ns m hn,fun i x v e1 e2 e3 => ?_⟩
   obtain ⟨u,r,l⟩:=hl i x v e1 e2 e3
   refine ⟨u,r,?_⟩
   rcases l with l | ⟨k,c,e,z⟩
   · exact .inl l
   · exact .inr ⟨k,c,e,cellK x c e _ z⟩
 · obtain ⟨v,z⟩:=I.cell x c e
   exact ⟨v,cellK x c e v z⟩
 · obtain ⟨m,⟨o,_,_,ho,_⟩,_⟩:=I.loc
   exact free _ o (fun z => (hch _ z).2.1 rfl) ho I.free
 · obtain ⟨v,o,ho,hd⟩:=I.cell x c e
   exact free c o (fun z => (hch c z).2.2.1 x c e rfl) ho (I.freeC x c e)
 · obtain ⟨e,n,ne,nf,d⟩:=I.pin p hp
   have nch:p.1 ∉ ch:=fun z => (hch p.1 z).2.2.2 p hp rfl
   exact ⟨keep p.1 p.2 ne nf nch e n,free p.1 p.2 nch e n,ne,nf,d⟩
theorem Inv.un {t':Nat} (I:Inv X pins σ H s) (u:Un X.fs [] H H' s.heap h') (hok:HOk X.prog X.w H' h'):Inv X pins σ H' { s with heap:=h',toks:=t' }:=by
 obtain ⟨m,⟨o,es,ep,ho,r⟩,_⟩:=id I.loc
 obtain ⟨sl,hL⟩:=u.any ho I.free (by simp)
 exact I.step (g':=s.gens) (d':=s.drawn) (ch:=[]) (fun _ z => nomatch z) (fun b o _ hb _ e n => u.keep b o e n hb (by simp)) (fun b o _ hb _ e n => u.slot b o e n hb (by simp)) (fun b o _ e n => u.free b o e n (by simp)) (fun b o _ e => u.there b o e (by simp)) u.tups u.frzs u.tbls (fun m' hm => by
   obtain ⟨o',es',ep',ho',r'⟩:=hm
   rw [ho] at ho'; cases ho'
   exact ⟨_,es',ep',hL,r'⟩) hok I.bare
theorem Inv.call {g':Array GenState} {t':Nat} {d':Drawn} {ch:List Addr} (I:Inv X pins σ H s) (u:Un (frs X.stack) ch H H' s.heap h') (hok:HOk X.prog X.w H' h') (hg:AllBare g')
   (hch:∀ b ∈ ch,(b ∈ X.ex ∨ X.s₀.heap.objs.size ≤ b) ∧ b ≠ X.env.locals ∧ (∀ x c,X.env.cells.lookup x = some c → c ≠ b) ∧ ∀ p ∈ X.pn ++ pins,p.1 ≠ b) :
   Inv X pins σ H' { s with heap:=h',gens:=g',drawn:=d',toks:=t' }:=by
 obtain ⟨m,⟨o,es,ep,ho,r⟩,_⟩:=id I.loc
 obtain ⟨sl,hL⟩:=u.any ho I.free fun z => (hch _ z).2.1 rfl
 exact I.step (ch:=ch) hch (fun b o hL hb hc e n => u.keep b o e n (fun z => (Bg.mp (I.stkSub b z)).elim hL hb) hc) (fun b o _ _ hc e n => u.any e n hc) (fun b o hc e n => u.free b o e n hc) (fun b o hc e => u.there b o e hc) u.tups u.frzs u.tbls (fun m' hm => by
   obtain ⟨o',es',ep',ho',r'⟩:=hm
   rw [ho] at ho'; cases ho'
   exact ⟨_,es',ep',hL,r'⟩) hok hg
theorem Inv.turned {t':Nat} {it:Addr} (I:Inv X pins σ H s) (k:∀ b o,b ≠ it → s.heap.get? b = some o → h'.get? b = some o) (hn:H it = none) (hL:it ≠ X.env.locals)
   (h1:it ∈ X.ex ∨ X.s₀.heap.objs.size ≤ it) (h2:∀ x c,X.env.cells.lookup x = some c → c ≠ it) (h3:∀ p ∈ X.pn ++ pins,p.1 ≠ it):Inv X pins σ H { s with heap:=h',toks:=t' }:=by
 have nit:∀ b u,H b = some u → b ≠ it:=fun b u e z => by rw [z,hn] at e; cases e
 refine I.step (g':=s.gens) (d':=s.drawn) (ch:=[it]) (fun b hb => ?_) (fun b o _ _ hc e _ => k b o (fun z => hc (by simp [z])) e) (fun b o _ _ hc e _ => ⟨o.slots,k b o (fun z => hc (by simp [z])) e⟩) (fun _ _ _ _ n => n)
   (fun b o hc e => ⟨o,k b o (fun z => hc (by simp [z])) e⟩) (fun _ _ e => e) (fun _ _ _ e => e) (fun b ps e => ⟨#[],by rw [e]; simp⟩) (fun m hm => ?_) (fun b u e => ?_) I.bare
 · have e:b = it:=by simpa using hb
   subst e
   exact ⟨h1,hL,h2,h3⟩
 · obtain ⟨o,es,ep,ho,r⟩:=hm
   exact ⟨o,es,ep,k _ o (Ne.symm hL) ho,r⟩
 · refine (I.hok b u e).stay (fun c v hc q => k c v ?_ q) (fun _ q => q) fun _ _ q => q
   rcases hc with z | z
   · rw [z]; exact nit b u e
   · exact nit c _ z
theorem Inv.tok (I:Inv X pins σ H s) (t:Nat):Inv X pins σ H { s with toks:=t }:=I.un (h':=s.heap) (t':=t) Un.refl I.hok
theorem Inv.kept {t':Nat} (I:Inv X pins σ H s) (k:∀ b u,s.heap.get? b = some u → h'.get? b = some u):Inv X pins σ H { s with heap:=h',toks:=t' }:=I.un (Un.kept k) (I.hok.kept k)
theorem Inv.laid {a:Addr} {o:HO} {t':Nat} (I:Inv X pins σ H s) (k:∀ b u,s.heap.get? b = some u → h'.get? b = some u) (hp:s.heap.objs.size ≤ a) (new:ObjOk X.prog X.w (upd H a o) h' a o) :
   Inv X pins σ (upd H a o) { s with heap:=h',toks:=t' }:=I.un (Un.laid k hp (I.hok.fresh hp)) (I.hok.laid k hp new)
theorem Inv.write {x e:Addr} {o:HO} {t':Nat} (I:Inv X pins σ H s) (mu:Mut (H x)) (he:e = x ∨ H e = some (.own x)) (k:∀ b u,b ≠ e → s.heap.get? b = some u → h'.get? b = some u) (heo:∃ u,h'.get? e = some u)
   (new:ObjOk X.prog X.w (upd H x o) h' x o):Inv X pins σ (upd H x o) { s with heap:=h',toks:=t' }:=I.un (Un.write mu he k heo) (I.hok.write mu he k heo new)
theorem Inv.weak {σ':List (Option V)} (I:Inv X pins σ H s) (hl:σ'.length = σ.length) (w:∀ (i:Nat) v,σ'[i]? = some (some v) → σ[i]? = some (some v)):Inv X pins σ' H s :=
 ⟨I.ok,I.os,I.bare,I.base,let ⟨m,hn,hl'⟩:=I.loc; ⟨m,hn,fun i x v e1 e2 e3 => hl' i x v e1 (w i v e2) e3⟩,I.cell,I.free,I.freeC,I.pin,I.hok,hl.trans I.len⟩
theorem Inv.pins_of {pins':List (Addr × Obj)} (I:Inv X pins σ H s) (h:∀ p ∈ pins',s.heap.get? p.1 = some p.2 ∧ H p.1 = none ∧ p.1 ≠ X.env.locals ∧ p.1 ∉ X.fs ∧ ∀ v,p.2.data ≠ .cell v):Inv X pins' σ H s :=
 ⟨I.ok,I.os,I.bare,I.base,I.loc,I.cell,I.free,I.freeC,fun p hp => (Bk.mp hp).elim (fun z => I.pin p (Ct _ z)) (h p),I.hok,I.len⟩
theorem lS {N:List Str} (hN:N.Nodup) {i j:Nat} {x:Str} (a:N[i]? = some x) (b:N[j]? = some x):i = j:=by
 obtain ⟨h1,e1⟩:=Ad.mp a
 obtain ⟨h2,e2⟩:=Ad.mp b
 exact (Fc hN).mp (e1.trans e2.symm)
theorem pB {M:Model} {A:Around} {E:Value → Shared → Prop} {i:Nat} {x:Str} {v:V} {u:Value} {Q:Unit → Shared → Prop} (I:Inv X pins σ H s) (hN:X.N.Nodup) (hi:X.N[i]? = some x) (hx:Loc X.env.scope x) (r:RelV v u)
   (h:∀ s',Inv X pins (σ.set i (some v)) H s' → (∃ a,Heap.SameBut a s.heap s'.heap ∧ (a = X.env.locals ∨ X.env.cells.lookup x = some a)) → Q () s') (hf:X.fn x = true ∨ X.env.scope.names.lookup x = some .local:=by first | exact .inl rfl | exact .inr rfl | assumption):wpAny M A (storeName X.env x u) Q E s:=by
 obtain ⟨m,hn,hl⟩:=id I.loc
 have hcls:(X.env.scope.kind == .class || (X.env.scope.kind == .module && X.env.locals != X.env.globals)) = false:=by rw [I.ok.kind]; rfl
 have hiσ:i < σ.length:=by rw [I.len]; exact (Ad.mp hi).1
 have cne:=I.cne
 have tracked:∀ {a:Addr} {h':Heap},(∃ o,s.heap.get? a = some o ∧ H a = none) → Heap.SameBut a s.heap h' → HOk X.prog X.w H h':=fun {a h'} ha hs b ob e => by
   obtain ⟨_,_,hfree⟩:=ha
   refine (I.hok b ob e).stay (fun c w' hc q => (hs.2 c ?_).trans q) (fun _ q => q) fun _ _ q => q
   rintro rfl
   rcases hc with rfl | hc
   · rw [hfree] at e; cases e
   · rw [hfree] at hc; cases hc
 rcases hx with hk | hk
 · refine wpAny_storeName_local hk hn (fun h' hn' hs => ?_) hcls
   obtain ⟨oL,_,_,hoL,_⟩:=id hn
   refine h _ ⟨I.ok,I.os,I.bare,⟨fun b o e n hb hx => ?_,fun b o e n hb hx => ?_,I.base.free,fun b o e hx => ?_,I.base.tups,I.base.frzs,I.base.tbls⟩,⟨_,hn',fun j y v' e1 e2 e3 => ?_⟩,fun y c e => ?_,I.free,I.freeC,fun p hp => ?_,tracked ⟨oL,hoL,I.free⟩ hs,by simpa using I.len⟩ ⟨_,hs,.inl rfl⟩
   · exact (hs.2 b (Bd (Az (An e) I.ok.above))).trans (I.base.keep b o e n hb hx)
   · obtain ⟨sl,e1⟩:=I.base.slot b o e n hb hx
     exact ⟨sl,(hs.2 b (Bd (Az (An e) I.ok.above))).trans e1⟩
   · obtain ⟨o',e1⟩:=I.base.there b o e hx
     exact ⟨o',(hs.2 b (Bd (Az (An e) I.ok.above))).trans e1⟩
   · by_cases hj:j = i
     · subst hj
       rw [hi] at e1; cases e1
       rw [Fy hiσ] at e2
       cases e2
       exact ⟨u,r,.inl ⟨hk,by simp⟩⟩
     · rw [Fa (Ne.symm hj)] at e2
       obtain ⟨u',r',q⟩:=hl j y v' e1 e2 e3
       refine ⟨u',r',?_⟩
       rcases q with ⟨k,e⟩ | ⟨k,c,e,z⟩
       · refine .inl ⟨k,?_⟩
         have:y ≠ x:=fun e => hj (lS hN e1 (e ▸ hi))
         simp [this,e]
       · exact .inr ⟨k,c,e,z.sameBut hs (cne y c e)⟩
   · obtain ⟨w',z⟩:=I.cell y c e
     exact ⟨w',z.sameBut hs (cne y c e)⟩
   · obtain ⟨e,n,ne,nf,d⟩:=I.pin p hp
     exact ⟨(hs.2 p.1 ne).trans e,n,ne,nf,d⟩
 · have hfn:X.fn x = true:=by
     rcases hf with z | z
     · exact z
     · rw [z] at hk; cases hk
   obtain ⟨c,hc⟩:=I.ok.has x (.inl hk)
   obtain ⟨w',z⟩:=I.cell x c hc
   refine wpAny_storeName_cell I.ok.kind hk hc z (fun h' hc' hs => ?_)
   obtain ⟨oc,hoc,hocd⟩:=id z
   refine h { s with heap:=h' } ⟨I.ok,I.os,I.bare,⟨fun b o e n hb hx => ?_,fun b o e n hb hx => ?_,I.base.free,fun b o e hx => ?_,I.base.tups,I.base.frzs,I.base.tbls⟩,⟨m,hn.sameBut hs (Ne.symm (cne x c hc)),fun j y v' e1 e2 e3 => ?_⟩,fun y c' e => ?_,I.free,I.freeC,fun p hp => ?_,tracked ⟨oc,hoc,I.freeC x c hc⟩ hs,by simpa using I.len⟩ ⟨c,hs,.inr hc⟩
   · exact (hs.2 b (Bd (Az (An e) (I.ok.cab x c hfn hc)))).trans (I.base.keep b o e n hb hx)
   · obtain ⟨sl,e1⟩:=I.base.slot b o e n hb hx
     exact ⟨sl,(hs.2 b (Bd (Az (An e) (I.ok.cab x c hfn hc)))).trans e1⟩
   · obtain ⟨o',e1⟩:=I.base.there b o e hx
     exact ⟨o',(hs.2 b (Bd (Az (An e) (I.ok.cab x c hfn hc)))).trans e1⟩
   · by_cases hj:j = i
     · subst hj
       rw [hi] at e1; cases e1
       rw [Fy hiσ] at e2
       cases e2
       exact ⟨u,r,.inr ⟨.inl hk,c,hc,hc'⟩⟩
     · rw [Fa (Ne.symm hj)] at e2
       obtain ⟨u',r',q⟩:=hl j y v' e1 e2 e3
       refine ⟨u',r',?_⟩
       rcases q with q | ⟨k,c',e,z'⟩
       · exact .inl q
       · refine .inr ⟨k,c',e,z'.sameBut hs ?_⟩
         rintro rfl
         exact hj (lS hN e1 (I.ok.inj _ _ _ e hc ▸ hi))
   · by_cases hcc:c' = c
     · subst hcc; exact ⟨_,hc'⟩
     · obtain ⟨w2,z2⟩:=I.cell y c' e
       exact ⟨w2,z2.sameBut hs hcc⟩
   · obtain ⟨e,n,ne,nf,d⟩:=I.pin p hp
     refine ⟨(hs.2 p.1 ?_).trans e,n,ne,nf,d⟩
     intro q
     rw [q,hoc] at e
     have q':oc = p.2:=Bi e
     exact d w' (by rw [← q']; exact hocd)
theorem mS {M:Model} {A:Around} {E:Value → Shared → Prop} {i:Nat} {x:Str} {v:V} {u:Value} {Q:Unit → Shared → Prop} (I:Inv X pins σ H s) (hN:X.N.Nodup) (hi:X.N[i]? = some x) (hx:Loc X.env.scope x) (r:RelV v u)
   (h:∀ s',Inv X pins (σ.set i (some v)) H s' → Q () s') (hf:X.fn x = true ∨ X.env.scope.names.lookup x = some .local:=by first | exact .inl rfl | exact .inr rfl | assumption):wpAny M A (storeName X.env x u) Q E s :=
 pB I hN hi hx r (fun s' I' _ => h s' I') hf
theorem Inv.call' {s':Shared} {ch:List Addr} (I:Inv X pins σ H s) (ho:s'.os = s.os) (u:Un (frs X.stack) ch H H' s.heap s'.heap) (hok:HOk X.prog X.w H' s'.heap) (hg:AllBare s'.gens)
   (hch:∀ b ∈ ch,(b ∈ X.ex ∨ X.s₀.heap.objs.size ≤ b) ∧ b ≠ X.env.locals ∧ (∀ x c,X.env.cells.lookup x = some c → c ≠ b) ∧ ∀ p ∈ X.pn ++ pins,p.1 ≠ b):Inv X pins σ H' s':=by
 obtain ⟨h',g',d',t',o'⟩:=s'
 have e:o' = s.os:=ho
 subst e
 exact I.call (g':=g') (t':=t') (d':=d') u hok hg hch
end
abbrev XK:=Value → Option Addr → Hp → Prop
abbrev St:=List (Option V)
abbrev VK:=V → Hp → Prop
abbrev TE:=St → Hp → VK → Prop
abbrev TT:=St → Hp → (Bool → Hp → Prop) → Prop
abbrev TA:=St → Hp → (List V → Hp → Prop) → Prop
structure Ends where
 nx:St → Hp → Prop
 rt:VK
 bk:St → Hp → Prop:=fun _ _ => False
 ct:St → Hp → Prop:=fun _ _ => False
abbrev TS:=Ends → St → Hp → Prop
def EP (X:Cx) (pins:List (Addr × Obj)) (σ:St) (Q:VK) (u:Value) (s':Shared):Prop:=∃ v H',Inv X pins σ H' s' ∧ RelV v u ∧ Q v H'
def TP (X:Cx) (pins:List (Addr × Obj)) (σ:St) (Q:Bool → Hp → Prop) (b:Bool) (s':Shared):Prop:=∃ H',Inv X pins σ H' s' ∧ Q b H'
def AP (X:Cx) (pins:List (Addr × Obj)) (σ:St) (Q:List V → Hp → Prop) (us:List Value) (s':Shared):Prop:=∃ vs H',Inv X pins σ H' s' ∧ Vals vs us ∧ Q vs H'
def SP (X:Cx) (pins:List (Addr × Obj)) (D:Ends) (f:Flow) (s':Shared):Prop :=
 match f with
 | .next => ∃ σ' H',Inv X pins σ' H' s' ∧ D.nx σ' H'
 | .brk => ∃ σ' H',Inv X pins σ' H' s' ∧ D.bk σ' H'
 | .cont => ∃ σ' H',Inv X pins σ' H' s' ∧ D.ct σ' H'
 | .ret u => ∃ v σ' H',Inv X pins σ' H' s' ∧ RelV v u ∧ D.rt v H'
def PE (X:Cx) (e:Expr) (t:TE):Prop :=
 ∀ (pins:List (Addr × Obj)) (s:Shared) (σ:St) (H:Hp) (Q:VK),Inv X pins σ H s → t σ H Q → wpAny (model X.prog X.w) X.A (eval e X.env) (EP X pins σ Q) X.xe s
def PT (X:Cx) (e:Expr) (t:TT):Prop :=
 ∀ (pins:List (Addr × Obj)) (s:Shared) (σ:St) (H:Hp) (Q:Bool → Hp → Prop),Inv X pins σ H s → t σ H Q → wpAny (model X.prog X.w) X.A (isTrue e X.env (eval e X.env)) (TP X pins σ Q) X.xe s
def PW (X:Cx) (e:Expr) (t:TT):Prop :=
 ∀ (whole:Sem Value) (pins:List (Addr × Obj)) (s:Shared) (σ:St) (H:Hp) (Q:Bool → Hp → Prop),Inv X pins σ H s → t σ H Q → wpAny (model X.prog X.w) X.A (isTrue e X.env whole) (TP X pins σ Q) X.xe s
theorem PW.pt {X:Cx} {e:Expr} {t:TT} (h:PW X e t):PT X e t:=h _
def PA (X:Cx) (es:List Expr) (t:TA):Prop :=
 ∀ (pos:Pos) (pins:List (Addr × Obj)) (s:Shared) (σ:St) (H:Hp) (Q:List V → Hp → Prop),Inv X pins σ H s → t σ H Q → wpAny (model X.prog X.w) X.A (spliced (backTo pos (starEach es X.env))) (AP X pins σ Q) X.xe s
def PS (X:Cx) (st:Stmt) (t:TS):Prop :=
 ∀ (pins:List (Addr × Obj)) (s:Shared) (σ:St) (H:Hp) (D:Ends),Inv X pins σ H s → t D σ H → wpAny (model X.prog X.w) X.A (exec st X.env) (SP X pins D) X.xe s
def PSs (X:Cx) (st:List Stmt) (t:TS):Prop :=
 ∀ (pins:List (Addr × Obj)) (s:Shared) (σ:St) (H:Hp) (D:Ends),Inv X pins σ H s → t D σ H → wpAny (model X.prog X.w) X.A (execs st X.env) (SP X pins D) X.xe s
theorem thn {α:Type} {t:Sem α} {Q Q':α → Shared → Prop} {M:Model} {A:Around} {E:Value → Shared → Prop} {s:Shared} (h:wpAny M A t Q E s) (hQ:∀ a s,Q a s → Q' a s):wpAny M A t Q' E s:=Bv h hQ fun _ _ x => x
end L2
namespace L2
open PySem PySem.Spec PyProof.Rows
section
variable {X:Cx}
theorem bin {a b:Expr} {ta tb:TE} (ha:PE X a ta) (hb:PE X b tb) {pins:List (Addr × Obj)} {s:Shared} {σ:St} {H:Hp} {R:V → V → Hp → Prop} (I:Inv X pins σ H s) (h:ta σ H fun x H1 => tb σ H1 fun y H2 => R x y H2)
   {α:Type} {Q:α → Shared → Prop} {f:Value → Value → Sem α}
   (hf:∀ v u s2 x y H2,Inv X pins σ H2 s2 → RelV x v → RelV y u → R x y H2 → wpAny (model X.prog X.w) X.A (f v u) Q X.xe s2) :
   wpAny (model X.prog X.w) X.A (eval a X.env) (fun v s₁ => wpAny (model X.prog X.w) X.A (eval b X.env) (fun u s₂ => wpAny (model X.prog X.w) X.A (f v u) Q X.xe s₂) X.xe s₁) X.xe s:=by
 refine thn (ha pins s σ H _ I h) fun v s1 ⟨x,H1,I1,r1,q1⟩ => ?_
 refine thn (hb pins s1 σ H1 _ I1 q1) fun u s2 ⟨y,H2,I2,r2,q2⟩ => ?_
 exact hf v u s2 x y H2 I2 r1 r2 q2
def cJ9 (i:Nat):TE:=fun σ H Q => ∃ v,σ[i]? = some (some v) ∧ Q v H
def tC (v:V):TE:=fun _ H Q => Q v H
theorem bJ5 {i:Nat} {x:Str} {pos:Pos} (hN:X.N[i]? = some x) (hv:Vis X.env.scope x) (hd:(x == ("__debug__" : Str)) = false:=by decide) (hcd:(x == ("__classdict__" : Str)) = false:=by decide):PE X (.Name x pos) (cJ9 i):=by
 intro pins s σ H Q I h
 obtain ⟨v,e,h⟩:=h
 obtain ⟨m,hn,hl⟩:=I.loc
 obtain ⟨u,r,l⟩:=hl i x v hN e hv
 have fin:EP X pins σ Q u s:=⟨v,H,I,r,h⟩
 rcases l with ⟨hk,hm⟩ | ⟨hk,c,hc,hcell⟩
 · exact wpAny_Name (wpAny_loadName_local I.ok.kind hk hn hm fin) hd
 · rcases hk with hk | hk
   · exact wpAny_Name (wpAny_loadName_cell I.ok.kind hk hc hcell fin) hd
   · exact wpAny_Name (wpAny_loadName_free I.ok.kind hk hc hcell fin hcd) hd
theorem aI {i j pos}:PE X (.Constant (.int i) j pos) (tC (.int i)):=fun _ _ _ H _ I h => wpAny_Constant_int ⟨.int i,H,I.tok _,⟨_,rfl⟩,h⟩
theorem fG {b j pos}:PE X (.Constant (.bool b) j pos) (tC (.bl b)):=fun _ _ _ H _ I h => Constant_bool ⟨.bl b,H,I,rfl,h⟩
theorem lW {j pos}:PE X (.Constant .none j pos) (tC .non):=fun _ _ _ H _ I h => Constant_none ⟨.non,H,I,rfl,h⟩
theorem iS {x j pos}:PE X (.Constant (.str x) j pos) (tC (.str x)):=fun _ _ _ H _ I h => Calls.Constant_str ⟨.str x,H,I.tok _,⟨_,rfl⟩,h⟩
def Gl (X:Cx) (x:Str):Prop:=X.env.kindOf x = some .globalImplicit
theorem gY {E:Value → Shared → Prop} {pins:List (Addr × Obj)} {s:Shared} {σ:St} {H:Hp} {x:Str} {u:Value} {pos:Pos} {Q:Value → Shared → Prop} (I:Inv X pins σ H s) (hg:Gl X x) (hm:X.mg x = some u) (h:Q u s)
   (hd:(x == ("__debug__" : Str)) = false:=by decide):wpAny (model X.prog X.w) X.A (eval (.Name x pos) X.env) Q E s :=
 Calls.Name_function_global I.ok.kind hg (Calls.loadGlobal_global (by rw [I.ok.glob]; exact I.mod.glob.keeps I.bk) hm h) hd
theorem gG {E:Value → Shared → Prop} {pins:List (Addr × Obj)} {s:Shared} {σ:St} {H:Hp} {x:Str} {u:Value} {pos:Pos} {Q:Value → Shared → Prop} (I:Inv X pins σ H s) (hg:Gl X x) (hm:X.mg x = none) (hv:bootBuiltins x = some u) (h:Q u s)
   (hn:x ≠ "__name__" := by decide) (hd:(x == ("__debug__" : Str)) = false:=by decide):wpAny (model X.prog X.w) X.A (eval (.Name x pos) X.env) Q E s:=by
 obtain ⟨mb,h1,h2⟩:=I.mod.blt
 exact Calls.Name_function_global I.ok.kind hg (Calls.loadGlobal_builtin (by rw [I.ok.glob]; exact I.mod.glob.keeps I.bk) hm (by rw [I.ok.blt]; exact h1.keeps I.bk) ((h2 x hn).trans hv) h) hd
theorem aJZ {x:Str} {v:V} {u:Value} {pos:Pos} (hg:Gl X x) (hm:X.mg x = some u) (r:RelV v u) (hd:(x == ("__debug__" : Str)) = false:=by decide):PE X (.Name x pos) (tC v) :=
 fun _ _ _ H _ I h => gY I hg hm ⟨v,H,I,r,h⟩ hd
theorem bZE {x:Str} {v:V} {u:Value} {pos:Pos} (hg:Gl X x) (hm:X.mg x = none) (hv:bootBuiltins x = some u) (r:RelV v u) (hn:x ≠ "__name__" := by decide) (hd:(x == ("__debug__" : Str)) = false:=by decide):PE X (.Name x pos) (tC v) :=
 fun _ _ _ H _ I h => gG I hg hm hv ⟨v,H,I,r,h⟩ hn hd
variable {a b:Expr} {ta tb:TE} {pos:Pos}
variable {tA tB':TT} {rest:List Expr}
def cZW (t u:TT):TT:=fun σ H Q => t σ H fun c H1 => if c = true then u σ H1 Q else Q false H1
def tOr (t u:TT):TT:=fun σ H Q => t σ H fun c H1 => if c = true then Q true H1 else u σ H1 Q
def cJQ (t:TT):TT:=fun σ H Q => t σ H fun c H1 => Q (!c) H1
theorem bZC (ha:PT X a tA):PW X (.BoolOp .And [a] pos) tA:=by
 intro wh pins s σ H Q I h
 refine isTrue_and (thn (ha pins s σ H Q I h) fun c s1 e => ?_)
 cases c with
 | true => exact isTrue_and_nil e
 | false => exact e
theorem iO (ha:PT X a tA):PW X (.BoolOp .Or [a] pos) tA:=by
 intro wh pins s σ H Q I h
 refine isTrue_or (thn (ha pins s σ H Q I h) fun c s1 e => ?_)
 cases c with
 | false => exact isTrue_or_nil e
 | true => exact e
theorem cXZ (ha:PT X a tA) (hb:PW X (.BoolOp .And (b :: rest) pos) tB'):PW X (.BoolOp .And (a :: b :: rest) pos) (cZW tA tB'):=by
 intro wh pins s σ H Q I h
 refine isTrue_and (thn (ha pins s σ H _ I h) fun c s1 ⟨H1,I1,q1⟩ => ?_)
 cases c with
 | true => exact hb wh pins s1 σ H1 Q I1 q1
 | false => exact ⟨H1,I1,q1⟩
theorem fZ (ha:PT X a tA) (hb:PW X (.BoolOp .Or (b :: rest) pos) tB'):PW X (.BoolOp .Or (a :: b :: rest) pos) (tOr tA tB'):=by
 intro wh pins s σ H Q I h
 refine isTrue_or (thn (ha pins s σ H _ I h) fun c s1 ⟨H1,I1,q1⟩ => ?_)
 cases c with
 | true => exact ⟨H1,I1,q1⟩
 | false => exact hb wh pins s1 σ H1 Q I1 q1
theorem gP (ha:PT X a tA):PT X (.UnaryOp .Not a pos) (cJQ tA):=by
 intro pins s σ H Q I h
 exact isTrue_not (ha pins s σ H (fun c H1 => Q (!c) H1) I h)
end
end L2
namespace L2
open PySem PySem.Spec PyProof.Rows
def SqL (K:PySem.W.Frag) (H:Hp) (a:Addr) (xs:List V):Prop :=
 Rd H a (.lst xs) ∨
   ∃ (o:Obj) (its:Array Value) (n:Nat),K.lookup a = some o ∧ o.cls = .type "list" ∧ o.dict = none ∧ o.data = .seq its n ∧ its.size ≤ sizeLine ∧ Vals xs its.toList
def SqT (K:PySem.W.Frag) (H:Hp) (a:Addr) (xs:List V):Prop :=
 Rd H a (.tup xs) ∨
   ∃ (o:Obj) (its:Array Value) (n:Nat),K.lookup a = some o ∧ o.cls = .type "tuple" ∧ o.data = .seq its n ∧ its.size ≤ sizeLine ∧ Vals xs its.toList
def dQP:Value → Option V
 | .none => some .non
 | .bool b => some (.bl b)
 | .int i _ => some (.int i)
 | .str x _ => some (.str x)
 | .bytes b _ => some (.byt b)
 | .float b _ => some (.flt b)
 | .ref a => some (.ref a)
 | .type n => some (.ty n)
 | _ => none
theorem RelV.abs {x:V} {u:Value} (r:RelV x u):dQP u = some x:=by
 cases x with
 | non => cases r; rfl
 | bl _ => cases r; rfl
 | int _ => obtain ⟨t,rfl⟩:=r; rfl
 | str _ => obtain ⟨t,rfl⟩:=r; rfl
 | byt _ => obtain ⟨t,rfl⟩:=r; rfl
 | flt _ => obtain ⟨t,rfl⟩:=r; rfl
 | ref _ => cases r; rfl
 | ty _ => cases r; rfl
theorem RelV.inj {x y:V} {u:Value} (r:RelV x u) (q:RelV y u):x = y:=Bi (r.abs.symm.trans q.abs)
theorem Vals.inj:∀ {xs ys:List V} {us:List Value},Vals xs us → Vals ys us → xs = ys
 | _,_,_,.nil,.nil => rfl
 | _,_,_,.cons r t,.cons r' t' => by rw [r.inj r',Vals.inj t t']
section
variable {X:Cx} {pins:List (Addr × Obj)} {σ:St} {H:Hp} {s:Shared} {a:Addr} {xs ys:List V}
theorem SqL.of {K:PySem.W.Frag} (h:H a = some (.lst xs)):SqL K H a xs:=.inl (.inl h)
theorem SqT.of {K:PySem.W.Frag} (h:H a = some (.tup xs)):SqT K H a xs:=.inl (.inl h)
theorem Inv.list (I:Inv X pins σ H s) (h:SqL X.K H a xs):∃ its:List Value,Vals xs its ∧ PlainL s.heap a its.toArray ∧ xs.length ≤ sizeLine:=by
 rcases h with h | ⟨o,its,n,hk,hc,hd,hs,hz,r⟩
 · obtain ⟨z,its,n,r,e⟩:=h.ok I.hok
   exact ⟨its,r,⟨_,n,e,rfl,rfl,rfl⟩,z⟩
 · refine ⟨its.toList,r,⟨o,n,I.kIn a o hk,hc,hd,by simpa using hs⟩,?_⟩
   have e:=r.length
   simp only [Array.length_toList] at e
   omega
theorem Inv.tuple (I:Inv X pins σ H s) (h:SqT X.K H a xs):∃ its:List Value,Vals xs its ∧ IsTup s.heap a its.toArray ∧ xs.length ≤ sizeLine:=by
 rcases h with h | ⟨o,its,n,hk,hc,hs,hz,r⟩
 · obtain ⟨z,its,r,p⟩:=h.ok I.hok
   exact ⟨its,r,p,z⟩
 · refine ⟨its.toList,r,⟨o,I.kIn a o hk,hc,n,by simpa using hs⟩,?_⟩
   have e:=r.length
   simp only [Array.length_toList] at e
   omega
theorem Inv.list_inj (I:Inv X pins σ H s) (h:SqL X.K H a xs) (h':SqL X.K H a ys):xs = ys:=by
 obtain ⟨its,r,⟨o,n,e,_,_,d⟩,_⟩:=I.list h
 obtain ⟨its',r',⟨o',n',e',_,_,d'⟩,_⟩:=I.list h'
 rw [e] at e'; cases e'
 rw [d] at d'
 injection d' with d1 _
 have:its = its':=by simpa using congrArg Array.toList d1
 subst this
 exact r.inj r'
end
abbrev Cx.wish (X:Cx) (E:Value → Shared → Prop):Cx:={ X with xe:=E }
abbrev Cx.nox (X:Cx):Cx:=X.wish fun _ _ => False
theorem Cx.Ok.wish {X:Cx} (ok:X.Ok) (E:Value → Shared → Prop):(X.wish E).Ok :=
 ⟨ok.mod,ok.kind,ok.glob,ok.blt,ok.above,ok.inj,ok.has,ok.cab,ok.hd,ok.frames,ok.stk,ok.exf,ok.bs,ok.bsz,ok.noex,ok.exfs,ok.funs,ok.frf⟩
theorem Cx.Ok.unwish {X:Cx} {E:Value → Shared → Prop} (ok:(X.wish E).Ok):X.Ok :=
 ⟨ok.mod,ok.kind,ok.glob,ok.blt,ok.above,ok.inj,ok.has,ok.cab,ok.hd,ok.frames,ok.stk,ok.exf,ok.bs,ok.bsz,ok.noex,ok.exfs,ok.funs,ok.frf⟩
section
variable {X:Cx} {pins:List (Addr × Obj)} {σ:St} {H:Hp} {s:Shared} {E:Value → Shared → Prop}
theorem Inv.wish (I:Inv X pins σ H s) (E:Value → Shared → Prop):Inv (X.wish E) pins σ H s:=⟨I.ok.wish E,I.os,I.bare,I.base,I.loc,I.cell,I.free,I.freeC,I.pin,I.hok,I.len⟩
theorem Inv.unwish (I:Inv (X.wish E) pins σ H s):Inv X pins σ H s:=⟨I.ok.unwish,I.os,I.bare,I.base,I.loc,I.cell,I.free,I.freeC,I.pin,I.hok,I.len⟩
theorem SP.unwish {D:Ends} {f:Flow} {s':Shared} (h:SP (X.wish E) pins D f s'):SP X pins D f s':=by
 cases f with
 | next => obtain ⟨σ',H',I,q⟩:=h; exact ⟨σ',H',I.unwish,q⟩
 | brk => obtain ⟨σ',H',I,q⟩:=h; exact ⟨σ',H',I.unwish,q⟩
 | cont => obtain ⟨σ',H',I,q⟩:=h; exact ⟨σ',H',I.unwish,q⟩
 | ret u => obtain ⟨v,σ',H',I,r,q⟩:=h; exact ⟨v,σ',H',I.unwish,r,q⟩
theorem PE.nox {e:Expr} {t:TE} (h:PE X.nox e t):PE X e t:=fun pins s σ H Q I hw =>
 Bv (h pins s σ H Q (I.wish _) hw) (fun _ _ ⟨v,H',I',r,q⟩ => ⟨v,H',I'.unwish,r,q⟩) fun _ _ z => False.elim z
theorem PT.nox {e:Expr} {t:TT} (h:PT X.nox e t):PT X e t:=fun pins s σ H Q I hw =>
 Bv (h pins s σ H Q (I.wish _) hw) (fun _ _ ⟨H',I',q⟩ => ⟨H',I'.unwish,q⟩) fun _ _ z => False.elim z
theorem PSs.nox {st:List Stmt} {t:TS} (h:PSs X.nox st t):PSs X st t:=fun pins s σ H D I hw =>
 Bv (h pins s σ H D (I.wish _) hw) (fun _ _ q => q.unwish) fun _ _ z => False.elim z
end
section
variable {X:Cx} {st:Stmt} {rest:List Stmt} {t u:TS} {e:Expr} {te:TE} {pos:Pos}
def bZS:TS:=fun D σ H => D.nx σ H
def cQQ (t u:TS):TS:=fun D σ H => t { D with nx:=u D } σ H
theorem bQ:PSs X [] bZS:=fun _ _ σ H _ I h => wpAny_execs_nil ⟨σ,H,I,h⟩
theorem aF (h1:PS X st t) (h2:PSs X rest u):PSs X (st :: rest) (cQQ t u):=by
 intro pins s σ H D I h
 refine wpAny_execs_cons (thn (h1 pins s σ H { D with nx:=u D } I h) fun f s1 q => ?_)
 cases f with
 | next =>
   obtain ⟨σ',H',I',q⟩:=q
   exact h2 pins s1 σ' H' D I' q
 | ret v => exact q
 | brk => exact q
 | cont => exact q
theorem aK (h1:PS X st t):PSs X [st] t:=by
 intro pins s σ H D I h
 refine wpAny_execs_cons (thn (h1 pins s σ H D I h) fun f s1 q => ?_)
 cases f with
 | next => exact wpAny_execs_nil q
 | ret v => exact q
 | brk => exact q
 | cont => exact q
theorem Inv.quiet {pins:List (Addr × Obj)} {σ:St} {H:Hp} {s:Shared} (I:Inv X pins σ H s):interactive X.env = false:=by simp [interactive,I.ok.kind]
def bZL (te:TE):TS:=fun D σ H => te σ H fun _ H1 => D.nx σ H1
theorem cW (he:PE X e te) (hs:swapsWith e none pos.line X.env = pure false:=by rfl):PS X (.Expr e pos) (bZL te):=by
 intro pins s σ H D I h
 exact wpAny_Expr_any (thn (he pins s σ H _ I h) fun v s1 ⟨x,H1,I1,r1,q1⟩ => ⟨σ,H1,I1,q1⟩) I.quiet hs
def cZ1 (te:TE):TS:=fun D σ H => te σ H D.rt
theorem aW (he:PE X e te):PS X (.Return (some e) pos) (cZ1 te):=by
 intro pins s σ H D I h
 exact wpAny_Return_some (thn (he pins s σ H _ I h) fun v s1 ⟨x,H1,I1,r1,q1⟩ => ⟨x,σ,H1,I1,r1,q1⟩)
def cZ8 (c:TT) (t u:TS):TS:=fun D σ H => c σ H fun b H1 => if b = true then t D σ H1 else u D σ H1
theorem dM {c:Expr} {a b:List Stmt} {tc:TT} (hc:PT X c tc) (ha:PSs X a t) (hb:PSs X b u):PS X (.If c a b pos) (cZ8 tc t u):=by
 intro pins s σ H D I h
 refine wpAny_If (thn (hc pins s σ H _ I h) fun d s1 ⟨H1,I1,q1⟩ => ?_)
 cases d with
 | true => exact ha pins s1 σ H1 D I1 q1
 | false => exact hb pins s1 σ H1 D I1 q1
end
abbrev TG:=V → St → Hp → (St → Hp → Prop) → Prop
abbrev TGs:=List V → St → Hp → (St → Hp → Prop) → Prop
def PG (X:Cx) (target:Expr) (t:TG):Prop :=
 ∀ (pins:List (Addr × Obj)) (s:Shared) (σ:St) (H:Hp) (v:V) (u:Value) (Q:St → Hp → Prop),Inv X pins σ H s → RelV v u → t v σ H Q →
   wpAny (model X.prog X.w) X.A (assign target X.env u) (fun _ s' => ∃ σ' H',Inv X pins σ' H' s' ∧ Q σ' H') X.xe s
def PGs (X:Cx) (ts:List Expr) (t:TGs):Prop :=
 ∀ (pins:List (Addr × Obj)) (s:Shared) (σ:St) (H:Hp) (vs:List V) (us:List Value) (Q:St → Hp → Prop),Inv X pins σ H s → Vals vs us → t vs σ H Q →
   wpAny (model X.prog X.w) X.A (assignInOrder ((assignEach ts X.env).map (·.2)) us) (fun _ s' => ∃ σ' H',Inv X pins σ' H' s' ∧ Q σ' H') X.xe s
section
variable {X:Cx} {pos:Pos}
def oH (i:Nat):TG:=fun v σ H Q => Q (σ.set i (some v)) H
theorem aP {i:Nat} {x:Str} (hN:X.N.Nodup) (hi:X.N[i]? = some x) (hx:Loc X.env.scope x) (hf:X.fn x = true ∨ X.env.scope.names.lookup x = some .local:=by first | exact .inl rfl | exact .inr rfl | assumption):PG X (.Name x pos) (oH i):=by
 intro pins s σ H v u Q I r h
 exact wpAny_assign_Name (mS I hN hi hx r (fun s' I' => ⟨_,H,I',h⟩) hf)
def cQA:TGs:=fun vs σ H Q => vs = [] ∧ Q σ H
def vU (t:TG) (u:TGs):TGs:=fun vs σ H Q => ∃ v r,vs = v :: r ∧ t v σ H fun σ' H' => u r σ' H' Q
theorem vL:PGs X [] cQA:=by
 intro pins s σ H vs us Q I r h
 obtain ⟨e,h⟩:=h
 subst e
 cases r
 exact assignInOrder_nil ⟨σ,H,I,h⟩
theorem jM {e:Expr} {es:List Expr} {t:TG} {u:TGs} (h1:PG X e t) (h2:PGs X es u)
   (hs:(assignEach (e :: es) X.env).map (·.2) = assign e X.env :: (assignEach es X.env).map (·.2):=by rfl):PGs X (e :: es) (vU t u):=by
 intro pins s σ H vs us Q I r h
 obtain ⟨v,vr,e1,h⟩:=h
 subst e1
 cases r with
 | cons r rr =>
   rw [hs]
   refine assignInOrder_cons (thn (h1 pins s σ H _ _ _ I r h) fun _ s1 ⟨σ1,H1,I1,q1⟩ => ?_)
   exact h2 pins s1 σ1 H1 _ _ Q I1 rr q1
def bQ6 (K:PySem.W.Frag) (n:Nat) (t:TGs):TG:=fun v σ H Q => ∃ a xs,v = .ref a ∧ SqT K H a xs ∧ xs.length = n ∧ t xs σ H Q
theorem cXP {es:List Expr} {k:Nat} {t:TGs} {n:Nat} (hc:X.calm = true) (h:PGs X es t)
   (hn:(assignEach es X.env).length = n:=by rfl) (hst:(assignEach es X.env).findIdx? (·.1) = none:=by rfl):PG X (.Tuple es k pos) (bQ6 X.K n t):=by
 intro pins s σ H v u Q I r hw
 obtain ⟨a,xs,e1,hq,hl,hw⟩:=hw
 subst e1
 cases r
 obtain ⟨its,rv,ht,hz⟩:=I.tuple hq
 refine assign_Tuple_tuple (I.ok.hd hc) ht (by simp [hn,← hl,rv.length]) hst fun h' hx => ?_
 have I1:Inv X pins σ H { s with heap:=h' }:=I.kept (t':=s.toks) fun b o e => hx b o (Bd (An e)) e
 exact h pins _ σ H xs _ Q I1 (by simpa using rv) hw
def bX1 (te:TE) (g:TG):TS:=fun D σ H => te σ H fun x H1 => g x σ H1 D.nx
theorem uZ {tg e:Expr} {te:TE} {g:TG} (he:PE X e te) (hg:PG X tg g) (hs:swapsWithSole [tg] e pos.line X.env = pure false:=by rfl) (hw:swappedStores [tg] e X.env = pure none:=by rfl)
   (h1:(assignEach [tg] X.env).map (·.2) = [assign tg X.env]:=by rfl):PS X (.Assign [tg] e pos) (bX1 te g):=by
 intro pins s σ H D I h
 refine wpAny_Assign_stores (thn (he pins s σ H _ I h) fun v s1 ⟨x,H1,I1,r1,q1⟩ => ?_) hs hw
 rw [h1]
 exact thn (hg pins s1 σ H1 x v _ I1 r1 q1) fun _ s2 q => q
theorem aQ {i:Nat} {x:Str} {e:Expr} {te:TE} {pos':Pos} (hN:X.N.Nodup) (hi:X.N[i]? = some x) (hx:Loc X.env.scope x) (he:PE X e te) (hs:swapsWith e (some (.Name x pos')) pos.line X.env = pure false:=by rfl) (hf:X.fn x = true ∨ X.env.scope.names.lookup x = some .local:=by first | exact .inl rfl | exact .inr rfl | assumption) :
   PS X (.Assign [.Name x pos'] e pos) (bX1 te (oH i)):=by
 intro pins s σ H D I h
 refine wpAny_Assign_Name (thn (he pins s σ H _ I h) fun v s1 ⟨y,H1,I1,r1,q1⟩ => ?_) hs
 exact mS I1 hN hi hx r1 (fun s2 I2 => ⟨_,H1,I2,q1⟩) hf
end
section
variable {X:Cx} {pos:Pos}
def bJQ (c:TT) (tb:TS):TS:=fun D σ H => ∃ W:Nat → St → Hp → Prop,(∃ m,W m σ H) ∧ ∀ m σ H,W m σ H →
 c σ H fun b H1 => if b = true then ∃ N:St → Hp → Prop,(∀ σ' H',N σ' H' → ∃ m',m' < m ∧ W m' σ' H') ∧ tb { D with nx:=N,ct:=N,bk:=D.nx } σ H1 else D.nx σ H1
theorem mD {c:Expr} {body:List Stmt} {tc:TT} {tb:TS} (hp:PassesOwn (model X.prog X.w) X.A X.env X.xe) (hc:PT X c tc) (hb:PSs X body tb):PS X (.While c body [] pos) (bJQ tc tb):=by
 intro pins s σ H D I h
 obtain ⟨W,⟨m0,w0⟩,turn⟩:=h
 refine wpAny_While (codeAny_whileLoop (fun n s' => ∃ σ' H',Inv X pins σ' H' s' ∧ W n σ' H') ?_ m0 ⟨σ,H,I,w0⟩)
 rintro n s1 ⟨σ1,H1,I1,w1⟩
 refine Ed hp (thn (hc pins s1 σ1 H1 _ I1 (turn n σ1 H1 w1)) fun b s2 ⟨H2,I2,q2⟩ => ?_)
 cases b with
 | true =>
   obtain ⟨N,hN,q2⟩:=q2
   rw [if_pos rfl]
   refine Ed hp (thn (hb pins s2 σ1 H2 _ I2 q2) fun f s3 q3 => ?_)
   cases f with
   | next =>
     obtain ⟨σ3,H3,I3,n3⟩:=q3
     obtain ⟨m',hm,w3⟩:=hN σ3 H3 n3
     exact ⟨m',hm,σ3,H3,I3,w3⟩
   | cont =>
     obtain ⟨σ3,H3,I3,n3⟩:=q3
     obtain ⟨m',hm,w3⟩:=hN σ3 H3 n3
     exact ⟨m',hm,σ3,H3,I3,w3⟩
   | brk => exact q3
   | ret v => exact q3
 | false =>
   rw [if_neg Ao]
   exact wpAny_execs_nil ⟨σ1,H2,I2,q2⟩
end
structure It where
 go:Nat → Hp → Prop
 yld:Nat → Hp → V → Hp → Prop
 stop:Nat → Hp → Prop
def iF (X:Cx) (pins:List (Addr × Obj)) (H:Hp) (b:Addr):Prop :=
 H b = none ∧ b ≠ X.env.locals ∧ b ∉ X.fs ∧ (b ∈ X.ex ∨ X.s₀.heap.objs.size ≤ b) ∧ (∀ x c,X.env.cells.lookup x = some c → c ≠ b) ∧ ∀ p ∈ X.pn ++ pins,p.1 ≠ b
theorem Inv.fpOk {X:Cx} {pins:List (Addr × Obj)} {σ:St} {H H':Hp} {s:Shared} {b:Addr} (I:Inv X pins σ H s) (hb:s.heap.objs.size ≤ b) (hn:H' b = none):iF X pins H' b:=by
 refine ⟨hn,Fz (Az I.lt hb),I.nofs hb,.inr (Ax I.sz hb),fun x c e z => ?_,fun p hp z => ?_⟩
 · obtain ⟨v,q⟩:=I.cell x c e
   exact absurd (Az q.lt (by rw [z]; exact hb)) (Dn _)
 · exact absurd (Az (An (I.pin p hp).1) (by rw [z]; exact hb)) (Dn _)
structure Turn (P:Program) (w:World) (K:PySem.W.Frag) (tg:Expr) (J:It) (fp:List Addr) (it:Addr) (tn:Nat → Heap → Prop):Prop where
 mem:it ∈ fp
 obj:∀ i h,tn i h → ∀ b ∈ fp,∃ o,h.get? b = some o ∧ ∀ v,o.data ≠ .cell v
 keep:∀ i h h',tn i h → (∀ b ∈ fp,∀ o,h.get? b = some o → h'.get? b = some o) → tn i h'
 item:∀ (X:Cx),X.prog = P → X.w = w → X.K = K → X.calm = true → ∀ (i:Nat) (pins:List (Addr × Obj)) (s:Shared) (σ:St) (H:Hp) (E:Value → Shared → Prop),Inv X pins σ H s → (∀ b ∈ fp,iF X pins H b) → tn i s.heap → J.go i H →
   wpAny (model P w) X.A (pyNext (.ref it)) (fun r s1 => ∃ u,r = some u ∧
     wpAny (model P w) X.A (letOwnedTupleGo tg (.ref it) u) (fun _ s2 => ∃ x H',Inv X pins σ H' s2 ∧ RelV x u ∧ J.yld i H x H' ∧ tn (i + 1) s2.heap ∧ ∀ b ∈ fp,H' b = none) E s1) E s
 done:∀ (X:Cx),X.prog = P → X.w = w → X.K = K → X.calm = true → ∀ (i:Nat) (pins:List (Addr × Obj)) (s:Shared) (σ:St) (H:Hp) (E:Value → Shared → Prop),Inv X pins σ H s → (∀ b ∈ fp,iF X pins H b) → tn i s.heap → J.stop i H →
   wpAny (model P w) X.A (pyNext (.ref it)) (fun r s1 => r = none ∧ Inv X pins σ H s1) E s
 self:∀ (A:Around) (i:Nat) (s:Shared) (Q:Value → Shared → Prop) (E:Value → Shared → Prop),tn i s.heap → Q (.ref it) s → wpAny (model P w) A (pyIter (.ref it)) Q E s
abbrev TI:=St → Hp → (It → Hp → Prop) → Prop
def PIE (X:Cx) (pins:List (Addr × Obj)) (σ:St) (tg:Expr) (R:It → Hp → Prop) (itv:Value) (s2:Shared):Prop :=
 ∃ (it:Addr) (fp:List Addr) (tn:Nat → Heap → Prop) (J:It) (H':Hp),itv = .ref it ∧ Inv X pins σ H' s2 ∧ Turn X.prog X.w X.K tg J fp it tn ∧ tn 0 s2.heap ∧ (∀ b ∈ fp,iF X pins H' b) ∧ R J H'
def PI (X:Cx) (tg iter:Expr) (wi:TI):Prop :=
 ∀ (pins:List (Addr × Obj)) (s:Shared) (σ:St) (H:Hp) (R:It → Hp → Prop),Inv X pins σ H s → wi σ H R →
   wpAny (model X.prog X.w) X.A (eval iter X.env) (fun v s1 => wpAny (model X.prog X.w) X.A (pyIter v) (PIE X pins σ tg R) X.xe s1) X.xe s
theorem mZ {M:Model} {A:Around} {E:Value → Shared → Prop} {s:Shared} {tg:Expr} {it:Addr} {u:Value} {o:Obj} {n:String} {vs:Array Value} {Q:Unit → Shared → Prop} (ho:s.heap.get? it = some o) (hc:o.cls = .type n) (hd:o.data = .fields vs)
   (hn:["enumerate", "zip", "dict_itemiterator", "dict_reverseitemiterator", "odict_iterator", "itertools.zip_longest", "itertools.pairwise"].contains n = false) (hQ:Q () s):wpAny M A (letOwnedTupleGo tg (.ref it) u) Q E s:=by
 unfold letOwnedTupleGo
 cases tg <;> first
   | exact Ah hQ
   | (cases u <;> first
       | exact Ah hQ
       | (refine Ac (wpAny_load ho ?_)
          rw [hc,hd]
          show wpAny M A (if (["enumerate", "zip", "dict_itemiterator", "dict_reverseitemiterator", "odict_iterator", "itertools.zip_longest", "itertools.pairwise"].contains n && vs[0]? == some (rawInt _)) = true then _ else _) Q E s
          rw [if_neg (by intro h; rw [hn,Bool.false_and] at h; cases h)]
          exact Ah hQ))
def Itl (K:PySem.W.Frag) (a:Addr):It :=
 ⟨fun i H => ∃ xs x,SqL K H a xs ∧ xs[i]? = some x,fun i H x H' => H' = H ∧ ∀ xs,SqL K H a xs → xs[i]? = some x,fun i H => ∃ xs,SqL K H a xs ∧ xs.length ≤ i⟩
def Itr (lo:Int) (n:Nat):It:=⟨fun i _ => i < n,fun i H x H' => H' = H ∧ x = .int (lo + i),fun i _ => n ≤ i⟩
theorem yJ {P:Program} {w:World} {K:PySem.W.Frag} {tg:Expr} (a it:Addr):Turn P w K tg (Itl K a) [it] it (fun i h => h.IsListIter it a i) where
 mem:=by simp
 obj:=fun i h st b hb => by
   have e:b = it:=by simpa using hb
   subst e
   obtain ⟨o,e,c,d⟩:=st
   exact ⟨o,e,fun v z => by rw [d] at z; cases z⟩
 keep:=fun i h h' st k => st.at fun o e => k it (by simp) o e
 item:=by
   intro X hP hw hK hc i pins s σ H E I hf st hg
   subst hP hw hK
   obtain ⟨xs,x,hq,hx⟩:=hg
   obtain ⟨its,rv,p,hz⟩:=I.list hq
   obtain ⟨u,hu,ru⟩:=rv.get hx
   obtain ⟨f0,f1,f2,f3,f4,f5⟩:=hf it (by simp)
   refine wpAny_pyNext_list_item st p.isList (x:=u) (by simpa using hu) fun h' st' sb => ?_
   have I1:Inv X pins σ H { s with heap:=h' }:=I.turned (t':=s.toks) (fun b o hb e => (sb.2 b hb).trans e) f0 f1 f3 f4 f5
   obtain ⟨o,e,c,d⟩:=id st'
   exact ⟨u,rfl,mZ (s:={ s with heap:=h' }) e c d (by decide) ⟨x,H,I1,ru,⟨rfl,fun ys hy => by rw [I.list_inj hy hq]; exact hx⟩,st',fun b hb => (hf b hb).1⟩⟩
 done:=by
   intro X hP hw hK hc i pins s σ H E I hf st hg
   subst hP hw hK
   obtain ⟨xs,hq,hx⟩:=hg
   obtain ⟨its,rv,p,hz⟩:=I.list hq
   obtain ⟨f0,f1,f2,f3,f4,f5⟩:=hf it (by simp)
   have hl:=rv.length
   exact wpAny_pyNext_list_end (I.ok.hd hc) st p.isList (by simp; omega) fun h' eb => ⟨rfl,I.turned (t':=s.toks) (fun b o hb e => eb b o hb e) f0 f1 f3 f4 f5⟩
 self:=fun _ _ _ _ _ st h => wpAny_pyIter_listiter st h
theorem vA {P:Program} {w:World} {K:PySem.W.Frag} {tg:Expr} (it:Addr) (lo:Int) (n:Nat):Turn P w K tg (Itr lo n) [it] it (fun i h => IsRangeIter h it (lo + (i:Nat) * 1) ((n:Int) - (i:Nat)) 1) where
 mem:=by simp
 obj:=fun i h st b hb => by
   have e:b = it:=by simpa using hb
   subst e
   exact ⟨_,st,fun v z => by
     have z':Data.fields _ = Data.cell v:=z
     cases z'⟩
 keep:=fun i h h' st k => k it (by simp) _ st
 item:=by
   intro X hP hw hK hc i pins s σ H E I hf st hg
   subst hP hw hK
   obtain ⟨f0,f1,f2,f3,f4,f5⟩:=hf it (by simp)
   have W:=Walks.range (prog:=X.prog) (w:=X.w) (I.ok.hd hc) it lo 1 n
   refine W.item i s _ _ hg st fun v h' tk hv st' kk => ?_
   obtain ⟨t,rfl⟩:=hv
   have I1:Inv X pins σ H { s with heap:=h',toks:=tk }:=I.turned (fun b o hb e => kk b o (by simpa using hb) e) f0 f1 f3 f4 f5
   refine ⟨_,rfl,mZ (s:={ s with heap:=h',toks:=tk }) (n := "range_iterator") st' rfl rfl (by decide) ⟨.int (lo + i),H,I1,⟨t,?_⟩,⟨rfl,rfl⟩,st',fun b hb => (hf b hb).1⟩⟩
   rw [Int.mul_one]
 done:=by
   intro X hP hw hK hc i pins s σ H E I hf st hg
   subst hP hw hK
   obtain ⟨f0,f1,f2,f3,f4,f5⟩:=hf it (by simp)
   exact wpAny_pyNext_range_end (I.ok.hd hc) st (by have:n ≤ i:=hg; omega) fun h' eb => ⟨rfl,I.turned (t':=s.toks) (fun b o hb e => eb b o hb e) f0 f1 f3 f4 f5⟩
 self:=fun _ _ _ _ _ st h => wpAny_pyIter_rangeiter st h
end L2
namespace L2
open PySem PySem.Spec PyProof.Rows
section
variable {X:Cx} {tg:Expr}
theorem sU {pins:List (Addr × Obj)} {σ:St} {H:Hp} {s:Shared} {R:It → Hp → Prop} {E:Value → Shared → Prop} {lo hi:Int} {t u v:Tok} {tk:Nat} (I:Inv X pins σ H s) (h1:-(2 ^ 62) ≤ lo) (h2:lo < 2 ^ 62) (h3:-(2 ^ 62) ≤ hi) (h4:hi < 2 ^ 62)
   (q:R (Itr lo (hi - lo).toNat) H):wpAny (model X.prog X.w) X.A (pyIter (.ref s.heap.objs.size)) (PIE X pins σ tg R) E { s with heap:=s.heap.push { cls:=.type "range",data:=.fields #[.int lo t,.int hi u,.int 1 v] },toks:=tk }:=by
 refine wpAny_pyIter_range (IsRange.new ..) (small_one h1 h2 h3 h4) ?_
 have I1:Inv X pins σ H { s with heap:=s.heap.push { cls:=.type "range",data:=.fields #[.int lo t,.int hi u,.int 1 v] },toks:=tk }:=I.kept fun b o e => Ae _ e
 refine ⟨(s.heap.push { cls:=.type "range",data:=.fields #[.int lo t,.int hi u,.int 1 v] }).objs.size,[(s.heap.push { cls:=.type "range",data:=.fields #[.int lo t,.int hi u,.int 1 v] }).objs.size],_,_,H,rfl,
   I1.kept (t':=tk) fun b o e => Ae _ e,vA _ lo (hi - lo).toNat,?_,fun b hb => ?_,q⟩
 · have e1:lo + ((0:Nat):Int) * 1 = lo:=by simp
   have e2:(((hi - lo).toNat:Nat):Int) - ((0:Nat):Int) = Builtin.Range.rangeSize lo hi 1:=by rw [rangeSize_one]; split <;> omega
   show IsRangeIter _ _ (lo + ((0:Nat):Int) * 1) ((((hi - lo).toNat:Nat):Int) - ((0:Nat):Int)) 1
   rw [e1,e2]
   exact Ar _ rfl
 · have e:b = (s.heap.push { cls:=.type "range",data:=.fields #[.int lo t,.int hi u,.int 1 v] }).objs.size:=by simpa using hb
   subst e
   exact I1.fpOk (Ai _) (I1.hok.fresh (Ai _))
def dQW (wi:TI) (g:TG) (tb:TS):TS:=fun D σ H => wi σ H fun J H1 => ∃ W:Nat → Nat → St → Hp → Prop,(∃ m,W 0 m σ H1) ∧ ∀ i m σ H,W i m σ H →
 (J.stop i H ∧ D.nx σ H) ∨ (J.go i H ∧ ∃ N:St → Hp → Prop,(∀ σ' H',N σ' H' → ∃ m',m' < m ∧ W (i + 1) m' σ' H') ∧ ∀ x H',J.yld i H x H' → g x σ H' fun σ2 H2 => tb { D with nx:=N,ct:=N,bk:=D.nx } σ2 H2)
def kO (fp:List Addr) (h:Heap):List (Addr × Obj):=fp.filterMap fun b => (h.get? b).map fun o => (b,o)
theorem fS {fp:List Addr} {h:Heap} {b:Addr} {o:Obj} (hb:b ∈ fp) (e:h.get? b = some o):(b,o) ∈ kO fp h:=Dy.mpr ⟨b,hb,by rw [e]; rfl⟩
theorem zI {fp:List Addr} {h:Heap} {p:Addr × Obj} (hp:p ∈ kO fp h):p.1 ∈ fp ∧ h.get? p.1 = some p.2:=by
 obtain ⟨b,hb,e⟩:=Dy.mp hp
 cases q:h.get? b with
 | none => rw [q] at e; cases e
 | some o =>
   rw [q] at e
   have e':(b,o) = p:=Bi e
   subst e'
   exact ⟨hb,q⟩
theorem Inv.pinned {pins:List (Addr × Obj)} {σ:St} {H:Hp} {s:Shared} {fp:List Addr} (I:Inv X pins σ H s) (hf:∀ b ∈ fp,iF X pins H b) (ho:∀ b ∈ fp,∃ o,s.heap.get? b = some o ∧ ∀ v,o.data ≠ .cell v):Inv X (pins ++ kO fp s.heap) σ H s :=
 I.pins_of fun p hp => (Bk.mp hp).elim (fun z => I.pin p (Bm _ z)) fun z => by
   obtain ⟨hb,e⟩:=zI z
   obtain ⟨f0,f1,f2,_⟩:=hf p.1 hb
   obtain ⟨o,e',d⟩:=ho p.1 hb
   rw [e] at e'; cases e'
   exact ⟨e,f0,f1,f2,d⟩
theorem Inv.unpinned {pins pl:List (Addr × Obj)} {σ:St} {H:Hp} {s:Shared} (I:Inv X (pins ++ pl) σ H s):Inv X pins σ H s:=I.pins_of fun p hp => I.pin p (Bm _ (Ct _ hp))
theorem cQU {iter:Expr} {body:List Stmt} {wi:TI} {g:TG} {tb:TS} {pos:Pos} (hp:PassesOwn (model X.prog X.w) X.A X.env X.xe) (hc:X.calm = true) (hi:PI X tg iter wi) (hg:PG X tg g) (hb:PSs X body tb)
   (hs:∀ x,foldedSetIterable iter X.env x = pure x:=by intro _; rfl):PS X (.For tg iter body [] pos) (dQW wi g tb):=by
 intro pins s σ H D I h
 refine wpAny_For (thn (hi pins s σ H _ I h) fun v s1 h1 => thn h1 fun itv s2 h2 => ?_) hs
 obtain ⟨it,fp,tn,J,H2,e,I2,T,st2,f2,W,⟨m0,w0⟩,turn⟩:=h2
 subst e
 -- what stays true of the iterator's objects through the loop
 have stat:∀ {H':Hp},(∀ b ∈ fp,H' b = none) → ∀ b ∈ fp,iF X pins H' b:=fun hn b hb => ⟨hn b hb,(f2 b hb).2⟩
 refine codeAny_forLoop_any (fun n s' => ∃ i σ' H',Inv X pins σ' H' s' ∧ tn i s'.heap ∧ (∀ b ∈ fp,H' b = none) ∧ W i n σ' H') ?_ m0 ⟨0,σ,H2,I2,st2,fun b hb => (f2 b hb).1,w0⟩
 rintro n s3 ⟨i,σ3,H3,I3,st3,fr3,w3⟩
 rcases turn i n σ3 H3 w3 with ⟨stop,qn⟩ | ⟨go,N,hN,step⟩
 · refine Ed hp (thn (T.done X rfl rfl rfl hc i pins s3 σ3 H3 X.xe I3 (stat fr3) st3 stop) fun r s4 ⟨hr,I4⟩ => ?_)
   subst hr
   exact wpAny_execs_nil ⟨σ3,H3,I4,qn⟩
 · refine Ed hp (thn (T.item X rfl rfl rfl hc i pins s3 σ3 H3 X.xe I3 (stat fr3) st3 go) fun r s4 ⟨u,hr,h4⟩ => ?_)
   subst hr
   refine Ed hp (thn h4 fun _ s5 ⟨x,H5,I5,r5,y5,st5,fr5⟩ => ?_)
   have I5':=I5.pinned (stat fr5) (T.obj _ _ st5)
   refine Ed hp (thn (hg _ s5 σ3 H5 x u _ I5' r5 (step x H5 y5)) fun _ s6 ⟨σ6,H6,I6,q6⟩ => ?_)
   refine Ed hp (thn (hb _ s6 σ6 H6 _ I6 q6) fun f s7 q7 => ?_)
   have again:∀ {σ7:St} {H7:Hp},Inv X (pins ++ kO fp s5.heap) σ7 H7 s7 → N σ7 H7 → ∃ m,m < n ∧ ∃ i σ' H',Inv X pins σ' H' s7 ∧ tn i s7.heap ∧ (∀ b ∈ fp,H' b = none) ∧ W i m σ' H':=fun {σ7 H7} I7 n7 => by
     obtain ⟨m',hm,w7⟩:=hN σ7 H7 n7
     refine ⟨m',hm,i + 1,σ7,H7,I7.unpinned,T.keep _ _ _ st5 fun b hb o e => (I7.pin (b,o) (Bm _ (Bm _ (fS hb e)))).1,fun b hb => ?_,w7⟩
     obtain ⟨o,e,d⟩:=T.obj _ _ st5 b hb
     exact (I7.pin (b,o) (Bm _ (Bm _ (fS hb e)))).2.1
   cases f with
   | next => obtain ⟨σ7,H7,I7,n7⟩:=q7; exact again I7 n7
   | cont => obtain ⟨σ7,H7,I7,n7⟩:=q7; exact again I7 n7
   | brk => obtain ⟨σ7,H7,I7,q7⟩:=q7; exact ⟨σ7,H7,I7.unpinned,q7⟩
   | ret v => obtain ⟨x7,σ7,H7,I7,r7,q7⟩:=q7; exact ⟨x7,σ7,H7,I7.unpinned,r7,q7⟩
end
theorem aZR {K:PySem.W.Frag} {a:Addr} {xs:List V} {g:TG} {tb:TS} {D:Ends} {σ:St} {H:Hp} (Pv:Nat → St → Hp → Prop) (h0:Pv 0 σ H) (hl:∀ i σ H,i ≤ xs.length → Pv i σ H → SqL K H a xs)
   (hs:∀ i x σ H,xs[i]? = some x → Pv i σ H → g x σ H fun σ2 H2 => tb { D with nx:=Pv (i + 1),ct:=Pv (i + 1),bk:=D.nx } σ2 H2) (hd:∀ σ H,Pv xs.length σ H → D.nx σ H) :
   ∃ W:Nat → Nat → St → Hp → Prop,(∃ m,W 0 m σ H) ∧ ∀ i m σ H,W i m σ H →
     ((Itl K a).stop i H ∧ D.nx σ H) ∨ ((Itl K a).go i H ∧ ∃ N:St → Hp → Prop,(∀ σ' H',N σ' H' → ∃ m',m' < m ∧ W (i + 1) m' σ' H') ∧ ∀ x H',(Itl K a).yld i H x H' → g x σ H' fun σ2 H2 => tb { D with nx:=N,ct:=N,bk:=D.nx } σ2 H2):=by
 refine ⟨fun i m σ H => m = xs.length - i ∧ i ≤ xs.length ∧ Pv i σ H,⟨xs.length,by simp,Nat.zero_le _,h0⟩,?_⟩
 rintro i m σ H ⟨rfl,hi,p⟩
 have q:=hl i σ H hi p
 by_cases hlt:i < xs.length
 · refine .inr ⟨⟨xs,xs[i],q,by simp [hlt]⟩,Pv (i + 1),fun σ' H' p' => ⟨xs.length - (i + 1),by omega,rfl,hlt,p'⟩,fun x H' y => ?_⟩
   obtain ⟨e,y⟩:=y
   subst e
   exact hs i x σ _ (y xs q) p
 · have e:i = xs.length:=by omega
   subst e
   exact .inl ⟨⟨xs,q,Ai _⟩,hd σ H p⟩
theorem xZ {lo:Int} {n:Nat} {g:TG} {tb:TS} {D:Ends} {σ:St} {H:Hp} (Pv:Nat → St → Hp → Prop) (h0:Pv 0 σ H)
   (hs:∀ i σ H,i < n → Pv i σ H → g (.int (lo + i)) σ H fun σ2 H2 => tb { D with nx:=Pv (i + 1),ct:=Pv (i + 1),bk:=D.nx } σ2 H2) (hd:∀ σ H,Pv n σ H → D.nx σ H) :
   ∃ W:Nat → Nat → St → Hp → Prop,(∃ m,W 0 m σ H) ∧ ∀ i m σ H,W i m σ H →
     ((Itr lo n).stop i H ∧ D.nx σ H) ∨ ((Itr lo n).go i H ∧ ∃ N:St → Hp → Prop,(∀ σ' H',N σ' H' → ∃ m',m' < m ∧ W (i + 1) m' σ' H') ∧ ∀ x H',(Itr lo n).yld i H x H' → g x σ H' fun σ2 H2 => tb { D with nx:=N,ct:=N,bk:=D.nx } σ2 H2):=by
 refine ⟨fun i m σ H => m = n - i ∧ i ≤ n ∧ Pv i σ H,⟨n,by simp,Nat.zero_le _,h0⟩,?_⟩
 rintro i m σ H ⟨rfl,hi,p⟩
 by_cases hlt:i < n
 · refine .inr ⟨hlt,Pv (i + 1),fun σ' H' p' => ⟨n - (i + 1),by omega,rfl,hlt,p'⟩,fun x H' y => ?_⟩
   obtain ⟨e,y⟩:=y
   subst e y
   exact hs i σ _ hlt p
 · have e:i = n:=by omega
   subst e
   exact .inl ⟨Ai _,hd σ H p⟩
end L2
namespace L2
open PySem PySem.Spec PyProof.Rows
abbrev R2:=V → V → Hp → VK → Prop
def OpR (X:Cx) (f:Value → Value → Sem Value) (r:R2):Prop :=
 ∀ (pins:List (Addr × Obj)) (s:Shared) (σ:St) (H:Hp) (x y:V) (v u:Value) (Q:VK),Inv X pins σ H s → RelV x v → RelV y u → r x y H Q →
   wpAny (model X.prog X.w) X.A (f v u) (EP X pins σ Q) X.xe s
def CallR (X:Cx) (f:Value) (r:List V → Hp → VK → Prop):Prop :=
 ∀ (pins:List (Addr × Obj)) (s:Shared) (σ:St) (H:Hp) (xs:List V) (us:List Value) (Q:VK),Inv X pins σ H s → Vals xs us → r xs H Q →
   wpAny (model X.prog X.w) X.A (call f us) (EP X pins σ Q) X.xe s
def dQR (X:Cx) (r:V → Hp → (Bool → Hp → Prop) → Prop):Prop :=
 ∀ (pins:List (Addr × Obj)) (s:Shared) (σ:St) (H:Hp) (x:V) (v:Value) (Q:Bool → Hp → Prop),Inv X pins σ H s → RelV x v → r x H Q →
   wpAny (model X.prog X.w) X.A (truthy v) (TP X pins σ Q) X.xe s
def tOp (r:R2) (ta tb:TE):TE:=fun σ H Q => ta σ H fun x H1 => tb σ H1 fun y H2 => r x y H2 Q
def rI (C:Int → Int → Prop) (g:Int → Int → V):R2:=fun x y H Q => ∃ i j,x = .int i ∧ y = .int j ∧ C i j ∧ Q (g i j) H
def rI0 (g:Int → Int → V):R2:=fun x y H Q => ∃ i j,x = .int i ∧ y = .int j ∧ Q (g i j) H
section
variable {X:Cx} {a b c:Expr} {ta tb tc:TE} {pos:Pos}
theorem cX1 (ha:PE X a ta) (hb:PE X b tb) {pins:List (Addr × Obj)} {s:Shared} {σ:St} {H:Hp} {R:V → V → Hp → Prop} (I:Inv X pins σ H s)
   (h:ta σ H fun x H1 => tb σ H1 fun y H2 => R x y H2) {Q:Value → Shared → Prop} {f:Value → Value → Sem Value}
   (hf:∀ v u s2 x y H2,Inv X pins σ H2 s2 → RelV x v → RelV y u → R x y H2 → wpAny (model X.prog X.w) X.A (f v u) Q X.xe s2) :
   wpAny (model X.prog X.w) X.A (eval a X.env) (fun v s₁ => wpAny (model X.prog X.w) X.A (eval b X.env) (fun u s₂ => wpAny (model X.prog X.w) X.A (f v u) Q X.xe s₂) X.xe s₁) X.xe s:=by
 refine thn (ha pins s σ H _ I h) fun v s1 ⟨x,H1,I1,r1,q1⟩ => ?_
 refine thn (hb pins s1 σ H1 _ I1 q1) fun u s2 ⟨y,H2,I2,r2,q2⟩ => ?_
 exact hf v u s2 x y H2 I2 r1 r2 q2
theorem aR {op:Operator} {r:R2} (ho:OpR X (binaryOp op) r) (ha:PE X a ta) (hb:PE X b tb):PE X (.BinOp a op b pos) (tOp r ta tb):=by
 intro pins s σ H Q I h
 exact wpAny_BinOp (cX1 ha hb I h fun v u s2 x y H2 I2 rx ry q => ho pins s2 σ H2 x y v u Q I2 rx ry q)
theorem opI {f:Value → Value → Sem Value} {C:Int → Int → Prop} {g:Int → Int → Int}
   (rule:∀ (i j:Int) (t u:Tok) (s:Shared) (Q:Value → Shared → Prop) (E:Value → Shared → Prop),C i j → Q (.int (g i j) s.toks) { s with toks:=s.toks + 1 } → wpAny (model X.prog X.w) X.A (f (.int i t) (.int j u)) Q E s) :
   OpR X f (rI C fun i j => .int (g i j)):=by
 intro pins s σ H x y v u Q I rx ry h
 obtain ⟨i,j,rfl,rfl,hc,q⟩:=h
 obtain ⟨t,rfl⟩:=rx
 obtain ⟨t',rfl⟩:=ry
 exact rule i j t t' s _ _ hc ⟨.int (g i j),H,I.tok _,⟨_,rfl⟩,q⟩
theorem cZ5 {f:Value → Value → Sem Value} {g:Int → Int → Int}
   (rule:∀ (i j:Int) (t u:Tok) (s:Shared) (Q:Value → Shared → Prop) (E:Value → Shared → Prop),Q (.int (g i j) s.toks) { s with toks:=s.toks + 1 } → wpAny (model X.prog X.w) X.A (f (.int i t) (.int j u)) Q E s) :
   OpR X f (rI0 fun i j => .int (g i j)):=by
 intro pins s σ H x y v u Q I rx ry h
 obtain ⟨i,j,rfl,rfl,q⟩:=h
 obtain ⟨t,rfl⟩:=rx
 obtain ⟨t',rfl⟩:=ry
 exact rule i j t t' s _ _ ⟨.int (g i j),H,I.tok _,⟨_,rfl⟩,q⟩
theorem dQF {f:Value → Value → Sem Value} {g:Int → Int → Bool}
   (rule:∀ (i j:Int) (t u:Tok) (s:Shared) (Q:Value → Shared → Prop) (E:Value → Shared → Prop),Q (.bool (g i j)) s → wpAny (model X.prog X.w) X.A (f (.int i t) (.int j u)) Q E s) :
   OpR X f (rI0 fun i j => .bl (g i j)):=by
 intro pins s σ H x y v u Q I rx ry h
 obtain ⟨i,j,rfl,rfl,q⟩:=h
 obtain ⟨t,rfl⟩:=rx
 obtain ⟨t',rfl⟩:=ry
 exact rule i j t t' s _ _ ⟨.bl (g i j),H,I,rfl,q⟩
def cJ3 (i j:Int):Prop:=0 < j ∧ j < 1073741824
def CMul (i j:Int):Prop:=(-(2 ^ 64) < i ∧ i < 2 ^ 64) ∨ (-(2 ^ 64) < j ∧ j < 2 ^ 64)
theorem CMul.ok {i j:Int} (h:CMul i j):IntMulOk i j:=by
 rcases h with ⟨h1,h2⟩ | ⟨h1,h2⟩
 · exact .of_left (intBits_le_64 h1 h2)
 · exact .of_right (intBits_le_64 h1 h2)
theorem cQR:OpR X (binaryOp .Add) (rI0 fun i j => .int (i + j)):=cZ5 fun _ _ _ _ _ _ _ q => add_int q
theorem op_sub:OpR X (binaryOp .Sub) (rI0 fun i j => .int (i - j)):=cZ5 fun _ _ _ _ _ _ _ q => sub_int q
theorem op_mul:OpR X (binaryOp .Mult) (rI CMul fun i j => .int (i * j)):=opI fun _ _ _ _ _ _ _ hc q => mul_int q hc.ok
theorem op_fdiv:OpR X (binaryOp .FloorDiv) (rI cJ3 fun i j => .int (i / j)):=opI fun i j _ _ _ _ _ hc q => by
 have h1:(0:Int) < j:=hc.1
 have h2:j < 1073741824:=hc.2
 exact floordiv_int (by omega) (by rw [Int.fdiv_eq_ediv_of_nonneg i (by omega)]; exact q) (.inl (PyProof.noPylong_small (by omega)))
theorem op_mod:OpR X (binaryOp .Mod) (rI (fun _ j => 0 < j) fun i j => .int (i % j)):=opI fun i j _ _ _ _ _ hc q => by
 have h1:(0:Int) < j:=hc
 exact mod_int' (by omega) (by rw [Int.fmod_eq_emod_of_nonneg i (by omega)]; exact q)
end
def bXV:V → V → Bool
 | .non,.non => true | .non,.int _ => true | .int _,.non => true | .non,.bl _ => true | .bl _,.non => true | .non,.str _ => true | .str _,.non => true
 | .int _,.int _ => true | .bl _,.bl _ => true | .str _,.str _ => true | .byt _,.byt _ => true
 | .int _,.str _ => true | .str _,.int _ => true | .bl _,.str _ => true | .str _,.bl _ => true
 | _,_ => false
def rEq:R2:=fun x y H Q => bXV x y = true ∧ Q (.bl (decide (x = y))) H
def rNe:R2:=fun x y H Q => bXV x y = true ∧ Q (.bl (!decide (x = y))) H
theorem xH {i j:Int}:decide (V.int i = V.int j) = (i == j):=by
 rw [Bool.eq_iff_iff]
 simp
theorem aQV {i j:Bool}:decide (V.bl i = V.bl j) = (i == j):=by
 rw [Bool.eq_iff_iff]
 simp
theorem qX {i j:Str}:decide (V.str i = V.str j) = (i == j):=by
 rw [Bool.eq_iff_iff]
 simp
theorem wZ {i j:Array UInt8}:decide (V.byt i = V.byt j) = (i.toList == j.toList):=by
 rw [Bool.eq_iff_iff]
 cases i
 cases j
 simp
section
variable {X:Cx} {a b c:Expr} {ta tb tc:TE} {pos:Pos}
theorem bE {pins:List (Addr × Obj)} {σ:St} {H:Hp} {s:Shared} {Q:VK} {k k':Bool} (I:Inv X pins σ H s) (q:Q (.bl k) H) (e:k = k'):EP X pins σ Q (.bool k') s:=by
 subst e
 exact ⟨.bl k,H,I,rfl,q⟩
theorem cJ6:OpR X (compareOp .Eq) rEq:=by
 intro pins s σ H x y v u Q I rx ry h
 obtain ⟨hs,q⟩:=h
 cases x with
 | non =>
   cases rx
   cases y with
   | non => cases ry; exact PySem.EqNone.eq_none_none (bE I q (by simp))
   | bl j => cases ry; exact PySem.EqNone.eq_none_bool (bE I q (by simp))
   | int j => obtain ⟨t',rfl⟩:=ry; exact PySem.EqNone.eq_none_int (bE I q (by simp))
   | str j => obtain ⟨t',rfl⟩:=ry; exact PySem.EqNone.eq_none_str (bE I q (by simp))
   | _ => exact absurd (show false = true from hs) Ao
 | bl i =>
   cases rx
   cases y with
   | non => cases ry; exact PySem.EqNone.eq_bool_none (bE I q (by simp))
   | bl j => cases ry; exact eq_bool (bE I q aQV)
   | str j => obtain ⟨t',rfl⟩:=ry; exact PySem.EqMixed.eq_bool_str (bE I q (by simp))
   | _ => exact absurd (show false = true from hs) Ao
 | int i =>
   obtain ⟨t,rfl⟩:=rx
   cases y with
   | non => cases ry; exact PySem.EqNone.eq_int_none (bE I q (by simp))
   | int j => obtain ⟨t',rfl⟩:=ry; exact eq_int (bE I q xH)
   | str j => obtain ⟨t',rfl⟩:=ry; exact PySem.EqMixed.eq_int_str (bE I q (by simp))
   | _ => exact absurd (show false = true from hs) Ao
 | str i =>
   obtain ⟨t,rfl⟩:=rx
   cases y with
   | non => cases ry; exact PySem.EqNone.eq_str_none (bE I q (by simp))
   | bl j => cases ry; exact PySem.EqMixed.eq_str_bool (bE I q (by simp))
   | int j => obtain ⟨t',rfl⟩:=ry; exact PySem.EqMixed.eq_str_int (bE I q (by simp))
   | str j => obtain ⟨t',rfl⟩:=ry; exact eq_str (bE I q qX)
   | _ => exact absurd (show false = true from hs) Ao
 | byt i =>
   obtain ⟨t,rfl⟩:=rx
   cases y with
   | byt j => obtain ⟨t',rfl⟩:=ry; exact PySem.W.eq_bytes (bE I q wZ)
   | _ => exact absurd (show false = true from hs) Ao
 | _ => cases y <;> exact absurd (show false = true from hs) Ao
theorem cJI:OpR X (compareOp .NotEq) rNe:=by
 intro pins s σ H x y v u Q I rx ry h
 obtain ⟨hs,q⟩:=h
 cases x with
 | non =>
   cases rx
   cases y with
   | non => cases ry; exact PySem.EqNone.ne_none_none (bE I q (by simp))
   | bl j => cases ry; exact PySem.EqNone.ne_none_bool (bE I q (by simp))
   | int j => obtain ⟨t',rfl⟩:=ry; exact PySem.EqNone.ne_none_int (bE I q (by simp))
   | str j => obtain ⟨t',rfl⟩:=ry; exact PySem.EqNone.ne_none_str (bE I q (by simp))
   | _ => exact absurd (show false = true from hs) Ao
 | bl i =>
   cases rx
   cases y with
   | non => cases ry; exact PySem.EqNone.ne_bool_none (bE I q (by simp))
   | bl j => cases ry; exact ne_bool (bE I q (Cp not aQV))
   | str j => obtain ⟨t',rfl⟩:=ry; exact PySem.EqMixed.ne_bool_str (bE I q (by simp))
   | _ => exact absurd (show false = true from hs) Ao
 | int i =>
   obtain ⟨t,rfl⟩:=rx
   cases y with
   | non => cases ry; exact PySem.EqNone.ne_int_none (bE I q (by simp))
   | int j => obtain ⟨t',rfl⟩:=ry; exact ne_int (bE I q (Cp not xH))
   | str j => obtain ⟨t',rfl⟩:=ry; exact PySem.EqMixed.ne_int_str (bE I q (by simp))
   | _ => exact absurd (show false = true from hs) Ao
 | str i =>
   obtain ⟨t,rfl⟩:=rx
   cases y with
   | non => cases ry; exact PySem.EqNone.ne_str_none (bE I q (by simp))
   | bl j => cases ry; exact PySem.EqMixed.ne_str_bool (bE I q (by simp))
   | int j => obtain ⟨t',rfl⟩:=ry; exact PySem.EqMixed.ne_str_int (bE I q (by simp))
   | str j => obtain ⟨t',rfl⟩:=ry; exact ne_str (bE I q (Cp not qX))
   | _ => exact absurd (show false = true from hs) Ao
 | byt i =>
   obtain ⟨t,rfl⟩:=rx
   cases y with
   | byt j => obtain ⟨t',rfl⟩:=ry; exact PySem.W.ne_bytes (bE I q (Cp not wZ))
   | _ => exact absurd (show false = true from hs) Ao
 | _ => cases y <;> exact absurd (show false = true from hs) Ao
theorem op_lt:OpR X (compareOp .Lt) (rI0 fun i j => .bl (decide (i < j))):=dQF fun _ _ _ _ _ _ _ q => lt_int q
theorem op_gt:OpR X (compareOp .Gt) (rI0 fun i j => .bl (decide (j < i))):=dQF fun _ _ _ _ _ _ _ q => gt_int q
theorem op_isN:OpR X (compareOp .Is) (fun x y H Q => y = .non ∧ Q (.bl (decide (x = .non))) H):=by
 intro pins s σ H x y v u Q I rx ry h
 obtain ⟨rfl,q⟩:=h
 cases ry
 refine is_none_gen (bE I q ?_)
 cases x <;> first
   | (cases rx; rfl)
   | (obtain ⟨t,rfl⟩:=rx; rfl)
theorem op_notN:OpR X (compareOp .IsNot) (fun x y H Q => y = .non ∧ Q (.bl (!decide (x = .non))) H):=by
 intro pins s σ H x y v u Q I rx ry h
 obtain ⟨rfl,q⟩:=h
 cases ry
 refine isnot_none_gen (bE I q ?_)
 cases x <;> first
   | (cases rx; rfl)
   | (obtain ⟨t,rfl⟩:=rx; rfl)
theorem OpR.or {f:Value → Value → Sem Value} {r r':R2} (h:OpR X f r) (h':OpR X f r'):OpR X f (fun x y H Q => r x y H Q ∨ r' x y H Q):=by
 intro pins s σ H x y v u Q I rx ry q
 rcases q with q | q
 · exact h pins s σ H x y v u Q I rx ry q
 · exact h' pins s σ H x y v u Q I rx ry q
theorem bS (b:Expr) {op:CmpOp} (h:op ≠ .In:=by decide) (h2:op ≠ .NotIn:=by decide):behindInMarks op b = false:=by
 have e1:(op == CmpOp.In) = false:=by cases op <;> first | rfl | exact absurd rfl h
 have e2:(op == CmpOp.NotIn) = false:=by cases op <;> first | rfl | exact absurd rfl h2
 cases b <;> simp [behindInMarks,e1,e2]
theorem qS {op:CmpOp} {r:R2} (ho:OpR X (compareOp op) r) (ha:PE X a ta) (hb:PE X b tb) (hm:behindInMarks op b = false):PE X (.Compare a [op] [b] pos) (tOp r ta tb):=by
 intro pins s σ H Q I h
 exact wpAny_Compare1 (cX1 ha hb I h fun v u s2 x y H2 I2 rx ry q => ho pins s2 σ H2 x y v u Q I2 rx ry q) hm
def cZG (K:PySem.W.Frag) (x:V) (H:Hp) (k:Bool):Prop :=
 match x with
 | .non => k = false
 | .bl b => k = b
 | .int i => k = (i != 0)
 | .str y => y.length ≤ sizeLine ∧ k = ((y.length:Int) != 0)
 | .byt y => y.size ≤ sizeLine ∧ k = ((y.size:Int) != 0)
 | .ref p => (∃ xs,SqL K H p xs ∧ k = !xs.isEmpty) ∨ (∃ xs,SqT K H p xs ∧ k = !xs.isEmpty) ∨ ∃ kvs,H p = some (.dK kvs) ∧ k = !kvs.isEmpty
 | _ => False
theorem vH {κ:Type} {kvs:List (κ × V)} {vs:List (κ × Value)} (r:KV kvs vs):(!vs.isEmpty) = !kvs.isEmpty:=by
 cases r <;> rfl
theorem lQ {xs:List V} {its:List Value} (r:Vals xs its):(!its.toArray.isEmpty) = !xs.isEmpty:=by
 cases r <;> simp
theorem kP:(sizeLine:Nat) < 2 ^ 63:=by rw [sizeLine_eq]; decide
theorem bJ1:dQR X (fun x H Q => ∃ k,cZG X.K x H k ∧ Q k H):=by
 intro pins s σ H x v Q I rx h
 obtain ⟨k,e,q⟩:=h
 have hl:=kP
 have hs:sizeLine = 16777216:=sizeLine_eq
 cases x with
 | non =>
   cases rx
   have e':k = false:=e
   subst e'
   exact truthy_none ⟨H,I,q⟩
 | bl b =>
   cases rx
   have e':k = b:=e
   subst e'
   exact Eu ⟨H,I,q⟩
 | int i =>
   obtain ⟨t,rfl⟩:=rx
   have e':k = (i != 0):=e
   subst e'
   exact PySem.P.truthy_int ⟨H,I,q⟩
 | str y =>
   obtain ⟨t,rfl⟩:=rx
   obtain ⟨hy,e'⟩:y.length ≤ sizeLine ∧ k = ((y.length:Int) != 0):=e
   subst e'
   exact PySem.P.truthy_str (by omega) ⟨H,I.tok _,q⟩
 | byt y =>
   obtain ⟨t,rfl⟩:=rx
   obtain ⟨hy,e'⟩:y.size ≤ sizeLine ∧ k = ((y.size:Int) != 0):=e
   subst e'
   exact PySem.W.truthy_bytes (by omega) ⟨H,I.tok _,q⟩
 | ref p =>
   cases rx
   have e':(∃ xs,SqL X.K H p xs ∧ k = !xs.isEmpty) ∨ (∃ xs,SqT X.K H p xs ∧ k = !xs.isEmpty) ∨ ∃ kvs,H p = some (.dK kvs) ∧ k = !kvs.isEmpty:=e
   rcases e' with ⟨xs,hx,e'⟩ | ⟨xs,hx,e'⟩ | ⟨kvs,hx,e'⟩
   · subst e'
     obtain ⟨its,r,pl,hz⟩:=I.list hx
     have hlen:=r.length
     exact wpAny_truthy_list pl.isList (by simp only [List.size_toArray]; omega) ⟨H,I.tok _,by rw [lQ r]; exact q⟩
   · subst e'
     obtain ⟨its,r,pl,hz⟩:=I.tuple hx
     have hlen:=r.length
     exact truthy_tuple pl (by simp only [List.size_toArray]; omega) ⟨H,I.tok _,by rw [lQ r]; exact q⟩
   · subst e'
     obtain ⟨hz,hS,vs,r,m⟩:kvs.length ≤ sizeLine ∧ (p == sysModules) = false ∧ ∃ vs,KV kvs vs ∧ s.heap.DictOf (aS X.prog X.w) p vs:=I.hok p _ hx
     have hlen:kvs.length = vs.length:=Paired.length r
     exact wpAny_truthy_dict hS m (by omega) ⟨H,I.tok _,by rw [vH r]; exact q⟩
 | _ => exact (show False from e).elim
theorem vG:OpR X (binaryOp .Add) (fun x y H Q => ∃ i j,x = .str i ∧ y = .str j ∧ i.length + j.length ≤ sizeLine ∧ Q (.str (i ++ j)) H):=by
 intro pins s σ H x y v u Q I rx ry h
 obtain ⟨i,j,rfl,rfl,hz,q⟩:=h
 obtain ⟨t,rfl⟩:=rx
 obtain ⟨t',rfl⟩:=ry
 exact add_str (fun t' tk => ⟨.str (i ++ j),H,I.tok _,⟨_,rfl⟩,q⟩) hz
theorem eL {x:V} {us:List Value} (r:Vals [x] us):∃ u,us = [u] ∧ RelV x u:=by
 cases r with
 | cons r1 r2 => cases r2; exact ⟨_,rfl,r1⟩
theorem oZ {x y:V} {us:List Value} (r:Vals [x,y] us):∃ u w',us = [u,w'] ∧ RelV x u ∧ RelV y w':=by
 cases r with
 | cons r1 r2 =>
   cases r2 with
   | cons r3 r4 => cases r4; exact ⟨_,_,rfl,r1,r3⟩
theorem aQG (hc:X.calm = true):CallR X (.builtin "max") (fun xs H Q => ∃ i j,xs = [.int i,.int j] ∧ Q (.int (if j > i then j else i)) H):=by
 intro pins s σ H xs us Q I r h
 obtain ⟨i,j,rfl,q⟩:=h
 obtain ⟨u,w',rfl,⟨t,rfl⟩,⟨t',rfl⟩⟩:=oZ r
 refine max_two_ints (I.ok.hd hc) fun h' tk k => ⟨_,H,I.kept k,?_,q⟩
 by_cases hj:j > i
 · rw [if_pos hj,if_pos hj]; exact ⟨_,rfl⟩
 · rw [if_neg hj,if_neg hj]; exact ⟨_,rfl⟩
theorem zO (hc:X.calm = true):CallR X (.builtin "min") (fun xs H Q => ∃ i j,xs = [.int i,.int j] ∧ Q (.int (if j < i then j else i)) H):=by
 intro pins s σ H xs us Q I r h
 obtain ⟨i,j,rfl,q⟩:=h
 obtain ⟨u,w',rfl,⟨t,rfl⟩,⟨t',rfl⟩⟩:=oZ r
 refine min_two_ints (I.ok.hd hc) fun h' tk k => ⟨_,H,I.kept k,?_,q⟩
 by_cases hj:j < i
 · rw [if_pos hj,if_pos hj]; exact ⟨_,rfl⟩
 · rw [if_neg hj,if_neg hj]; exact ⟨_,rfl⟩
theorem call_int1:CallR X (.type "int") (fun xs H Q => (∃ i,xs = [.int i] ∧ Q (.int i) H) ∨ ∃ k,xs = [.bl k] ∧ Q (.int (if k then 1 else 0)) H):=by
 intro pins s σ H xs us Q I r h
 rcases h with ⟨i,rfl,q⟩ | ⟨k,rfl,q⟩
 · obtain ⟨u,rfl,t,rfl⟩:=eL r
   exact call_int_int ⟨.int i,H,I,⟨_,rfl⟩,q⟩
 · obtain ⟨u,rfl,r1⟩:=eL r
   cases r1
   exact call_int_bool ⟨.int (if k then 1 else 0),H,I.tok _,⟨_,rfl⟩,q⟩
def dQT (K:PySem.W.Frag) (x:V) (H:Hp) (n:Nat):Prop :=
 match x with
 | .str y => y.length ≤ sizeLine ∧ n = y.length
 | .byt y => y.size ≤ sizeLine ∧ n = y.size
 | .ref p => (∃ xs,SqL K H p xs ∧ n = xs.length) ∨ ∃ xs,SqT K H p xs ∧ n = xs.length
 | _ => False
theorem call_len:CallR X (.builtin "len") (fun xs H Q => ∃ x n,xs = [x] ∧ dQT X.K x H n ∧ Q (.int n) H):=by
 intro pins s σ H xs us Q I r h
 obtain ⟨x,n,rfl,e,q⟩:=h
 obtain ⟨u,rfl,rx⟩:=eL r
 have hl:=kP
 have hs:sizeLine = 16777216:=sizeLine_eq
 cases x with
 | str y =>
   obtain ⟨t,rfl⟩:=rx
   obtain ⟨hy,e'⟩:y.length ≤ sizeLine ∧ n = y.length:=e
   subst e'
   exact len_str (by omega) ⟨.int _,H,I.tok _,⟨_,rfl⟩,q⟩
 | byt y =>
   obtain ⟨t,rfl⟩:=rx
   obtain ⟨hy,e'⟩:y.size ≤ sizeLine ∧ n = y.size:=e
   subst e'
   exact PySem.W.len_bytes (by omega) ⟨.int _,H,I.tok _,⟨_,rfl⟩,q⟩
 | ref p =>
   cases rx
   have e':(∃ xs,SqL X.K H p xs ∧ n = xs.length) ∨ ∃ xs,SqT X.K H p xs ∧ n = xs.length:=e
   rcases e' with ⟨xs,hx,e'⟩ | ⟨xs,hx,e'⟩
   · subst e'
     obtain ⟨its,r',pl,hz⟩:=I.list hx
     have hlen:=r'.length
     exact Calls.call_len_list pl.isList (by simp only [List.size_toArray]; omega) ⟨.int xs.length,H,I.tok _,⟨_,by simp only [List.size_toArray]; rw [hlen]⟩,q⟩
   · subst e'
     obtain ⟨its,r',pl,hz⟩:=I.tuple hx
     have hlen:=r'.length
     exact len_tuple pl (by simp only [List.size_toArray]; omega) ⟨.int xs.length,H,I.tok _,⟨_,by simp only [List.size_toArray]; rw [hlen]⟩,q⟩
 | _ => exact (show False from e).elim
end
end L2
namespace L2
open PySem PySem.Spec PyProof.Rows
structure ObjM (h:Heap) (x dx C:Addr) (mA:Str → Option Value):Prop where
 obj:h.get? x = some (PySem.W.instObj C dx)
 ns:h.Ns1 dx mA
 ne:dx ≠ x
theorem pH {h:Heap} {dx:Addr} {mA:Str → Option Value} (n:h.Ns1 dx mA):∃ od,h.get? dx = some od ∧ ∀ name,PySem.W.lookIn name od = some (mA name):=by
 obtain ⟨o,es,ep,ho,hd,hk,_,hm⟩:=n
 refine ⟨o,ho,fun name => ?_⟩
 have e:=hm name
 unfold nsFind findBy at e
 rw [← Array.find?_toList] at e
 unfold PySem.W.lookIn
 rw [hd]
 dsimp only
 split
 · rename_i y q
   rw [q] at e
   exact Cp some e
 · rename_i q
   rw [q] at e
   have a:es.toList.any (·.refKey) = false:=by
     rw [List.any_eq_false]
     intro y hy
     obtain ⟨z,t,hkey⟩:=hk y (Array.mem_toList_iff.mp hy)
     simp [DictEntry.refKey,hkey]
   have a':¬ es.toList.any (·.refKey) = true:=by rw [a]; exact Ao
   rw [if_neg a']
   exact Cp some e
theorem ObjM.look {h:Heap} {x dx C:Addr} {mA:Str → Option Value} (I:ObjM h x dx C mA):∃ od,PySem.W.InstAt h x (PySem.W.instObj C dx) C (some od) ∧ ∀ name,PySem.W.lookIn name od = some (mA name) :=
 let ⟨od,ho,hl⟩:=pH I.ns
 ⟨od,⟨I.obj,rfl,rfl,ho⟩,hl⟩
section
variable {prog:Program} {w:World} {A:Around} {E:Value → Shared → Prop} {s:Shared} {K:PySem.W.Frag} {x dx C f:Addr} {mA:Str → Option Value} {name:Str} {v:Value}
end
theorem RelO.some_of {v:V} {o:Option Value} (r:RelO (some v) o):∃ u,o = some u ∧ RelV v u:=by
 cases o with
 | none => exact (show False from r).elim
 | some u => exact ⟨u,rfl,r⟩
theorem RelO.none_of {o:Option Value} (r:RelO none o):o = none:=by
 cases o with
 | none => rfl
 | some u => exact (show False from r).elim
section
variable {P:Program} {w:World} {H H':Hp} {h h':Heap} {a C dx:Addr} {fs fs':List (Str × V)}
theorem aJ4 (hok:HOk P w H h) (e:H a = some (.ins C dx fs)):∃ mA,ObjM h a dx C mA ∧ (∀ f,RelO (fs.lookup f) (mA f)) ∧ PySem.Within mA (fs.map (·.1)) ∧ fs.length ≤ 1000 ∧ H dx = some (.own a):=by
 obtain ⟨d,z,ne,ob,mA,n,r,q⟩:=(show ObjOk P w H h a (.ins C dx fs) from hok a _ e)
 exact ⟨mA,⟨ob,n,ne⟩,r,q,z,d⟩
end
structure Cls (K:PySem.W.Frag) (C:Addr):Prop where
 pg:PySem.W.plainGet K C Str.empty = true
 hd:PySem.W.hasDictIn K C = true
 po:PySem.W.plainOver K C = true
 sa:PySem.W.findIn K (.ref C) "__setattr__" = some (some (.builtin "object.__setattr__"))
theorem Cls.get {K:PySem.W.Frag} {C:Addr} (c:Cls K C) (f:Str):PySem.W.plainGet K C f = true:=c.pg
section
variable {X:Cx} {pins:List (Addr × Obj)} {σ:St} {H:Hp} {s:Shared} {a C dx:Addr} {fs:List (Str × V)} {f:Str} {v:V} {A:Around} {E:Value → Shared → Prop}
theorem Inv.made (I:Inv X pins σ H s):Inv X pins σ (upd (upd H s.heap.objs.size (.own (s.heap.objs.size + 1))) (s.heap.objs.size + 1) (.ins C s.heap.objs.size []))
   { s with heap:=(s.heap.push PySem.W.emptyDict).push (PySem.W.instObj C s.heap.objs.size) }:=by
 have e1:(s.heap.push PySem.W.emptyDict).get? s.heap.objs.size = some PySem.W.emptyDict:=Ar s.heap rfl
 have e2:((s.heap.push PySem.W.emptyDict).push (PySem.W.instObj C s.heap.objs.size)).get? (s.heap.objs.size + 1) = some (PySem.W.instObj C s.heap.objs.size):=by
   have:=Ar (s.heap.push PySem.W.emptyDict) (o:=PySem.W.instObj C s.heap.objs.size) rfl
   rwa [Ga] at this
 have e3:(s.heap.push PySem.W.emptyDict).Ns s.heap.objs.size (fun _ => none):=⟨PySem.W.emptyDict,#[],_,e1,rfl,(fun e he => absurd he (by simp)),fun _ => rfl⟩
 have I1:=I.laid (a:=s.heap.objs.size) (o:=.own (s.heap.objs.size + 1)) (h':=s.heap.push PySem.W.emptyDict) (t':=s.toks) (fun b u q => Ae _ q) (Ai _) ⟨_,e1⟩
 refine I1.laid (a:=s.heap.objs.size + 1) (o:=.ins C s.heap.objs.size []) (t':=s.toks) (fun b u q => Ae _ q) (Nat.le_of_eq (Ga _ _)) ?_
 have ne:s.heap.objs.size ≠ s.heap.objs.size + 1:=Bd (Nat.lt_succ_self _)
 refine ⟨by rw [aJ ne,aB],By _,ne,e2,fun _ => none,(Heap.Ns1.of_empty e3).at fun o q => Ae _ q,fun _ => True.intro,fun y hy => absurd rfl hy⟩
theorem bX2 {prog:Program} {w:World} {env:Env} {e:Expr} {f:Str} {pos:Pos} {s:Shared} {Q:Value → Shared → Prop} (hb:attributeBase e f env (eval e env) = eval e env)
   (h:wpAny (model prog w) A (eval e env) (fun o s₁ => wpAny (model prog w) A (getAttr o f true) Q E s₁) E s):wpAny (model prog w) A (eval (.Attribute e f pos) env) Q E s :=
 Attribute_any_ h (by rw [arm_eval_Attribute,hb])
end
section
variable {X:Cx} {o e value:Expr} {f:Str} {pos pos' tpos:Pos} {ta tv:TE}
end
section
variable {X:Cx} {pins:List (Addr × Obj)} {σ:St} {H:Hp} {s:Shared} {A:Around} {E:Value → Shared → Prop} {Q:Value → Shared → Prop} {c:Value} {b:Bool}
inductive TyOf (K:PySem.W.Frag) (H:Hp):V → Value → Prop where
 | non:TyOf K H .non (.type "NoneType")
 | bl (x:Bool):TyOf K H (.bl x) (.type "bool")
 | int (i:Int):TyOf K H (.int i) (.type "int")
 | str (x:Str):TyOf K H (.str x) (.type "str")
 | flt (x:UInt64):TyOf K H (.flt x) (.type "float")
 | lst {a:Addr} {xs:List V} (e:H a = some (.lst xs)):TyOf K H (.ref a) (.type "list")
 | frz {a:Addr} {o:Obj} {xs:List V} (e:H a = some (.frz o (.lst xs))):TyOf K H (.ref a) (.type "list")
 | tup {a:Addr} {xs:List V} (e:H a = some (.tup xs)):TyOf K H (.ref a) (.type "tuple")
 | dK {a:Addr} {kvs:List (Key × V)} (e:H a = some (.dK kvs)):TyOf K H (.ref a) (.type "dict")
 | dT {a:Addr} {kvs:List (List Key × V)} (e:H a = some (.dT kvs)):TyOf K H (.ref a) (.type "dict")
 | ins {a C dx:Addr} {fs:List (Str × V)} (e:H a = some (.ins C dx fs)) (cl:Cls K C) (ha:PySem.W.findIn K (.ref C) "__class__" = some (some (.builtin "object.__class__")))
     (hn:PySem.W.specialIn K (.builtin "object.__class__") "__get__" = some (some (.builtin "getset_descriptor.__get__"))) (htk:PySem.W.takesIn K (.builtin "object.__class__") = some true)
     (hm:PySem.W.mroIn K C (.type "object") = some true):TyOf K H (.ref a) (.ref C)
theorem xW {x:V} {u t:Value} (I:Inv X pins σ H s) (rx:RelV x u) (ty:TyOf X.K H x t) (e:PySem.W.kitOne X.K t c = some b) (h:∀ tk,Q (.bool b) { s with toks:=tk }) :
   wpAny (model X.prog X.w) A (call (.builtin "isinstance") [u,c]) Q E s:=by
 cases ty with
 | non => cases (show u = Value.none from rx); exact Cq PySem.W.kitx_none I.kIn True.intro e (fun z => nomatch z) h
 | bl y => cases (show u = Value.bool y from rx); exact Cq PySem.W.kitx_bool I.kIn True.intro e (fun z => nomatch z) h
 | int i => obtain ⟨t,q⟩:=(show ∃ t,u = Value.int i t from rx); cases q; exact Cq PySem.W.kitx_int I.kIn True.intro e (fun z => nomatch z) h
 | str y => obtain ⟨t,q⟩:=(show ∃ t,u = Value.str y t from rx); cases q; exact Cq PySem.W.kitx_str I.kIn True.intro e (fun z => nomatch z) h
 | flt y => obtain ⟨t,q⟩:=(show ∃ t,u = Value.float y t from rx); cases q; exact Cq PySem.W.kitx_float I.kIn True.intro e (fun z => nomatch z) h
 | @lst a xs ea =>
   cases (show u = Value.ref a from rx)
   obtain ⟨_,_,n,_,h1⟩:=(show ObjOk X.prog X.w H s.heap a (.lst xs) from I.hok a _ ea)
   exact Cq PySem.W.kitx_list I.kIn ⟨_,h1,rfl⟩ e (fun z => nomatch z) h
 | @frz a ob xs ea =>
   cases (show u = Value.ref a from rx)
   obtain ⟨_,_,_,n,_,h1⟩:=(show ObjOk X.prog X.w H s.heap a (.frz ob (.lst xs)) from I.hok a _ ea)
   exact Cq PySem.W.kitx_list I.kIn ⟨_,h1,rfl⟩ e (fun z => nomatch z) h
 | @tup a xs ea =>
   cases (show u = Value.ref a from rx)
   obtain ⟨_,_,_,p⟩:=(show ObjOk X.prog X.w H s.heap a (.tup xs) from I.hok a _ ea)
   obtain ⟨o,h1,h2,_⟩:=p
   exact Cq PySem.W.kitx_tuple I.kIn ⟨o,h1,h2⟩ e (fun z => nomatch z) h
 | @dK a kvs ea =>
   cases (show u = Value.ref a from rx)
   obtain ⟨_,_,vs,_,p⟩:=(show ObjOk X.prog X.w H s.heap a (.dK kvs) from I.hok a _ ea)
   obtain ⟨o,es,ep,h1,h2,_⟩:=p
   exact Cq PySem.W.kitx_dict I.kIn ⟨o,h1,h2.1⟩ e (fun z => nomatch z) h
 | @dT a kvs ea =>
   cases (show u = Value.ref a from rx)
   obtain ⟨_,_,xs,_,o,es,ep,h1,h2,_⟩:=(show ObjOk X.prog X.w H s.heap a (.dT kvs) from I.hok a _ ea)
   exact Cq PySem.W.kitx_dict I.kIn ⟨o,h1,h2.1⟩ e (fun z => nomatch z) h
 | @ins a C dx fs ea cl ha hn htk hm =>
   cases (show u = Value.ref a from rx)
   obtain ⟨mA,O,_⟩:=aJ4 I.hok ea
   obtain ⟨od,J,_⟩:=O.look
   exact Cq (PySem.W.kitx_own (cl.get _) cl.hd ha hn htk hm) I.kIn J e (fun z => nomatch z) h
end
end L2
namespace L2
open PySem PySem.Spec PyProof.Rows
structure Room (k:Nat) (A:Around):Prop where
 hd:A.handled = none
 dp:A.depth + 3 * k + 5 < recursionLimit
 un:A.units + 16 * k + 200 < cLine
theorem Room.mono {j k:Nat} {A:Around} (r:Room k A) (h:j ≤ k):Room j A:=⟨r.hd,by have:=r.dp; omega,by have:=r.un; omega⟩
theorem Room.deeper {k:Nat} {A:Around} (r:Room (k + 1) A) (env:Env):Room k (A.deeper env) :=
 ⟨r.hd,by have:=r.dp; show A.depth + 1 + 3 * k + 5 < _; omega,by have:=r.un; show A.units + 3 + 16 * k + 200 < _; omega⟩
theorem Room.in1 {k:Nat} {A:Around} (r:Room (k + 1) A):Room k A.in1 :=
 ⟨r.hd,by have:=r.dp; show A.depth + 3 * k + 5 < _; omega,by have:=r.un; show A.units + 1 + 16 * k + 200 < _; omega⟩
theorem uG {A:Around} {C:Addr} {us:List Value} {kw:List (Str × Value)}:(A.under (.builtin "type.__call__" ⟨.ref C :: us,kw⟩)).depth = A.depth + 1:=by
 first | rfl | simp [Around.under,Code.weight,Code.isCreation,Code.isGuard,Code.isCaller,Code.frames,Code.isFrame,guardIds]
theorem uX {A:Around} {C:Addr} {us:List Value} {kw:List (Str × Value)}:(A.under (.builtin "type.__call__" ⟨.ref C :: us,kw⟩)).units = A.units + 1:=by
 first | rfl | simp [Around.under,Code.cUnits,Code.frames,Code.isFrame]
theorem Room.make {k:Nat} {A:Around} (r:Room (k + 1) A) (C:Addr) (us:List Value) (kw:List (Str × Value)):Room k (A.under (.builtin "type.__call__" ⟨.ref C :: us,kw⟩)) :=
 ⟨r.hd,by have:=r.dp; rw [uG]; omega,by have:=r.un; rw [uX]; omega⟩
theorem Room.depth {k:Nat} {A:Around} (r:Room k A):A.depth < recursionLimit:=by have:=r.dp; omega
theorem Room.units {k:Nat} {A:Around} (r:Room k A):A.units + 64 < cLine:=by have:=r.un; omega
theorem Room.units0 {k:Nat} {A:Around} (r:Room k A):A.units < cLine:=by have:=r.un; omega
def cJU:TA:=fun _ H Q => Q [] H
def bZM (ta:TE) (tr:TA):TA:=fun σ H Q => ta σ H fun x H1 => tr σ H1 fun xs H2 => Q (x :: xs) H2
section
variable {X:Cx} {e:Expr} {es:List Expr} {te:TE} {t:TA} {pos:Pos}
theorem aE:PA X [] cJU:=fun _ _ _ _ H Q I h => Calls.spliced_nil ⟨[],H,I,.nil,h⟩
theorem aA (ha:PE X e te) (hr:PA X es t) (hs:starEach (e :: es) X.env = (false,eval e X.env) :: starEach es X.env:=by rfl):PA X (e :: es) (bZM te t):=by
 intro pos pins s σ H Q I h
 rw [hs]
 show wpAny _ _ (spliced ((false,eval e X.env) :: backTo pos (starEach es X.env))) _ _ s
 refine Calls.spliced_cons (thn (ha pins s σ H _ I h) fun u s1 ⟨x,H1,I1,r1,q1⟩ => ?_)
 exact thn (hr pos pins s1 σ H1 _ I1 q1) fun us s2 ⟨xs,H2,I2,r2,q2⟩ => ⟨x :: xs,H2,I2,.cons r1 r2,q2⟩
def cJV (t:TA):TE:=fun σ H Q => t σ H fun xs H1 => xs.length ≤ sizeLine ∧ ∀ p,H1 p = none → Q (.ref p) (upd H1 p (.tup xs))
def cJB (t:TA):TE:=fun σ H Q => t σ H fun xs H1 => xs.length ≤ sizeLine ∧ ∀ p,H1 p = none → Q (.ref p) (upd H1 p (.lst xs))
theorem fR {x1} (h:PA X es t):PE X (.Tuple es x1 pos) (cJV t):=by
 intro pins s σ H Q I hq
 refine wpAny_Tuple_spliced (thn (h pos pins s σ H _ I hq) fun us s1 ⟨xs,H1,I1,r,z,q⟩ => ⟨by rw [← r.length]; exact z,?_⟩)
 have hf:H1 s1.heap.objs.size = none:=I1.hok.fresh (Ai _)
 refine ⟨.ref s1.heap.objs.size,upd H1 s1.heap.objs.size (.tup xs),I1.laid (t':=s1.toks) (fun b u e => Ae _ e) (Ai _) ?_,rfl,q _ hf⟩
 exact ⟨z,us,r,⟨_,Ar _ rfl,rfl,_,rfl⟩⟩
theorem cJ (h:PA X es t):PE X (.List es pos) (cJB t):=by
 intro pins s σ H Q I hq
 refine wpAny_List_spliced (thn (h pos pins s σ H _ I hq) fun us s1 ⟨xs,H1,I1,r,z,q⟩ => ⟨by rw [← r.length]; exact z,?_⟩)
 have hf:H1 s1.heap.objs.size = none:=I1.hok.fresh (Ai _)
 refine ⟨.ref s1.heap.objs.size,upd H1 s1.heap.objs.size (.lst xs),I1.laid (t':=s1.toks) (fun b u e => Ae _ e) (Ai _) ?_,rfl,q _ hf⟩
 exact ⟨z,us,0,r,Ar _ rfl⟩
end
abbrev Sp:=List V → Hp → VK → XK → Prop
abbrev CXT:=List Env → Hp → Shared → XK → Value → Shared → Prop
structure Env0 (P:Program) (w:World) (K:PySem.W.Frag) (mg:Str → Option Value) (base:Heap) (A:Around) (outer:List Env) (s:Shared) (H:Hp):Prop where
 frames:A.frames = some outer
 mod:Mod K mg base
 bs:∀ b o,base.get? b = some o → s.heap.get? b = some o ∧ H b = none
 bsz:base.objs.size ≤ s.heap.objs.size
 funs:s.heap.FunFrames base outer
 frf:∀ b ∈ frs outer,H b = none
 hok:HOk P w H s.heap
 bare:AllBare s.gens
def CE (outer:List Env) (P:Program) (w:World) (H:Hp) (s:Shared) (Q:VK) (u:Value) (s':Shared):Prop :=
 ∃ v H',s'.os = s.os ∧ AllBare s'.gens ∧ Un (frs outer) [] H H' s.heap s'.heap ∧ HOk P w H' s'.heap ∧ RelV v u ∧ Q v H'
def CR (CX:CXT) (outer:List Env) (P:Program) (w:World) (H:Hp) (s:Shared) (Q:VK) (E:XK) (r:Result) (s':Shared):Prop :=
 match r with
 | .ok (.ret u) => CE outer P w H s Q u s'
 | .ok _ => False
 | .error e => CX outer H s E e s'
structure FnOk (P:Program) (w:World) (K:PySem.W.Frag) (mg:Str → Option Value) (base:Heap) (CX:CXT) (k:Nat) (f:Addr) (fd:FuncData) (ps:List Str) (sp:Sp):Prop where
 len:∀ vs H Q E,sp vs H Q E → vs.length = ps.length
 run:∀ (A:Around) (outer:List Env) (s:Shared) (H:Hp) (args:Args) (us:List Value) (vs:List V) (Q:VK) (E:XK),Room k A → Env0 P w K mg base A outer s H → BindsTo s fd args (ps.zip us) → Vals vs us → sp vs H Q E →
   codeAny (model P w) A (.call (.ref f) args) (CR CX outer P w H s Q E) s
theorem FnOk.mono {P:Program} {w:World} {K:PySem.W.Frag} {mg:Str → Option Value} {base:Heap} {CX:CXT} {j k:Nat} {f:Addr} {fd:FuncData} {ps:List Str} {sp:Sp} (F:FnOk P w K mg base CX j f fd ps sp) (h:j ≤ k) :
   FnOk P w K mg base CX k f fd ps sp:=⟨F.len,fun A outer s H args us vs Q E hr => F.run A outer s H args us vs Q E (hr.mono h)⟩
theorem FnOk.imp {P:Program} {w:World} {K:PySem.W.Frag} {mg:Str → Option Value} {base:Heap} {CX:CXT} {k:Nat} {f:Addr} {fd:FuncData} {ps:List Str} {sp sp':Sp} (F:FnOk P w K mg base CX k f fd ps sp)
   (h:∀ vs H Q E,sp' vs H Q E → sp vs H Q E):FnOk P w K mg base CX k f fd ps sp' :=
 ⟨fun vs H Q E q => F.len vs H Q E (h _ _ _ _ q),fun A outer s H args us vs Q E hr he hb hv hs => F.run A outer s H args us vs Q E hr he hb hv (h _ _ _ _ hs)⟩
theorem Env0.make {P:Program} {w:World} {K:PySem.W.Frag} {mg:Str → Option Value} {base:Heap} {A:Around} {outer:List Env} {s:Shared} {H:Hp} (e:Env0 P w K mg base A outer s H) (C:Addr) (us:List Value) (kw:List (Str × Value)) :
   Env0 P w K mg base (A.under (.builtin "type.__call__" ⟨.ref C :: us,kw⟩)) outer s H:=⟨by first | exact e.frames | (simpa [Around.under,Code.envs,Code.isFrame,pushEnvs] using e.frames),e.mod,e.bs,e.bsz,e.funs,e.frf,e.hok,e.bare⟩
theorem Env0.in1 {P:Program} {w:World} {K:PySem.W.Frag} {mg:Str → Option Value} {base:Heap} {A:Around} {outer:List Env} {s:Shared} {H:Hp} (e:Env0 P w K mg base A outer s H) :
   Env0 P w K mg base A.in1 outer s H:=⟨e.frames,e.mod,e.bs,e.bsz,e.funs,e.frf,e.hok,e.bare⟩
section
variable {X:Cx} {pins:List (Addr × Obj)} {σ:St} {H:Hp} {s s':Shared}
theorem Inv.env0 (I:Inv X pins σ H s):Env0 X.prog X.w X.K X.mg X.base X.A X.stack s H :=
 ⟨I.ok.frames,I.ok.mod,I.bs,Ax I.ok.bsz I.sz,I.stack,I.stkFree,I.hok,I.bare⟩
theorem Inv.after {Q:VK} {u:Value} (I:Inv X pins σ H s) (h:CE X.stack X.prog X.w H s Q u s'):EP X pins σ Q u s':=by
 obtain ⟨v,H',os,bare,un,hok,r,q⟩:=h
 obtain ⟨hh,g,d,t,os'⟩:=s'
 obtain rfl:os' = s.os:=os
 exact ⟨v,H',I.call (h':=hh) (g':=g) (d':=d) (t':=t) (ch:=[]) un hok bare (fun b z => absurd z (by simp)),r,q⟩
end
def aJW (sp:Sp) (dvs:List V) (E:XK) (t:TA):TE:=fun σ H Q => t σ H fun vs H1 => sp (vs ++ dvs) H1 Q E
def Binds (K:PySem.W.Frag) (fd:FuncData) (ps:List Str) (ds:List Value):Prop :=
 ∀ (s:Shared) (us:List Value),K.In s.heap → (us ++ ds).length = ps.length → BindsTo s fd ⟨us,[]⟩ (ps.zip (us ++ ds))
theorem Binds.all {K:PySem.W.Frag} {fd:FuncData} {ps:List Str} (h:∀ us:List Value,us.length = ps.length → bindArgs fd ⟨us,[]⟩ = pure (ps.zip us)):Binds K fd ps []:=fun s us _ hl => by
 rw [Bw] at hl ⊢
 exact .of_eq (h us hl)
def vD (CX:CXT) (X:Cx) (E:XK):Prop:=∀ (pins:List (Addr × Obj)) (σ:St) (H:Hp) (s:Shared) (e:Value) (s':Shared),Inv X pins σ H s → CX X.stack H s E e s' → X.xe e s'
section
variable {X:Cx} {CX:CXT} {k:Nat} {f C:Addr} {fd:FuncData} {ps:List Str} {sp:Sp} {dvs:List V} {ds:List Value} {E:XK} {x m:Str} {p pos apos:Pos} {e o:Expr} {es:List Expr} {ta:TE} {t:TA}
theorem bJ9 {pins:List (Addr × Obj)} {σ:St} {H:Hp} {s:Shared} {Q:VK} {us:List Value} {vs:List V} (F:FnOk X.prog X.w X.K X.mg X.base CX k f fd ps sp) (hr:Room k X.A) (hb:Binds X.K fd ps ds) (hd:Vals dvs ds) (hx:vD CX X E)
   (I:Inv X pins σ H s) (r:Vals vs us) (h:sp (vs ++ dvs) H Q E):wpAny (model X.prog X.w) X.A (call (.ref f) us) (EP X pins σ Q) X.xe s:=by
 have r2:Vals (vs ++ dvs) (us ++ ds):=r.append hd
 have hl:(us ++ ds).length = ps.length:=by rw [← r2.length]; exact F.len _ _ _ _ h
 refine Gh (Fd (F.run X.A X.stack s H ⟨us,[]⟩ (us ++ ds) (vs ++ dvs) Q E hr I.env0 (hb s us I.kIn hl) r2 h) fun r s' hq => ?_)
 cases r with
 | error e => exact hx pins σ H s e s' I hq
 | ok fl =>
   cases fl with
   | ret u => exact I.after hq
   | next => exact False.elim hq
   | brk => exact False.elim hq
   | cont => exact False.elim hq
theorem bQX (F:FnOk X.prog X.w X.K X.mg X.base CX k f fd ps sp) (hr:Room k X.A) (hg:Gl X x) (hm:X.mg x = some (.ref f)) (hk:PySem.W.keepIn X.K (.ref f) = true) (hb:Binds X.K fd ps ds) (hd:Vals dvs ds) (hx:vD CX X E)
   (ha:PA X (e :: es) t) (hdb:(x == ("__debug__" : Str)) = false:=by decide) (he:starEach (e :: es) X.env = (false,eval e X.env) :: starEach es X.env:=by rfl) (hpl:(backTo pos (starEach es X.env)).any (·.1) = false:=by rfl) :
   PE X (.Call (.Name x p) (e :: es) [] pos) (aJW sp dvs E t):=by
 intro pins s σ H Q I h
 refine Ek (gY I hg hm ?_ hdb)
 refine PySem.W.callWith_K (h₀:=X.base) I.ok.mod.kin hk (thn (ha pos pins s σ H _ I h) fun us s1 ⟨vs,H1,I1,r,q⟩ => ⟨I1.kIn,?_⟩) he hpl
 exact bJ9 F hr hb hd hx I1 r q
end
section
variable {X:Cx} {CX:CXT} {k:Nat} {f C:Addr} {fd:FuncData} {ps ks:List Str} {sp:Sp} {E:XK} {x m:Str} {p pos apos kpos:Pos} {e o:Expr} {es:List Expr} {kws:List Keyword} {te ta:TE} {t tk:TA} {nm:Option Str}
variable {g:List Value → List Value → List Value} {gV:List V → List V → List V}
end
structure FnScope (N P:List Str) (sc:Scope):Prop where
 kind:sc.kind = .function
 co:sc.isCoroutine = false
 gen:sc.isGenerator = false
 nd:N.Nodup
 pre:N.take P.length = P
 par:∀ x ∈ P,sc.names.lookup x = some .local ∨ sc.names.lookup x = some .cell
 nofree:∀ y ∈ sc.names,y.2 ≠ .free
theorem oM {kindOf:Str → Option NameKind} {x:Str}:∀ {binds:List (Str × Value)} {m:Str → Option Value},(∀ v,(x,v) ∉ binds) → bindL kindOf binds m x = m x
 | [],_,_ => rfl
 | (n,v) :: r,m,h => by
   unfold bindL
   rw [oM fun w hw => h w (Al _ hw)]
   split
   · have:x ≠ n:=by rintro rfl; exact h v Aq
     simp [this]
   · rfl
theorem pG {kindOf:Str → Option NameKind} {x:Str}:∀ {binds:List (Str × Value)} {m:Str → Option Value},(∀ v,(x,v) ∉ binds) → bindC kindOf binds m x = m x
 | [],_,_ => rfl
 | (n,v) :: r,m,h => by
   unfold bindC
   rw [pG fun w hw => h w (Al _ hw)]
   split
   · rfl
   · have:x ≠ n:=by rintro rfl; exact h v Aq
     simp [this]
theorem oG {kindOf:Str → Option NameKind} {x:Str} {v:Value}:∀ {P:List Str} {vs:List Value} {i:Nat} {m:Str → Option Value},P.Nodup → P[i]? = some x → vs[i]? = some v → kindOf x = some .local →
   bindL kindOf (P.zip vs) m x = some v
 | [],_,_,_,_,h,_,_ => by simp at h
 | _ :: _,[],_,_,_,_,h,_ => by simp at h
 | p :: P,w :: vs,0,m,nd,h1,h2,hk => by
   simp at h1 h2; subst h1; subst h2
   show bindL kindOf ((p,w) :: P.zip vs) m p = _
   unfold bindL
   rw [oM fun v hv => (Bq.mp nd).1 (List.of_mem_zip hv).1,if_pos hk]
   simp
 | p :: P,w :: vs,i + 1,m,nd,h1,h2,hk => by
   show bindL kindOf ((p,w) :: P.zip vs) m x = _
   unfold bindL
   exact oG (i:=i) (List.nodup_cons.mp nd).2 (by simpa using h1) (by simpa using h2) hk
theorem oJ {kindOf:Str → Option NameKind} {x:Str} {v:Value}:∀ {P:List Str} {vs:List Value} {i:Nat} {m:Str → Option Value},P.Nodup → P[i]? = some x → vs[i]? = some v → kindOf x ≠ some .local →
   bindC kindOf (P.zip vs) m x = some v
 | [],_,_,_,_,h,_,_ => by simp at h
 | _ :: _,[],_,_,_,_,h,_ => by simp at h
 | p :: P,w :: vs,0,m,nd,h1,h2,hk => by
   simp at h1 h2; subst h1; subst h2
   show bindC kindOf ((p,w) :: P.zip vs) m p = _
   unfold bindC
   rw [pG fun v hv => (Bq.mp nd).1 (List.of_mem_zip hv).1,if_neg hk]
   simp
 | p :: P,w :: vs,i + 1,m,nd,h1,h2,hk => by
   show bindC kindOf ((p,w) :: P.zip vs) m x = _
   unfold bindC
   exact oJ (i:=i) (List.nodup_cons.mp nd).2 (by simpa using h1) (by simpa using h2) hk
def fL (N:List Str) (vs:List V):St:=vs.map some ++ List.replicate (N.length - vs.length) none
def jC (CX:CXT) (P:Program) (w:World) (K:PySem.W.Frag) (mg:Str → Option Value) (base:Heap) (N:List Str) (qual:Str) (scope:Scope) (f:Addr) (cd:Value) (A:Around) (outer:List Env) (s:Shared) (H:Hp) (E:XK):Cx where
 prog:=P
 w:=w
 K:=K
 mg:=mg
 base:=base
 A:=A.deeper (envOfC qual scope s.heap.objs.size f cd)
 N:=N
 s₀:=s
 H₀:=H
 env:=envOfC qual scope s.heap.objs.size f cd
 outer:=outer
 stack:=envOfC qual scope s.heap.objs.size f cd :: outer
 ex:=[]
 calm:=true
 fn:=fun _ => true
 pn:=[]
 xe:=fun e s' => wpAny (model P w) (A.deeper (envOfC qual scope s.heap.objs.size f cd)) (leaving (envOfC qual scope s.heap.objs.size f cd) e) (fun _ s'' => CX outer H s E e s'') (fun e' s'' => CX outer H s E e' s'') s'
theorem bM {sc:Scope} {n:Nat} {x:Str} (h:sc.names.lookup x = some .cell):∃ c,(cellsFrom n sc.names []).lookup x = some c:=by
 have q:=PySem.W.cellsFrom_some sc.names n [] (.inl h)
 exact Ef.mp q
theorem zT {CX:CXT} {P:Program} {w:World} {K:PySem.W.Frag} {mg:Str → Option Value} {base:Heap} {N ps:List Str} {qual:Str} {scope:Scope} {f:Addr} {cd:Value} {A:Around} {outer:List Env} {s s1:Shared} {H:Hp} {E:XK} {us:List Value} {vs:List V}
   (S:FnScope N ps scope) (hd:A.handled = none) (e0:Env0 P w K mg base A outer s H) (hl:vs.length = ps.length) (r:Vals vs us)
   (x:InCallC s s.heap.objs.size (bindL (envOfC qual scope s.heap.objs.size f cd).kindOf (ps.zip us) fun _ => none) (cellsFrom (s.heap.objs.size + 1) scope.names []) (bindC (envOfC qual scope s.heap.objs.size f cd).kindOf (ps.zip us) fun _ => none) s1) :
   Inv (jC CX P w K mg base N qual scope f cd A outer s H E) [] (fL N vs) H s1:=by
 have hpl:ps.length ≤ N.length:=by have:=Cp List.length S.pre; rw [Bl] at this; omega
 obtain ⟨h1,tk,rfl,hk⟩:=x.done
 have noA:∀ b:Addr,b ∉ (jC CX P w K mg base N qual scope f cd A outer s H E).ex:=fun b z => absurd (show b ∈ ([]:List Addr) from z) (by simp)
 refine ⟨⟨e0.mod,S.kind,rfl,rfl,Ai _,fun y z c h1 h2 => ?_,fun y hy => ?_,fun y c _ h => ?_,fun _ => hd,Around.frames_deeper e0.frames,.inr ⟨rfl,rfl⟩,fun b z => absurd z (noA b),e0.bs,e0.bsz,fun b _ _ => noA b,fun b z => absurd z (noA b),e0.funs,e0.frf⟩,
   rfl,e0.bare,Un.kept hk,⟨_,x.toInCall.ns,fun i y v h1 h2 h3 => ?_⟩,fun y c h => ⟨_,x.cell y c h⟩,e0.hok.fresh (Nat.le_refl _),fun y c h => ?_,fun p hp => absurd (show p ∈ ([]:List (Addr × Obj)) from hp) (by simp),e0.hok.kept hk,?_⟩
 · exact name_of_addr x.apart (Cr h1) (Cr h2)
 · have hy:scope.names.lookup y = some .cell ∨ scope.names.lookup y = some .free:=hy
   rcases hy with hy | hy
   · exact bM hy
   · exact absurd rfl (S.nofree _ (Cr hy))
 · exact Cz (x.above y c (Cr h))
 · have hi:i < vs.length:=by
     unfold fL at h2
     by_cases hi:i < vs.length
     · exact hi
     · rw [List.getElem?_append_right (by simpa using hi)] at h2
       rw [List.getElem?_replicate] at h2
       split at h2 <;> cases h2
   have ha:vs[i]? = some v:=by
     unfold fL at h2
     rw [List.getElem?_append_left (by simpa using hi),List.getElem?_map] at h2
     cases e:vs[i]? with
     | none => rw [e] at h2; cases h2
     | some a => rw [e] at h2; cases h2; rfl
   obtain ⟨u,hu,rv⟩:=r.get ha
   have hp:ps[i]? = some y:=by
     rw [← S.pre,List.getElem?_take_of_lt (by omega)]; exact h1
   have ndP:ps.Nodup:=by rw [← S.pre]; exact S.nd.sublist (List.take_sublist _ _)
   refine ⟨u,rv,?_⟩
   rcases S.par y (Ak hp) with k | k
   · exact .inl ⟨k,oG ndP hp hu k⟩
   · obtain ⟨c,e⟩:=bM (n:=s.heap.objs.size + 1) k
     refine .inr ⟨.inl k,c,e,?_⟩
     have q:=x.cell y c e
     rw [oJ ndP hp hu (by show scope.names.lookup y ≠ _; rw [k]; decide)] at q
     exact q
 · exact e0.hok.fresh (Cz (x.above y c (Cr h)))
 · unfold fL
   show _ = N.length
   rw [Am,Ab,List.length_replicate]
   omega
theorem bZN {CX:CXT} {P:Program} {w:World} {K:PySem.W.Frag} {mg:Str → Option Value} {base:Heap} {k:Nat} {f:Addr} {name qual:Str} {params:Arguments} {body:List Stmt} {scope:Scope} {dV kV doc pm cdv ct oc:Value} {an od:Option Addr}
   {osl:Array (Option Value)} {N ps:List Str} {sp:Sp} (lk:K.lookup f = some ⟨oc,od,.func (PySem.W.fnOf name qual params body scope dV kV doc pm an cdv ct),osl⟩) (hcd:PySem.W.codeIn K cdv qual = true) (S:FnScope N ps scope)
   (len:∀ vs H Q E,sp vs H Q E → vs.length = ps.length)
   (hbody:∀ (A:Around) (outer:List Env) (s:Shared) (H:Hp) (vs:List V) (Q:VK) (E:XK),Room k (A.deeper (envOfC qual scope s.heap.objs.size f cdv)) → sp vs H Q E →
     ∃ t,PSs (jC CX P w K mg base N qual scope f cdv A outer s H E) body t ∧ t { nx:=fun _ H' => Q .non H',rt:=Q } (fL N vs) H) :
   FnOk P w K mg base CX (k + 1) f (PySem.W.fnOf name qual params body scope dV kV doc pm an cdv ct) ps sp:=by
 refine ⟨len,fun A outer s H args us vs Q E hr e0 hb r hsp => ?_⟩
 have hl:=len _ _ _ _ hsp
 have KX:K.In s.heap:=e0.mod.kin.keeps fun b o e => (e0.bs b o e).1
 have lim:s.heap.NoLimit:=e0.mod.nolimit.keeps fun b o e => (e0.bs b o e).1
 have hkind:∀ y ∈ ps.zip us,scope.names.lookup y.1 = some .local ∨ (scope.names.lookup y.1 = some .cell ∧ ((cellsFrom (s.heap.objs.size + 1) scope.names []).lookup y.1).isSome = true):=fun ⟨n,v⟩ hy => by
   rcases S.par n (List.of_mem_zip hy).1 with q | q
   · exact .inl q
   · exact .inr ⟨q,PySem.W.cellsFrom_some _ _ _ (.inl q)⟩
 refine codeAny_call_function hr.depth (KX _ _ lk) rfl S.co S.gen rfl (PySem.W.codeRec_of KX hcd) (hb _ _ _ _ ?_)
 refine wpAny_newFunctionEnv_cells S.kind hkind fun env he s1 x => ?_
 subst he
 refine ⟨lim.keeps x.toInCall.keep,codeAny_func ?_⟩
 obtain ⟨t,ht,hq⟩:=hbody A outer s H vs Q E (hr.deeper _) hsp
 have I:Inv (jC CX P w K mg base N qual scope f cdv A outer s H E) [] (fL N vs) H s1:=zT S hr.hd e0 hl r x
 refine Bv (ht [] s1 (fL N vs) H _ I hq) (fun fl s' hs => ?_) fun e s' hs => hs
 have fin:∀ {σ':St} {H':Hp} {v:V} {u:Value},Inv (jC CX P w K mg base N qual scope f cdv A outer s H E) [] σ' H' s' → RelV v u → Q v H' → CE outer P w H s Q u s' :=
   fun {σ' H' v u} J rv q => ⟨v,H',J.os,J.bare,J.base,J.hok,rv,q⟩
 cases fl with
 | ret u =>
   obtain ⟨v,σ',H',J,rv,q⟩:=hs
   exact fin J rv q
 | next =>
   obtain ⟨σ',H',J,q⟩:=hs
   exact fin (v:=V.non) (u:=Value.none) J rfl q
 | brk =>
   obtain ⟨_,_,_,q⟩:=hs
   exact False.elim q
 | cont =>
   obtain ⟨_,_,_,q⟩:=hs
   exact False.elim q
end L2
namespace L2
open PySem PySem.Spec PyProof.Rows
section
variable {X:Cx} {x:Str} {p pos:Pos} {e:Expr} {es:List Expr} {t:TA} {id T:String} {r:List V → Hp → VK → Prop}
def tCB (r:List V → Hp → VK → Prop) (t:TA):TE:=fun σ H Q => t σ H fun vs H1 => r vs H1 Q
theorem aN (hc:CallR X (.builtin id) r) (hg:Gl X x) (hm:X.mg x = none) (hv:bootBuiltins x = some (.builtin id)) (ha:PA X (e :: es) t) (hn:x ≠ "__name__" := by decide) (hdb:(x == ("__debug__" : Str)) = false:=by decide)
   (he:starEach (e :: es) X.env = (false,eval e X.env) :: starEach es X.env:=by rfl) (hpl:(backTo pos (starEach es X.env)).any (·.1) = false:=by rfl):PE X (.Call (.Name x p) (e :: es) [] pos) (tCB r t):=by
 intro pins s σ H Q I h
 refine Ek (gG I hg hm hv ?_ hn hdb)
 exact PyProof.Rows.callWith_builtin1 (thn (ha pos pins s σ H _ I h) fun us s1 ⟨vs,H1,I1,r1,q1⟩ => hc pins s1 σ H1 vs us Q I1 r1 q1) he hpl
theorem aZ (hc:CallR X (.type T) r) (hg:Gl X x) (hm:X.mg x = none) (hv:bootBuiltins x = some (.type T)) (ha:PA X (e :: es) t) (hn:x ≠ "__name__" := by decide) (hdb:(x == ("__debug__" : Str)) = false:=by decide)
   (he:starEach (e :: es) X.env = (false,eval e X.env) :: starEach es X.env:=by rfl) (hpl:(backTo pos (starEach es X.env)).any (·.1) = false:=by rfl):PE X (.Call (.Name x p) (e :: es) [] pos) (tCB r t):=by
 intro pins s σ H Q I h
 refine Ek (gG I hg hm hv ?_ hn hdb)
 exact Co (thn (ha pos pins s σ H _ I h) fun us s1 ⟨vs,H1,I1,r1,q1⟩ => hc pins s1 σ H1 vs us Q I1 r1 q1) he hpl
end
end L2
namespace HT
open PySem PyProof.Rows
section
open PySem.SeqAt
open PySem.AutoSeq1 (wpAny_loadPart')
open PySem.MeetsSeq PySem.MeetsSeq2 PySem.MeetsSeq3
end
section
variable {prog:Program} {w:World} {A:Around} {E:Value → Shared → Prop} {s:Shared}
def sIx (n d:Nat):Option Int → Nat
 | none => d
 | some v => if v < 0 then (v + (n:Int)).toNat else min v.toNat n
theorem aZB (n d:Nat) (hd:d ≤ n) (o:Option Int):sIx n d o ≤ n:=by
 cases o with
 | none => exact hd
 | some v =>
   show (if v < 0 then (v + (n:Int)).toNat else min v.toNat n) ≤ n
   by_cases hv:v < 0
   · rw [if_pos hv]; omega
   · rw [if_neg hv]; exact Nat.min_le_right _ _
theorem xM (v:Int) (n d:Nat):(if v < 0 then max (v + (n:Int)) 0 else min v (n:Int)) = ((sIx n d (some v):Nat):Int):=by
 show (if v < 0 then max (v + (n:Int)) 0 else min v (n:Int)) = (((if v < 0 then (v + (n:Int)).toNat else min v.toNat n):Nat):Int)
 by_cases hv:v < 0
 · simp only [if_pos hv]; omega
 · simp only [if_neg hv]; omega
theorem tH (lo hi:Option Int) (n:Nat):Builtin.Slice.sliceAdjust lo hi 1 (n:Int) = (((sIx n 0 lo:Nat):Int),((sIx n n hi:Nat):Int)):=by
 have h1:¬ ((1:Int) < 0):=by omega
 unfold Builtin.Slice.sliceAdjust
 simp only [h1,if_false]
 refine Prod.ext ?_ ?_
 · cases lo with
   | none => rfl
   | some v => exact xM v n 0
 · cases hi with
   | none => rfl
   | some v => exact xM v n n
theorem uD (i j:Nat):Builtin.Slice.slicePlaces (i:Int) (j:Int) 1 = j - i:=by
 unfold Builtin.Slice.slicePlaces
 have h1:(1:Int) > 0:=by omega
 simp only [h1,if_true,Int.ediv_one]
 split <;> omega
theorem mU {v:Value} {o:Option Int} {Q:Option Int → Shared → Prop} (p:IsPart v o) (h:Q o s):wpAny (model prog w) A (Builtin.Slice.slicePartIndex v) Q E s:=by
 cases p with
 | none => exact slicePart_none h
 | int i t => exact slicePart_int h
theorem kB {sl:Addr} {vl vu:Value} {lo hi:Option Int} {n:Nat} {Q:Int × Int × Nat → Shared → Prop} (hs:s.heap.IsSliceOf sl vl vu .none) (pl:IsPart vl lo) (pu:IsPart vu hi)
   (h:Q (((sIx n 0 lo:Nat):Int),1,sIx n n hi - sIx n 0 lo) s):wpAny (model prog w) A (Builtin.Slice.sliceApplied (.ref sl) (pure (n:Int))) Q E s:=by
 obtain ⟨os,hos,hcs,hds⟩:=id hs
 unfold Builtin.Slice.sliceApplied Builtin.Slice.sliceFields
 refine Ac (Ac (Df hos hds (x:=vl) rfl (Ac (Df hos hds (x:=vu) rfl (Ac (Df hos hds (x:=.none) rfl (Ah ?_)))))))
 refine Ac (slicePart_none ?_)
 show wpAny _ _ (if ((1:Int) == 0) = true then _ else _) _ _ s
 rw [if_neg (by decide)]
 refine Ac (mU pl (Ac (mU pu (Ac (Ah ?_)))))
 show wpAny _ _ (match Builtin.Slice.sliceAdjust lo hi 1 (n:Int) with | (lo,hi) => pure (lo,(1:Int),Builtin.Slice.slicePlaces lo hi 1)) _ _ s
 rw [tH lo hi n]
 show wpAny _ _ (pure (((sIx n 0 lo:Nat):Int),(1:Int),Builtin.Slice.slicePlaces ((sIx n 0 lo:Nat):Int) ((sIx n n hi:Nat):Int) 1)) _ _ s
 rw [uD]
 exact Ah h
theorem aJL (xs:Array Value) (i k:Nat):((List.range k).filterMap fun (m:Nat) => xs[((i:Int) + (m:Int) * 1).toNat]?).toArray = ((xs.toList.drop i).take k).toArray:=by
 have e:(fun (m:Nat) => xs[((i:Int) + (m:Int) * 1).toNat]?) = fun m => xs[i + m]? := by
   funext m
   have:((i:Int) + (m:Int) * 1).toNat = i + m:=by omega
   rw [this]
 rw [e]
 have:=pick_run xs i k
 rw [List.filterMap_map] at this
 have e2:((fun x => xs[x]?) ∘ fun x => i + x) = fun m => xs[i + m]? := rfl
 rw [e2] at this
 rw [this]
theorem getItem_tuple_cut {t sl:Addr} {items:Array Value} {vl vu:Value} {lo hi:Option Int} {Q:Value → Shared → Prop} (ht:IsTup s.heap t items) (hs:s.heap.IsSliceOf sl vl vu .none) (pl:IsPart vl lo) (pu:IsPart vu hi)
   (hw:¬ (sIx items.size 0 lo = 0 ∧ sIx items.size items.size hi = items.size))
   (h:Q (.ref s.heap.objs.size) { s with heap:=s.heap.push { cls:=.type "tuple",data:=.seq ((items.toList.drop (sIx items.size 0 lo)).take (sIx items.size items.size hi - sIx items.size 0 lo)).toArray } })
   (hsz:items.size ≤ sizeLine):wpAny (model prog w) A (getItem (.ref t) (.ref sl)) Q E s:=by
 have htake:sizeOk (.seq ((items.toList.drop (sIx items.size 0 lo)).take (sIx items.size items.size hi - sIx items.size 0 lo)).toArray):=by
   show ((items.toList.drop (sIx items.size 0 lo)).take (sIx items.size items.size hi - sIx items.size 0 lo)).toArray.size ≤ sizeLine
   rw [Be,Bl,Cf,Bt]
   omega
 have hj:sIx items.size items.size hi ≤ items.size:=aZB _ _ (Ai _) hi
 obtain ⟨os,hos,hcs,hds⟩:=id hs
 have hTs:s.TypeIs (.ref sl) "slice" := ⟨os,hos,hcs⟩
 unfold getItem
 try with_reducible refine Bu ?_
 first | refine Ac (Ah ?_) | skip
 refine Ac (wpAny_sequenceKey ht.typeIs (by decide) ?_)
 refine Ac (wpAny_callSpecial?_slot (name:=Str.ofString "__getitem__") ht.typeIs PyProof.Rows.slot_tuple_getitem
   (Cu PyProof.Rows.slot_tuple_getitem ht.typeIs entry_tuple_getitem ?_ (args_tuple_getitem _ _)))
 show wpAny _ _ (Builtin.Tuple.tupleItemsOf (.ref t) >>= _) _ _ s
 refine Ac (tupleItemsOf_ ht ?_)
 refine Ac (wpAny_typeOf hTs ?_)
 rw [if_pos (by decide)]
 refine Ac (kB hs pl pu ?_)
 have hno:¬ ((((sIx items.size 0 lo:Nat):Int) == 0 && (1:Int) == 1 && (sIx items.size items.size hi - sIx items.size 0 lo) == items.size) = true):=by
   intro q
   rw [Cg,Cg] at q
   have q1:((sIx items.size 0 lo:Nat):Int) = 0:=Gw q.1.1
   have q2:sIx items.size items.size hi - sIx items.size 0 lo = items.size:=Gw q.2
   exact hw ⟨by omega,by omega⟩
 show wpAny _ _ (if (((sIx items.size 0 lo:Nat):Int) == 0 && (1:Int) == 1 && (sIx items.size items.size hi - sIx items.size 0 lo) == items.size) = true then _ else _) _ _ s
 rw [if_neg hno,aJL]
 first
   | exact Ac (m:=Builtin.Tuple.tupleExact _) (Da (Ah ⟨_,rfl,Ah h⟩) htake)
   | exact Ac (m:=Builtin.Tuple.tupleExact _) (Da (Ac (Ah (Ah ⟨_,rfl,Ah h⟩))) htake)
   | exact Ac (Ac (m:=Builtin.Tuple.tupleExact _) (Da (Ah (Ah ⟨_,rfl,Ah h⟩)) htake))
   | exact Ac (Ac (m:=Builtin.Tuple.tupleExact _) (Da (Ah ⟨_,rfl,Ah h⟩) htake))
end
end HT
namespace L2
open PySem PySem.Spec PyProof.Rows
abbrev TO:=St → Hp → (Option Int → Hp → Prop) → Prop
def PO (X:Cx) (e:Option Expr) (t:TO):Prop :=
 ∀ (pins:List (Addr × Obj)) (s:Shared) (σ:St) (H:Hp) (Q:Option Int → Hp → Prop),Inv X pins σ H s → t σ H Q →
   wpAny (model X.prog X.w) X.A (evalPart e X.env) (fun u s' => ∃ o H',Inv X pins σ H' s' ∧ IsPart u o ∧ Q o H') X.xe s
def wO:TO:=fun _ H Q => Q none H
theorem uY {ns:List Int}:∀ {us:List Value},Vals (ns.map V.int) us → IntsAre us ns:=by
 induction ns with
 | nil => intro us r; rw [List.map_nil] at r; cases r; exact .nil
 | cons n ns ih =>
   intro us r
   rw [Aw] at r
   cases r with
   | cons r1 r2 =>
     obtain ⟨t,e⟩:=r1
     subst e
     exact .cons n t (ih r2)
section
variable {X:Cx} {e:Expr} {te:TE} {lo hi:Option Expr} {tl th:TO} {pos p2:Pos}
theorem wC:PO X none wO:=by
 intro pins s σ H Q I h
 rw [evalPart_none]
 exact Ah ⟨none,H,I,.none,h⟩
def SlR (X:Cx) (r:V → Option Int → Option Int → Hp → VK → Prop):Prop :=
 ∀ (pins:List (Addr × Obj)) (s:Shared) (σ:St) (H:Hp) (x:V) (v vl vu:Value) (lo hi:Option Int) (sl:Addr) (Q:VK),Inv X pins σ H s → RelV x v → s.heap.IsSliceOf sl vl vu .none → IsPart vl lo → IsPart vu hi → r x lo hi H Q →
   ∃ T id,typeLookup (.type T) "__getitem__" = pure (some (.builtin id)) ∧ s.TypeIs v T ∧ wpAny (model X.prog X.w) X.A (getItem v (.ref sl)) (EP X pins σ Q) X.xe s
theorem SlR.or {r r':V → Option Int → Option Int → Hp → VK → Prop} (h:SlR X r) (h':SlR X r'):SlR X (fun x lo hi H Q => r x lo hi H Q ∨ r' x lo hi H Q):=by
 intro pins s σ H x v vl vu lo hi sl Q I rx hs pl pu q
 rcases q with q | q
 · exact h pins s σ H x v vl vu lo hi sl Q I rx hs pl pu q
 · exact h' pins s σ H x v vl vu lo hi sl Q I rx hs pl pu q
def tSl (r:V → Option Int → Option Int → Hp → VK → Prop) (te:TE) (tl th:TO):TE:=fun σ H Q => te σ H fun x H1 => tl σ H1 fun l H2 => th σ H2 fun u H3 => r x l u H3 Q
theorem jS {r:V → Option Int → Option Int → Hp → VK → Prop} (hr:SlR X r) (he:PE X e te) (hl:PO X lo tl) (hu:PO X hi th):PE X (.Subscript e (.Slice lo hi none p2) pos) (tSl r te tl th):=by
 intro pins s σ H Q I h
 refine Subscript_ (thn (he pins s σ H _ I h) fun v s1 ⟨x,H1,I1,r1,q1⟩ => ?_)
 refine wpAny_Slice (thn (hl pins s1 σ H1 _ I1 q1) fun vl s2 ⟨l,H2,I2,pl,q2⟩ => thn (hu pins s2 σ H2 _ I2 q2) fun vu s3 ⟨u,H3,I3,pu,q3⟩ => ?_)
 rw [evalPart_none]
 refine Ah ?_
 have I4:Inv X pins σ H3 { s3 with heap:=s3.heap.push { cls:=.type "slice",data:=.fields #[vl,vu,.none] } }:=I3.kept (t':=s3.toks) fun b ob q => Ae _ q
 obtain ⟨T,id,hT,ht,hg⟩:=hr pins { s3 with heap:=s3.heap.push { cls:=.type "slice",data:=.fields #[vl,vu,.none] } } σ H3 x v vl vu l u s3.heap.objs.size Q I4 r1 (Heap.IsSliceOf.new ..) pl pu q3
 show wpAny (model X.prog X.w) X.A (subscriptTail e (.Slice lo hi none p2) v (.ref s3.heap.objs.size)) (EP X pins σ Q) X.xe { s3 with heap:=s3.heap.push { cls:=.type "slice",data:=.fields #[vl,vu,.none] } }
 exact tail_any (ops:=[.ref s3.heap.objs.size,v]) ht hT hg (by with_unfolding_all rfl)
def gR (xs:List V) (lo hi:Option Int):List V:=(xs.drop (HT.sIx xs.length 0 lo)).take (HT.sIx xs.length xs.length hi - HT.sIx xs.length 0 lo)
theorem kX (xs:List V) (lo hi:Option Int):(gR xs lo hi).length ≤ xs.length:=by
 unfold gR
 rw [Bl,Cf]
 omega
def dQY (K:PySem.W.Frag):V → Option Int → Option Int → Hp → VK → Prop:=fun x lo hi H Q => ∃ a xs,x = .ref a ∧ SqT K H a xs ∧
 ¬ (HT.sIx xs.length 0 lo = 0 ∧ HT.sIx xs.length xs.length hi = xs.length) ∧ ∀ p,H p = none → Q (.ref p) (upd H p (.tup (gR xs lo hi)))
theorem cXX:SlR X (dQY X.K):=by
 intro pins s σ H x v vl vu lo hi sl Q I rx hs pl pu h
 obtain ⟨a,xs,rfl,hx,hw,q⟩:=h
 cases rx
 obtain ⟨its,r,ht,hz⟩:=I.tuple hx
 have hlen:its.toArray.size = xs.length:=by rw [Be]; exact r.length.symm
 refine ⟨"tuple",_,PyProof.Rows.slot_tuple_getitem.lookup,ht.typeIs,?_⟩
 refine HT.getItem_tuple_cut ht hs pl pu (by rw [hlen]; exact hw) ?_ (by rw [hlen]; exact hz)
 rw [hlen]
 refine ⟨.ref s.heap.objs.size,_,I.laid (t':=s.toks) (o:=.tup (gR xs lo hi)) (fun b ob q => Ae _ q) (Ai _) ?_,rfl,q _ (I.hok.fresh (Ai _))⟩
 exact ⟨Ax (kX xs lo hi) hz,_,(r.drop (HT.sIx xs.length 0 lo)).take (HT.sIx xs.length xs.length hi - HT.sIx xs.length 0 lo),IsTup.new _ _⟩
end
end L2
namespace L2
open PySem PySem.Spec PyProof.Rows
def ixN (n:Nat) (i:Int):Option Nat:=if 0 ≤ i then (if i < n then some i.toNat else none) else if -(n:Int) ≤ i then some (i + n).toNat else none
def atI {α:Type} (xs:List α) (i:Int):Option α:=(ixN xs.length i).bind fun j => xs[j]?
theorem bXK {n:Nat} {i:Int} {j:Nat} (h:ixN n i = some j):seqIndex? i n = some j ∧ j < n ∧ -(n:Int) ≤ i ∧ i < n:=by
 unfold ixN at h
 by_cases h0:0 ≤ i
 · rw [if_pos h0] at h
   by_cases h1:i < n
   · rw [if_pos h1] at h
     have e:i.toNat = j:=Bi h
     exact ⟨by rw [seqIndex_of h0 h1,e],by omega,by omega,h1⟩
   · rw [if_neg h1] at h; cases h
 · rw [if_neg h0] at h
   by_cases h1:-(n:Int) ≤ i
   · rw [if_pos h1] at h
     have e:(i + n).toNat = j:=Bi h
     exact ⟨by rw [seqIndex_neg (by omega) h1,e],by omega,h1,by omega⟩
   · rw [if_neg h1] at h; cases h
theorem qF {α:Type} {xs:List α} {i:Int} {v:α} (h:atI xs i = some v):∃ j,seqIndex? i xs.length = some j ∧ xs[j]? = some v ∧ j < xs.length ∧ -(xs.length:Int) ≤ i ∧ i < xs.length:=by
 unfold atI at h
 cases e:ixN xs.length i with
 | none => rw [e] at h; cases h
 | some j =>
   rw [e] at h
   obtain ⟨h1,h2,h3,h4⟩:=bXK e
   exact ⟨j,h1,h,h2,h3,h4⟩
theorem fQ {α:Type} {xs:List α} {j:Nat} {v:α} (h:xs[j]? = some v):atI xs (j:Int) = some v:=by
 have hj:j < xs.length:=(Ad.mp h).1
 have e:ixN xs.length (j:Int) = some j:=by
   unfold ixN
   rw [if_pos (by omega),if_pos (by omega)]; simp
 unfold atI; rw [e]; exact h
def bXM (b:Expr):Prop:=∀ o i,subscripted b false o i = operate [o,i] (getItem o i)
def IxR (X:Cx) (r:R2):Prop :=
 ∀ (value slice:Expr) (pins:List (Addr × Obj)) (s:Shared) (σ:St) (H:Hp) (x y:V) (v u:Value) (Q:VK),Inv X pins σ H s → RelV x v → RelV y u → r x y H Q →
   subscripted slice false v u = operate [v,u] (getItem v u) → wpAny (model X.prog X.w) X.A (subscriptTail value slice v u) (EP X pins σ Q) X.xe s
def MtR (X:Cx) (id:String) (r:V → List V → Hp → VK → Prop):Prop :=
 ∀ (pins:List (Addr × Obj)) (s:Shared) (σ:St) (H:Hp) (x:V) (xs:List V) (v:Value) (us:List Value) (Q:VK),Inv X pins σ H s → RelV x v → Vals xs us → r x xs H Q →
   wpAny (model X.prog X.w) X.A (call (.builtin id) (v :: us)) (EP X pins σ Q) X.xe s
section
variable {X:Cx} {a b:Expr} {ta tb:TE} {pos:Pos}
theorem IxR.or {r r':R2} (h:IxR X r) (h':IxR X r'):IxR X (fun x y H Q => r x y H Q ∨ r' x y H Q):=by
 intro value slice pins s σ H x y v u Q I rx ry q hs
 rcases q with q | q
 · exact h value slice pins s σ H x y v u Q I rx ry q hs
 · exact h' value slice pins s σ H x y v u Q I rx ry q hs
theorem MtR.or {id:String} {r r':V → List V → Hp → VK → Prop} (h:MtR X id r) (h':MtR X id r'):MtR X id (fun x xs H Q => r x xs H Q ∨ r' x xs H Q):=by
 intro pins s σ H x xs v us Q I rx rs q
 rcases q with q | q
 · exact h pins s σ H x xs v us Q I rx rs q
 · exact h' pins s σ H x xs v us Q I rx rs q
theorem bC {r:R2} (hr:IxR X r) (ha:PE X a ta) (hb:PE X b tb) (hs:bXM b):PE X (.Subscript a b pos) (tOp r ta tb):=by
 intro pins s σ H Q I h
 exact Subscript_ (cX1 ha hb I h fun v u s2 x y H2 I2 rx ry q => hr a b pins s2 σ H2 x y v u Q I2 rx ry q (hs _ _))
def cQ0 (K:PySem.W.Frag):R2:=fun x y H Q => ∃ p xs i v,x = .ref p ∧ y = .int i ∧ SqL K H p xs ∧ atI xs i = some v ∧ Q v H
def cX5 (K:PySem.W.Frag):R2:=fun x y H Q => ∃ p xs i v,x = .ref p ∧ y = .int i ∧ SqT K H p xs ∧ atI xs i = some v ∧ Q v H
def cZT:R2:=fun x y H Q => ∃ z i c,x = .str z ∧ y = .int i ∧ z.length ≤ sizeLine ∧ atI z.cps.toList i = some c ∧ Q (.str ⟨#[c]⟩) H
theorem ix_list:IxR X (cQ0 X.K):=by
 intro value slice pins s σ H x y v u Q I rx ry h hs
 obtain ⟨p,xs,i,z,rfl,rfl,hq,he,q⟩:=h
 cases rx
 obtain ⟨t,rfl⟩:=ry
 obtain ⟨its,r,pl,hz⟩:=I.list hq
 obtain ⟨j,h1,h2,h3,h4,h5⟩:=qF he
 obtain ⟨w,ew,rw'⟩:=r.get h2
 have hl:=r.length
 have hn:=kP
 have fin:EP X pins σ Q w s:=⟨z,H,I,rw',q⟩
 by_cases h0:0 ≤ i
 · have hj:i.toNat = j:=by
     rw [seqIndex_of h0 h5] at h1
     exact Bi h1
   exact item_listR pl.isList h0 (by omega) (by rw [hj]; simpa using ew) fin hs
 · have hj:(i + (its.toArray.size:Int)).toNat = j:=by
     rw [seqIndex_neg (by omega) h4] at h1
     rw [Be,← hl]
     exact Bi h1
   exact subscriptTail_builtinR (x:=w) pl.isList.typeIs slot_list_getitem.lookup
     (wpAny_getItem_list_neg (Q:=fun r s' => r = w ∧ EP X pins σ Q r s') pl.isList (by omega) (by rw [List.size_toArray] <;> omega) (by omega) (by rw [hj]; simpa using ew) ⟨rfl,fin⟩) hs
theorem ix_tup:IxR X (cX5 X.K):=by
 intro value slice pins s σ H x y v u Q I rx ry h hs
 obtain ⟨p,xs,i,z,rfl,rfl,hq,he,q⟩:=h
 cases rx
 obtain ⟨t,rfl⟩:=ry
 obtain ⟨its,r,pl,hz⟩:=I.tuple hq
 obtain ⟨j,h1,h2,h3,h4,h5⟩:=qF he
 obtain ⟨w,ew,rw'⟩:=r.get h2
 have hl:=r.length
 have hn:=kP
 have fin:EP X pins σ Q w s:=⟨z,H,I,rw',q⟩
 exact subscriptTail_builtinR (x:=w) pl.typeIs slot_tuple_getitem.lookup
   (getItem_tuple (j:=j) (Q:=fun r s' => r = w ∧ EP X pins σ Q r s') pl (by omega) (by omega) (by rw [List.size_toArray,← hl]; exact h1) (by simpa using ew) ⟨rfl,fin⟩) hs
theorem bJD:IxR X cZT:=by
 intro value slice pins s σ H x y v u Q I rx ry h hs
 obtain ⟨z,i,c,rfl,rfl,hz,he,q⟩:=h
 obtain ⟨t,rfl⟩:=rx
 obtain ⟨t',rfl⟩:=ry
 obtain ⟨j,h1,h2,h3,h4,h5⟩:=qF he
 have hl:z.cps.toList.length = z.length:=by simp [Str.length]
 rw [hl] at h1 h4 h5
 have hn:=kP
 exact tail_any (typeIs_str s z t) slot_str_getitem.lookup (getItem_str (c:=c) (by
   have e1:decide (i < -(2 ^ 63:Int)) = false:=Av (by omega)
   have e2:decide (i ≥ 2 ^ 63) = false:=Av (by omega)
   rw [e1,e2,Bool.or_false]) (by rw [h1]; simpa using h2) ⟨.str ⟨#[c]⟩,H,I.tok _,⟨_,rfl⟩,q⟩) hs
def rIx (K:PySem.W.Frag):R2:=fun x y H Q => cQ0 K x y H Q ∨ cX5 K x y H Q ∨ cZT x y H Q
theorem ix_seq:IxR X (rIx X.K):=ix_list.or (ix_tup.or bJD)
theorem Inv.lst {pins:List (Addr × Obj)} {σ:St} {H:Hp} {s:Shared} {p:Addr} {xs:List V} (I:Inv X pins σ H s) (h:H p = some (.lst xs)) :
   ∃ (its:List Value) (n:Nat),Vals xs its ∧ s.heap.get? p = some { cls:=.type "list",data:=.seq its.toArray n } ∧ xs.length ≤ sizeLine:=by
 obtain ⟨z,its,n,r,e⟩:=I.hok p _ h
 exact ⟨its,n,r,e,z⟩
theorem qD (lo hi:Option Int) (n:Nat):(sliceBounds lo hi none n).1 = ((HT.sIx n 0 lo:Nat):Int) ∧ (sliceBounds lo hi none n).2.1 = ((HT.sIx n n hi:Nat):Int) ∧ (sliceBounds lo hi none n).2.2 = 1:=by
 refine ⟨?_,?_,rfl⟩
 · cases lo with
   | none => simp [sliceBounds,HT.sIx]
   | some i =>
     simp only [sliceBounds,HT.sIx,Option.getD_none,show (1:Int) > 0 by decide,if_true]
     by_cases h:i < 0
     · simp only [h,if_true] <;> omega
     · simp only [h,if_false] <;> omega
 · cases hi with
   | none => simp [sliceBounds,HT.sIx]
   | some i =>
     simp only [sliceBounds,HT.sIx,Option.getD_none,show (1:Int) > 0 by decide,if_true]
     by_cases h:i < 0
     · simp only [h,if_true] <;> omega
     · simp only [h,if_false] <;> omega
theorem nX (its:List Value) (lo hi:Option Int):slicePick its.toArray lo hi none = ((its.drop (HT.sIx its.length 0 lo)).take (HT.sIx its.length its.length hi - HT.sIx its.length 0 lo)).toArray:=by
 obtain ⟨h1,h2,h3⟩:=qD lo hi its.toArray.size
 unfold slicePick
 rw [h1,h2,h3]
 simp only [sliceRange_one,pick_run,List.size_toArray] <;> rfl
def cZN (K:PySem.W.Frag):V → Option Int → Option Int → Hp → VK → Prop:=fun x lo hi H Q => ∃ a xs,x = .ref a ∧ SqL K H a xs ∧ ∀ p,H p = none → Q (.ref p) (upd H p (.lst (gR xs lo hi)))
theorem sl_list:SlR X (cZN X.K):=by
 intro pins s σ H x v vl vu lo hi sl Q I rx hs pl pu h
 obtain ⟨a,xs,rfl,hx,q⟩:=h
 cases rx
 obtain ⟨its,r,ht,hz⟩:=I.list hx
 have hlen:=r.length
 refine ⟨"list",_,slot_list_getitem.lookup,ht.isList.typeIs,?_⟩
 refine wpAny_getItem_list_slice ht.isList hs pl pu .none (by simp) ?_ (by rw [List.size_toArray] <;> omega)
 rw [nX,← hlen]
 refine ⟨.ref s.heap.objs.size,_,I.laid (t':=s.toks) (o:=.lst (gR xs lo hi)) (fun b ob q => Ae _ q) (Ai _) ?_,rfl,q _ (I.hok.fresh (Ai _))⟩
 exact ⟨Ax (kX xs lo hi) hz,_,0,(r.drop (HT.sIx xs.length 0 lo)).take (HT.sIx xs.length xs.length hi - HT.sIx xs.length 0 lo),Ar _ rfl⟩
def bF:V → Bool
 | .non => true
 | .bl _ => true
 | .int _ => true
 | .str _ => true
 | _ => false
def eqV:V → V → Bool
 | .non,.non => true
 | .bl a,.bl b => a == b
 | .bl a,.int b => (if a then 1 else 0) == b
 | .int a,.bl b => a == (if b then 1 else 0)
 | .int a,.int b => a == b
 | .str a,.str b => a == b
 | _,_ => false
theorem iU {A:Around} {s:Shared} {y x:V} {u v:Value} (ry:RelV y u) (rx:RelV x v) (fy:bF y = true) (fx:bF x = true):SeqAt.EqAt A s u v (eqV y x):=by
 cases y with
 | non =>
   cases ry
   cases x with
   | non => cases rx; exact SeqAt.EqAt.same _
   | bl b => cases rx; exact SeqAt.EqAt.none_bool b
   | int b => obtain ⟨t,rfl⟩:=rx; exact SeqAt.EqAt.none_int b t
   | str b => obtain ⟨t,rfl⟩:=rx; exact SeqAt.EqAt.none_str b t
   | _ => exact absurd (show false = true from fx) Ao
 | bl a =>
   cases ry
   cases x with
   | non => cases rx; exact SeqAt.EqAt.bool_none a
   | bl b => cases rx; exact SeqAt.EqAt.bool_bool a b
   | int b => obtain ⟨t,rfl⟩:=rx; exact SeqAt.EqAt.bool_int a b t
   | str b => obtain ⟨t,rfl⟩:=rx; exact SeqAt.EqAt.bool_str a b t
   | _ => exact absurd (show false = true from fx) Ao
 | int a =>
   obtain ⟨t',rfl⟩:=ry
   cases x with
   | non => cases rx; exact SeqAt.EqAt.int_none a t'
   | bl b => cases rx; exact SeqAt.EqAt.int_bool a t' b
   | int b => obtain ⟨t,rfl⟩:=rx; exact Fs a t' b t
   | str b => obtain ⟨t,rfl⟩:=rx; exact SeqAt.EqAt.int_str a t' b t
   | _ => exact absurd (show false = true from fx) Ao
 | str a =>
   obtain ⟨t',rfl⟩:=ry
   cases x with
   | non => cases rx; exact SeqAt.EqAt.str_none a t'
   | bl b => cases rx; exact SeqAt.EqAt.str_bool a t' b
   | int b => obtain ⟨t,rfl⟩:=rx; exact SeqAt.EqAt.str_int a t' b t
   | str b => obtain ⟨t,rfl⟩:=rx; exact SeqAt.EqAt.str_str a t' b t
   | _ => exact absurd (show false = true from fx) Ao
 | _ => exact absurd (show false = true from fy) Ao
def eqU (x:V) (u:Value):Bool:=match u with
 | .none => eqV .non x
 | .bool b => eqV (.bl b) x
 | .int i _ => eqV (.int i) x
 | .str z _ => eqV (.str z) x
 | _ => false
theorem aXM {x y:V} {u:Value} (r:RelV y u) (f:bF y = true):eqU x u = eqV y x:=by
 cases y with
 | non => cases r; rfl
 | bl b => cases r; rfl
 | int i => obtain ⟨t,rfl⟩:=r; rfl
 | str z => obtain ⟨t,rfl⟩:=r; rfl
 | _ => exact absurd (show false = true from f) Ao
theorem jD {x:V}:∀ {xs:List V} {us:List Value},Vals xs us → xs.all bF = true → us.any (eqU x) = xs.any fun y => eqV y x
 | _,_,.nil,_ => rfl
 | y :: xs,u :: us,.cons r t,f => by
   rw [List.all_cons,Cg] at f
   rw [Gq,Gq,aXM r f.1,jD t f.2]
theorem gU {A:Around} {s:Shared} {x:V} {v:Value} (rx:RelV x v) (fx:bF x = true):∀ {xs:List V} {us:List Value},Vals xs us → xs.all bF = true → ∀ u ∈ us,SeqAt.EqAt A s u v (eqU x u)
 | _,_,.nil,_ => fun u hu => by cases hu
 | y :: xs,u :: us,.cons r t,f => fun u' hu => by
   rw [List.all_cons,Cg] at f
   rcases Bg.mp hu with rfl | hu
   · rw [aXM r f.1]; exact iU r rx f.1 fx
   · exact gU rx fx t f.2 u' hu
def inV (x:V) (xs:List V):Bool:=xs.any fun y => eqV y x
def rIn (K:PySem.W.Frag) (neg:Bool):R2:=fun x y H Q => ∃ p xs,y = .ref p ∧ (SqL K H p xs ∨ SqT K H p xs) ∧ bF x = true ∧ xs.all bF = true ∧ Q (.bl (if neg then !inV x xs else inV x xs)) H
theorem op_in_seq:OpR X (compareOp .In) (rIn X.K false):=by
 intro pins s σ H x y v u Q I rx ry h
 obtain ⟨p,xs,rfl,hq,fx,fs,q⟩:=h
 cases ry
 rcases hq with hq | hq
 · obtain ⟨its,r,pl,hz⟩:=I.list hq
   refine SeqAt.in_listAt (eqU x) pl.isList (fun w hw => gU rx fx r fs w (by simpa using hw)) ⟨.bl _,H,I,rfl,?_⟩
   rw [show its.toArray.any (eqU x) = its.any (eqU x) by simp,jD r fs]
   exact q
 · obtain ⟨its,r,pl,hz⟩:=I.tuple hq
   refine SeqAt.in_tupleAt (eqU x) pl (fun w hw => gU rx fx r fs w (by simpa using hw)) ⟨.bl _,H,I,rfl,?_⟩
   rw [show its.toArray.any (eqU x) = its.any (eqU x) by simp,jD r fs]
   exact q
theorem op_notIn_seq:OpR X (compareOp .NotIn) (rIn X.K true):=by
 intro pins s σ H x y v u Q I rx ry h
 obtain ⟨p,xs,rfl,hq,fx,fs,q⟩:=h
 cases ry
 rcases hq with hq | hq
 · obtain ⟨its,r,pl,hz⟩:=I.list hq
   refine SeqAt.notIn_listAt (eqU x) pl.isList (fun w hw => gU rx fx r fs w (by simpa using hw)) ⟨.bl _,H,I,rfl,?_⟩
   rw [show its.toArray.any (eqU x) = its.any (eqU x) by simp,jD r fs]
   exact q
 · obtain ⟨its,r,pl,hz⟩:=I.tuple hq
   refine SeqAt.notIn_tupleAt (eqU x) pl (fun w hw => gU rx fx r fs w (by simpa using hw)) ⟨.bl _,H,I,rfl,?_⟩
   rw [show its.toArray.any (eqU x) = its.any (eqU x) by simp,jD r fs]
   exact q
theorem jU:CallR X (.builtin "len") (fun xs H Q => ∃ p ys,xs = [.ref p] ∧ (SqL X.K H p ys ∨ SqT X.K H p ys) ∧ Q (.int ys.length) H):=by
 intro pins s σ H xs us Q I r h
 obtain ⟨p,ys,rfl,hq,q⟩:=h
 obtain ⟨u,rfl,rx⟩:=eL r
 cases rx
 have hn:=kP
 rcases hq with hq | hq
 · obtain ⟨its,r',pl,hz⟩:=I.list hq
   have hlen:=r'.length
   exact Calls.call_len_list pl.isList (by simp only [List.size_toArray] <;> omega) ⟨.int ys.length,H,I.tok _,⟨s.toks + 1,by rw [List.size_toArray,hlen]⟩,q⟩
 · obtain ⟨its,r',pl,hz⟩:=I.tuple hq
   have hlen:=r'.length
   exact len_tuple pl (by simp only [List.size_toArray] <;> omega) ⟨.int ys.length,H,I.tok _,⟨s.toks + 1,by rw [List.size_toArray,hlen]⟩,q⟩
theorem CallR.or {f:Value} {r r':List V → Hp → VK → Prop} (h:CallR X f r) (h':CallR X f r'):CallR X f (fun xs H Q => r xs H Q ∨ r' xs H Q):=by
 intro pins s σ H xs us Q I rs q
 rcases q with q | q
 · exact h pins s σ H xs us Q I rs q
 · exact h' pins s σ H xs us Q I rs q
theorem call_list_of:CallR X (.type "list") (fun xs H Q => ∃ p ys,xs = [.ref p] ∧ (SqL X.K H p ys ∨ SqT X.K H p ys) ∧ ∀ l,H l = none → Q (.ref l) (upd H l (.lst ys))):=by
 intro pins s σ H xs us Q I r h
 obtain ⟨p,ys,rfl,hq,q⟩:=h
 obtain ⟨u,rfl,rx⟩:=eL r
 cases rx
 have fin:∀ (its:List Value),Vals ys its → ys.length ≤ sizeLine → ∀ (h':Heap) (c':Nat),(∀ b o',s.heap.get? b = some o' → h'.get? b = some o') →
     h'.get? s.heap.objs.size = some { cls:=.type "list",dict:=none,data:=.seq its.toArray c',slots:=#[] } → EP X pins σ Q (.ref s.heap.objs.size) { s with heap:=h' }:=fun its r' hz h' c' kp e =>
   ⟨.ref s.heap.objs.size,_,I.laid (t':=s.toks) kp (Ai _) (show ObjOk X.prog X.w _ h' _ (.lst ys) from ⟨hz,its,c',r',e⟩),rfl,q _ (I.hok.fresh (Ai _))⟩
 rcases hq with hq | hq
 · obtain ⟨its,r',pl,hz⟩:=I.list hq
   have hlen:=r'.length
   obtain ⟨o,ho,hc,n,hd⟩:=pl.isList
   exact call_list_seq p (.inl rfl) ho hc hd (fun h' c' kp e => fin its r' hz h' c' kp e) (by simp only [List.size_toArray] <;> omega)
 · obtain ⟨its,r',pl,hz⟩:=I.tuple hq
   have hlen:=r'.length
   obtain ⟨o,ho,hc,n,hd⟩:=pl
   exact call_list_seq p (.inr rfl) ho hc hd (fun h' c' kp e => fin its r' hz h' c' kp e) (by simp only [List.size_toArray] <;> omega)
def tyV (K:PySem.W.Frag) (T:String) (x:V) (H:Hp):Prop:=match x with
 | .str _ => T = "str"
 | .int _ => T = "int"
 | .ref p => (T = "list" ∧ ∃ xs,SqL K H p xs) ∨ (T = "tuple" ∧ ∃ o,K.lookup p = some o ∧ o.cls = .type "tuple" ∧ o.dict = none) ∨
     (T = "dict" ∧ ((∃ kvs,H p = some (.dK kvs)) ∨ ∃ kvs,H p = some (.dT kvs))) ∨ (T = "set" ∧ ∃ S n,H p = some (.set S n))
 | _ => False
theorem aZ4 {pins:List (Addr × Obj)} {σ:St} {H:Hp} {s:Shared} {T:String} {x:V} {v:Value} (I:Inv X pins σ H s) (r:RelV x v) (ty:tyV X.K T x H) :
   s.TypeIs v T ∧ ∀ a,v = .ref a → ∃ ob,s.heap.get? a = some ob ∧ ob.dict = none:=by
 cases x with
 | str z =>
   obtain ⟨t,rfl⟩:=r
   cases (show T = "str" from ty)
   exact ⟨typeIs_str s z t,fun _ e => nomatch e⟩
 | int i =>
   obtain ⟨t,rfl⟩:=r
   cases (show T = "int" from ty)
   exact ⟨typeIs_int s i t,fun _ e => nomatch e⟩
 | ref p =>
   cases r
   rcases ty with ⟨rfl,xs,hq⟩ | ⟨rfl,o,hk,hc,hd⟩ | ⟨rfl,hk⟩ | ⟨rfl,S,n,hk⟩
   · obtain ⟨its,_,pl,_⟩:=I.list hq
     refine ⟨pl.isList.typeIs,fun a e => ?_⟩
     cases e
     obtain ⟨o,n,e,c,hd,_⟩:=pl
     exact ⟨o,e,hd⟩
   · refine ⟨⟨o,I.kIn p o hk,hc⟩,fun a e => ?_⟩
     cases e
     exact ⟨o,I.kIn _ o hk,hd⟩
   · have z:∃ o,s.heap.get? p = some o ∧ o.ExactDict:=by
       rcases hk with ⟨kvs,hk⟩ | ⟨kvs,hk⟩
       · obtain ⟨_,_,_,_,o,_,_,e,ex,_⟩:=I.hok p _ hk
         exact ⟨o,e,ex⟩
       · obtain ⟨_,_,_,_,o,_,_,e,ex,_⟩:=I.hok p _ hk
         exact ⟨o,e,ex⟩
     obtain ⟨o,e,ex⟩:=z
     refine ⟨⟨o,e,ex.1⟩,fun a e2 => ?_⟩
     cases e2
     exact ⟨o,e,ex.2.1⟩
   · obtain ⟨o,_,_,_,e,ex,_⟩:=I.hok p _ hk
     refine ⟨⟨o,e,ex.1⟩,fun a e2 => ?_⟩
     cases e2
     exact ⟨o,e,ex.2.1⟩
 | _ => exact False.elim ty
variable {o e:Expr} {es:List Expr} {to:TE} {t:TA} {name:Str} {apos cpos:Pos} {T id:String} {r:V → List V → Hp → VK → Prop}
end
end L2
namespace L2
open PySem PySem.Spec PyProof.Rows
def MtM (X:Cx) (id:String) (r:V → List V → Hp → VK → Prop):Prop :=
 ∀ (pins:List (Addr × Obj)) (s:Shared) (σ:St) (H:Hp) (x:V) (xs:List V) (v:Value) (us:List Value) (Q:VK),Inv X pins σ H s → RelV x v → Vals xs us → r x xs H Q →
   wpAny (model X.prog X.w) X.A (call (.builtin id) (v :: us)) (EP X pins σ Q) X.xe s
theorem Vals.one:∀ {x:V} {us:List Value},Vals [x] us → ∃ u,us = [u] ∧ RelV x u
 | _,_,.cons r .nil => ⟨_,rfl,r⟩
theorem Vals.two:∀ {x y:V} {us:List Value},Vals [x,y] us → ∃ u v,us = [u,v] ∧ RelV x u ∧ RelV y v
 | _,_,_,.cons r (.cons q .nil) => ⟨_,_,rfl,r,q⟩
theorem Vals.zero:∀ {us:List Value},Vals [] us → us = []
 | _,.nil => rfl
theorem Vals.dropLast {xs:List V} {us:List Value} (h:Vals xs us):Vals xs.dropLast us.dropLast:=by
 induction h with
 | nil => exact .nil
 | cons r t ih =>
   cases t with
   | nil => exact .nil
   | cons q t' => exact .cons r ih
theorem Vals.eraseIdx:∀ {xs:List V} {us:List Value} (i:Nat),Vals xs us → Vals (xs.eraseIdx i) (us.eraseIdx i)
 | _,_,_,.nil => .nil
 | _,_,0,.cons _ t => t
 | _,_,i + 1,.cons r t => .cons r (Vals.eraseIdx i t)
theorem Vals.reverse {xs:List V} {us:List Value} (h:Vals xs us):Vals xs.reverse us.reverse:=by
 induction h with
 | nil => exact .nil
 | cons r t ih => rw [List.reverse_cons,List.reverse_cons]; exact Vals.append ih (.cons r .nil)
theorem uS {α:Type} (l:List α):l.eraseIdx (l.length - 1) = l.dropLast:=by
 induction l with
 | nil => rfl
 | cons a r ih =>
   cases r with
   | nil => rfl
   | cons b r =>
     have e:(a :: b :: r).length - 1 = ((b :: r).length - 1) + 1:=by
       have h1:(a :: b :: r).length = r.length + 2:=rfl
       have h2:(b :: r).length = r.length + 1:=rfl
       omega
     rw [e,List.eraseIdx_cons_succ,ih]
     all_goals rfl
section
variable {X:Cx} {pins:List (Addr × Obj)} {σ:St} {H:Hp} {s:Shared} {l b:Addr} {xs ys zs:List V}
theorem Inv.lset {its its':List Value} {n:Nat} {f:Array Value → Array Value} {t':Nat} (I:Inv X pins σ H s) (hH:H l = some (.lst xs))
   (e:s.heap.get? l = some { cls:=.type "list",data:=.seq its.toArray n }) (hf:f its.toArray = its'.toArray) (hv:Vals ys its') (hz:ys.length ≤ sizeLine) :
   Inv X pins σ (upd H l (.lst ys)) { s with heap:=s.heap.update l (Obj.mapSeq f),toks:=t' }:=by
 have q:=PySem.IsL.update e f
 rw [hf] at q
 refine I.write (x:=l) (e:=l) (by rw [hH]; exact trivial) (.inl rfl) (fun b' u hb hu => (Br s.heap (Obj.mapSeq f) (Ne.symm hb)).trans hu) ⟨_,q⟩ ?_
 exact ⟨hz,its',_,hv,q⟩
theorem Inv.lnew {its:List Value} {t':Nat} (I:Inv X pins σ H s) (hv:Vals ys its) (hz:ys.length ≤ sizeLine) :
   Inv X pins σ (upd H s.heap.objs.size (.lst ys)) { s with heap:=s.heap.push { cls:=.type "list",data:=.seq its.toArray },toks:=t' } :=
 I.laid (fun _ _ q => Ae _ q) (Ai _) ⟨hz,its,0,hv,Ar _ rfl⟩
theorem Inv.fresh (I:Inv X pins σ H s):H s.heap.objs.size = none:=I.hok.fresh (Ai _)
theorem Inv.lstM (I:Inv X pins σ H s) (hH:H l = some (.lst xs)):xs.length ≤ sizeLine ∧ ∃ (its:List Value) (n:Nat),Vals xs its ∧ xs.length = its.length ∧ s.heap.get? l = some { cls:=.type "list",data:=.seq its.toArray n }:=by
 obtain ⟨z,its,n,r,e⟩:=I.hok l _ hH
 exact ⟨z,its,n,r,r.length,e⟩
theorem aJA {n:Nat} (h:n ≤ sizeLine):Builtin.List.listTooLong n = false:=by
 unfold Builtin.List.listTooLong
 exact Av (by omega)
end
section
variable {X:Cx}
def xB:V → List V → Hp → VK → Prop:=fun x vs H Q => ∃ l xs y,x = .ref l ∧ vs = [y] ∧ H l = some (.lst xs) ∧ xs.length < sizeLine ∧ Q .non (upd H l (.lst (xs ++ [y])))
theorem oB:MtM X "list.append" xB:=by
 intro pins s σ H x vs v us Q I rx rv h
 obtain ⟨l,xs,y,rfl,rfl,hH,hz,q⟩:=h
 cases rx
 obtain ⟨u,rfl,ru⟩:=rv.one
 obtain ⟨z,its,n,r,hl,e⟩:=I.lstM hH
 refine call_meets F.slot_list_append ⟨_,e,rfl⟩ F.entry_list_append (F.args_list_append_2 _ _) (PySem.list_append l its.toArray n u (by rw [Be]; omega)) ⟨e,?_⟩
 refine ⟨.non,_,I.lset (its':=its ++ [u]) hH e (by simp) (r.append (.cons ru .nil)) ?_,rfl,q⟩
 rw [Am,List.length_singleton]
 omega
def xK:V → List V → Hp → VK → Prop:=fun x vs H Q => ∃ l b xs zs,x = .ref l ∧ vs = [.ref b] ∧ H l = some (.lst xs) ∧ H b = some (.lst zs) ∧ xs.length + zs.length ≤ sizeLine ∧ Q .non (upd H l (.lst (xs ++ zs)))
theorem xT:MtM X "list.extend" xK:=by
 intro pins s σ H x vs v us Q I rx rv h
 obtain ⟨l,b,xs,zs,rfl,rfl,hH,hB,hz,q⟩:=h
 cases rx
 obtain ⟨u,rfl,ru⟩:=rv.one
 cases ru
 obtain ⟨z,its,n,r,hl,e⟩:=I.lstM hH
 obtain ⟨z2,its2,n2,r2,hl2,e2⟩:=I.lstM hB
 have hsz:its.toArray.size + its2.toArray.size ≤ sizeLine:=by rw [Be,Be]; omega
 have hlong:¬ (!its.toArray.isEmpty && Builtin.List.listTooLong (its.toArray.size + its2.toArray.size)) = true:=by
   rw [aJA hsz,Bool.and_false]
   exact Ao
 refine call_meets F.slot_list_extend ⟨_,e,rfl⟩ F.entry_list_extend (F.args_list_extend_2 _ _)
   (AutoSeq1.list_extend_list_list_0 l its.toArray n b its2.toArray n2 hlong (by rw [Be]; omega) (by omega)) ⟨e,e2,?_⟩
 refine ⟨.non,_,I.lset (its':=its ++ its2) hH e (by simp) (r.append r2) ?_,rfl,q⟩
 rw [Am]
 omega
def dQZ:V → List V → Hp → VK → Prop:=fun x vs H Q => ∃ l xs y,x = .ref l ∧ vs = [] ∧ H l = some (.lst xs) ∧ xs[xs.length - 1]? = some y ∧ Q y (upd H l (.lst xs.dropLast))
theorem dQO:MtM X "list.pop" dQZ:=by
 intro pins s σ H x vs v us Q I rx rv h
 obtain ⟨l,xs,y,rfl,rfl,hH,hy,q⟩:=h
 cases rx
 have hus:=rv.zero
 subst hus
 obtain ⟨z,its,n,r,hl,e⟩:=I.lstM hH
 obtain ⟨u,hu,ru⟩:=r.get hy
 have hy':its.toArray[its.toArray.size - 1]? = some u:=by
   show its.toArray[its.length - 1]? = some u
   rw [← Cc,← hl]
   exact hu
 refine call_meets F.slot_list_pop ⟨_,e,rfl⟩ F.entry_list_pop (F.args_list_pop_1 _) (MeetsSeq.list_pop_last l its.toArray n u hy' (by rw [Be]; omega)) ⟨e,?_⟩
 refine ⟨y,_,I.lset (its':=its.dropLast) hH e ?_ r.dropLast ?_,ru,q⟩
 · show its.toArray.eraseIdxIfInBounds (its.toArray.size - 1) = its.dropLast.toArray
   rw [Be,List.eraseIdxIfInBounds_toArray,uS]
 · rw [List.length_dropLast]
   omega
def aJJ:V → List V → Hp → VK → Prop:=fun x vs H Q => ∃ l xs,x = .ref l ∧ vs = [] ∧ H l = some (.lst xs) ∧ Q .non (upd H l (.lst []))
theorem aZ2:MtM X "list.clear" aJJ:=by
 intro pins s σ H x vs v us Q I rx rv h
 obtain ⟨l,xs,rfl,rfl,hH,q⟩:=h
 cases rx
 have hus:=rv.zero
 subst hus
 obtain ⟨z,its,n,r,hl,e⟩:=I.lstM hH
 refine call_meets F.slot_list_clear ⟨_,e,rfl⟩ F.entry_list_clear (F.args_list_clear_1 _) (AutoSeq1.list_clear_list_0 l its.toArray n (by rw [Be]; omega)) ⟨e,?_⟩
 exact ⟨.non,_,I.lset (its':=[]) (ys:=[]) hH e rfl .nil (By _),rfl,q⟩
def dQN:R2:=fun x y H Q => ∃ l b xs zs,x = .ref l ∧ y = .ref b ∧ H l = some (.lst xs) ∧ H b = some (.lst zs) ∧ xs.length + zs.length ≤ sizeLine ∧ ∀ p,H p = none → Q (.ref p) (upd H p (.lst (xs ++ zs)))
theorem bJF:OpR X (binaryOp .Add) dQN:=by
 intro pins s σ H x y v u Q I rx ry h
 obtain ⟨l,b,xs,zs,rfl,rfl,hH,hB,hz,q⟩:=h
 cases rx
 cases ry
 obtain ⟨z,its,n,r,hl,e⟩:=I.lstM hH
 obtain ⟨z2,its2,n2,r2,hl2,e2⟩:=I.lstM hB
 refine PySem.P.add_list e e2 ?_ (by rw [Be,Be]; omega)
 have ea:its.toArray ++ its2.toArray = (its ++ its2).toArray:=by simp
 rw [ea]
 exact ⟨.ref _,_,I.lnew (t':=s.toks) (r.append r2) (by rw [Am]; omega),rfl,q _ I.fresh⟩
end
section
variable {prog:Program} {w:World} {A:Around} {E:Value → Shared → Prop} {s:Shared}
end
section
variable {X:Cx}
end
end L2
namespace Att
open PySem PySem.W PySem.Calls PyProof.Rows
theorem lI {P:Params} {h:Heap}:∀ (ns:List Int) (vs:List Value),WellAll P h vs (ns.map WData.int) → IntsAre vs ns:=by
 intro ns
 induction ns with
 | nil =>
   intro vs w
   rw [List.map_nil] at w
   cases w
   exact .nil
 | cons n ns ih =>
   intro vs w
   rw [Aw] at w
   cases w with
   | cons a b =>
     cases a
     exact .cons _ _ (ih _ b)
theorem zR {l:OpenLaw} {n:Nat} (hn:l.most = some n) {P:Params} {h:Heap} {args:List WData} {vals:List Value}
   (hpre:l.row.toRowW.claim.pre args = true) (hwl:WellAll P h vals args) :
   ∃ a vs ns,vals = [Value.ref a] ∧ args = [WData.list (ns.map WData.int)] ∧ h.get? a = some { cls:=.type "list",data:=.seq vs.toArray } ∧ IntsAre vs ns ∧ ns.length ≤ n:=by
 have hsh:WShape.hasAll [] args [.list .int] = true:=(pre_splitW hpre).1
 have hc:l.pre.holds [] { args:=args } = true:=(pre_splitW hpre).2
 obtain ⟨d,r,rfl,h1,h2⟩:=hasAllW_cons hsh
 obtain rfl:=hasAllW_nil h2
 obtain ⟨xs,rfl,h3⟩:=hasW_list h1
 obtain ⟨ns,rfl⟩:=items_int h3
 have hlen:ns.length ≤ n:=by
   unfold OpenLaw.pre at hc
   have h4:(WTm.not (.lt (.lit (.int (n:Int))) (.len (.arg 0)))).holds [] { args:=[.list (ns.map .int)] } = true:=by
     have h4:=(holds_andW hc).1
     rw [hn] at h4
     exact h4
   have h5:=condW_of h4 (w_not (w_lt w_lit (w_len_list (w_arg rfl))))
   rw [Ab] at h5
   refine Nat.le_of_not_lt fun q => ?_
   have q':(n:Int) < ((ns.length:Nat):Int):=by omega
   first
     | (rw [Ap q'] at h5; exact absurd h5 (by decide))
     | (simp at h5; omega)
 cases hwl with
 | cons w1 w2 =>
   cases w2
   cases w1 with
   | list ho hall => exact ⟨_,_,ns,rfl,rfl,ho,lI ns _ hall,hlen⟩
theorem aQE (l:OpenLaw) (args:List WData):l.row.toRowW.claim.post args (.bool true) args = true :=
 postW_of (r:=l.row.toRowW) (X:=(true == true))
   (show WShape.has [] (.bool true) .bool = true by first | rfl | decide | simp [WShape.has,WShape.arms,WShape.armsAll])
   (show (WTm.eq .res (.lit (.bool true))).value [] { args:=args,res:=some (.bool true),after:=args } = some (.bool (true == true)) from w_eq_bool (w_res rfl) w_lit) rfl
theorem attach_call {l:OpenLaw} {n:Nat} {q:Program} {loose:List Str} {XP:(Str → Option Value) → Heap → Prop} {YP:World → Heap → Prop} {d:DefRec}
   (hn:l.most = some n) (hdf:d.params.defaults = [])
   (call:∀ (w:World) (s₀ s₁:Shared) (mg mb:Str → Option Value) (fa:Addr) (o:Obj) (pm cd doc:Value) (a:Addr) (vs:List Value) (ns:List Int),
     Ground q loose [] XP w s₀ mg mb s₁.heap → YP w s₁.heap →
     s₁.heap.get? fa = some o → o.data = .func (docDef d.name d.params d.body d.scope pm cd doc) → s₁.heap.CodeRec cd d.name → mg d.name = some (.ref fa) →
     s₁.heap.get? a = some { cls:=.type "list",data:=.seq vs.toArray } → IntsAre vs ns → ns.length ≤ n → s₁.gens = #[] →
     codeAny (model l.prog w) callerA (.call (.ref fa) ⟨[.ref a],[]⟩) (fun r s' => r = .ok (.ret (.bool true)) ∧ OldK s₁.heap s'.heap ∧ s'.os = s₁.os ∧ AllBare s'.gens) s₁) :
   WalkO q loose XP YP l.row.toRowW d [] (fun f vs => PySem.call f vs):=by
 intro w s₀ s₁ mg mb G Y fa o pm cd doc dV kV ho hd hcd hD hmg hg args vals as hpre hlay hrd hwl hlo
 obtain rfl:dV = .none:=Dflts.none hD hdf
 obtain rfl:kV = .none:=Dflts.noKw hD
 obtain ⟨a,vs,ns,rfl,rfl,hobj,hints,hlen⟩:=zR hn hpre hwl
 refine enter_call (Fd (call w s₀ s₁ mg mb fa o pm cd doc a vs ns G Y ho (fd_plain hd) hcd hmg hobj hints hlen hg) fun r s' hq => ?_)
 obtain ⟨rfl,h2,h3,h4⟩:=hq
 exact ⟨.inl ⟨.bool true,.bool true,[],rfl,fun _ => rfl,.bool true,aQE l _,fun _ => ⟨List.Pairwise.nil,fun _ hm => (nomatch hm)⟩⟩,h2,h3,h4⟩
section
variable {prog:Program} {w:World} {A:Around} {E:Value → Shared → Prop} {s:Shared} {K:Frag}
end
end Att
namespace L2
open PySem PySem.Spec PyProof.Rows
theorem oV:∀ {vs:List Value} {ns:List Int},IntsAre vs ns → Vals (ns.map V.int) vs
 | _,_,.nil => .nil
 | _,_,.cons n t h => .cons ⟨t,rfl⟩ (oV h)
def cQC (H:Hp):Prop:=∀ b,H b = none ∨ ∃ o xs,H b = some (.frz o (.lst xs))
theorem aJM {P:Program} {w:World} {K:PySem.W.Frag} {mg mb:Str → Option Value} {CX:CXT} {k:Nat} {fa a:Addr} {fd:FuncData} {x:Str} {sp:Sp} {s₁:Shared} {vs:List Value} {ns:List Int}
   (KX:K.In s₁.heap) (hns:s₁.heap.Ns mainGlobals mg) (hb:s₁.heap.Ns builtinsNs mb) (hbb:∀ x:Str,x ≠ "__name__" → mb x = bootBuiltins x) (hlim:s₁.heap.NoLimit) (hg:s₁.gens = #[])
   (ha:s₁.heap.get? a = some { cls:=.type "list",data:=.seq vs.toArray }) (hi:IntsAre vs ns) (hl:ns.length ≤ sizeLine) (hr:Room k callerA)
   (F:∀ base:Heap,K.In base → base.Ns mainGlobals mg → FnOk P w K mg base CX k fa fd [x] sp) (hbind:∀ (s:Shared) (u:Value),BindsTo s fd ⟨[u],[]⟩ [(x,u)])
   (hsp:∀ H:Hp,cQC H → SqL K H a (ns.map V.int) → sp [.ref a] H (fun v _ => v = .bl true) fun _ _ _ => False)
   (hCX:∀ H e s',CX [] H s₁ (fun _ _ _ => False) e s' → False) :
   codeAny (model P w) callerA (.call (.ref fa) ⟨[.ref a],[]⟩) (fun r s' => r = .ok (.ret (.bool true)) ∧ OldK s₁.heap s'.heap ∧ s'.os = s₁.os ∧ AllBare s'.gens) s₁:=by
 have rv:=oV hi
 have lenV:=hi.length
 -- from an abstract heap in which nothing but the script may be tracked
 have core:∀ H:Hp,cQC H → SqL K H a (ns.map V.int) → HOk P w H s₁.heap → (∀ b,H b ≠ none → b = a) → (H a ≠ none → K.lookup a = none) →
     codeAny (model P w) callerA (.call (.ref fa) ⟨[.ref a],[]⟩) (fun r s' => r = .ok (.ret (.bool true)) ∧ OldK s₁.heap s'.heap ∧ s'.os = s₁.os ∧ AllBare s'.gens) s₁:=by
   intro H hO hS hok hA hK
   have base_of:∀ {b:Addr} {o:Obj},s₁.heap.get? b = some o → H b = none → (qQ s₁.heap H).get? b = some o:=fun e n => aQ6 e n
   have noA:∀ {b:Addr} {o:Obj} {es:Array DictEntry} {ep:Nat},s₁.heap.get? b = some o → o.data = .dict es ep → H b = none:=fun {b o es ep} e d => by
     cases q:H b with
     | none => rfl
     | some u =>
       have e':b = a:=hA b (by rw [q]; simp)
       subst e'
       rw [ha] at e; cases e
       have d':Data.seq vs.toArray _ = Data.dict es ep:=d
       cases d'
   have nsK:∀ {b:Addr} {m:Str → Option Value},s₁.heap.Ns b m → (qQ s₁.heap H).Ns b m:=fun {b m} ⟨o,es,ep,e,d,r⟩ => ⟨o,es,ep,base_of e (noA e d),d,r⟩
   have hKb:K.In (qQ s₁.heap H):=fun b o e => base_of (KX b o e) (by
     cases q:H b with
     | none => rfl
     | some u =>
       have e':b = a:=hA b (by rw [q]; simp)
       subst e'
       rw [hK (by rw [q]; simp)] at e; cases e)
   have hM:Mod K mg (qQ s₁.heap H):=⟨hKb,nsK hns,⟨mb,nsK hb,hbb⟩,let ⟨mc,h1,h2⟩:=hlim; ⟨mc,nsK h1,h2⟩⟩
   have e0:Env0 P w K mg (qQ s₁.heap H) callerA [] s₁ H:=⟨rfl,hM,fun b o e => bQQ e,Nat.le_of_eq (yW _ _),trivial,fun b hb => absurd (show b ∈ ([]:List Addr) from hb) (by simp),hok,.of_eq hg⟩
   refine Fd ((F _ hKb (nsK hns)).run callerA [] s₁ H ⟨[.ref a],[]⟩ [.ref a] [.ref a] _ _ hr e0 (hbind s₁ (.ref a)) (.cons rfl .nil) (hsp H hO hS)) fun r s' h => ?_
   cases r with
   | error e => exact (hCX H e s' h).elim
   | ok fl =>
     cases fl with
     | next => exact False.elim h
     | brk => exact False.elim h
     | cont => exact False.elim h
     | ret u =>
       obtain ⟨v,H',os,bare,un,hok',r',q⟩:=h
       have q':v = .bl true:=q
       subst q'
       obtain rfl:u = Value.bool true:=r'
       refine ⟨rfl,OldK.of_keep fun b o e => ?_,os,bare⟩
       cases q:H b with
       | none => exact un.keep b o e q (by intro z; exact absurd (show b ∈ ([]:List Addr) from z) (by simp)) (by simp)
       | some u =>
         rcases hO b with z | ⟨ob,xs,z⟩
         · rw [q] at z; cases z
         · have z2:=un.frzs b ob _ z
           obtain ⟨e1,_⟩:=hok b _ z
           obtain ⟨e2,_⟩:=hok' b _ z2
           rw [e] at e1; cases e1
           exact e2
 cases hk:K.lookup a with
 | some o =>
   -- the script is one of the module's own objects
   have e:=KX a o hk
   rw [ha] at e
   cases e
   refine core (fun _ => none) (fun _ => .inl rfl) (.inr ⟨_,vs.toArray,_,hk,rfl,rfl,rfl,by rw [List.size_toArray,lenV]; exact hl,by simpa using rv⟩) (fun b u z => by have z':(none:Option HO) = some u:=z; cases z') (fun b z => absurd rfl z) fun z => absurd rfl z
 | none =>
   refine core (fun b => if b = a then some (.frz { cls:=.type "list",data:=.seq vs.toArray } (.lst (ns.map V.int))) else none) (fun b => ?_) (.inl (.inr ⟨{ cls:=.type "list",data:=.seq vs.toArray },if_pos rfl⟩)) (fun b u z => ?_) (fun b z => ?_) fun _ => hk
   · by_cases hb:b = a
     · exact .inr ⟨_,_,if_pos hb⟩
     · exact .inl (if_neg hb)
   · by_cases hb:b = a
     · have z':=(if_pos hb).symm.trans z
       cases z'
       subst hb
       exact ⟨ha,by rw [Ab]; exact hl,vs,_,rv,ha⟩
     · have z':=(if_neg hb).symm.trans z
       cases z'
   · by_cases hb:b = a
     · exact hb
     · exact absurd (if_neg hb) z
end L2
namespace L2
open PySem PySem.Spec PyProof.Rows
theorem bXB {l:PySem.W.OpenLaw} {n k:Nat} {q:Program} {loose:List Str} {XP:(Str → Option Value) → Heap → Prop} {YP:World → Heap → Prop} {d:DefRec} {K:Params → PySem.W.Frag} {CX:World → CXT} {sp:World → Sp} {x:Str}
   (hn:l.most = some n) (hn2:n ≤ sizeLine) (hdf:d.params.defaults = []) (hr:Room k callerA)
   (hY:∀ (w:World) (h:Heap),YP w h → (K w.params).In h)
   (F:∀ (w:World) (mg:Str → Option Value) (fa:Addr) (h:Heap),(K w.params).In h → h.Ns mainGlobals mg → mg d.name = some (.ref fa) →
     ∃ fd:FuncData,(∀ (s:Shared) (u:Value),BindsTo s fd ⟨[u],[]⟩ [(x,u)]) ∧
       ∀ base:Heap,(K w.params).In base → base.Ns mainGlobals mg → FnOk l.prog w (K w.params) mg base (CX w) k fa fd [x] (sp w))
   (hsp:∀ (w:World) (H:Hp) (a:Addr) (ns:List Int),ns.length ≤ n → cQC H → SqL (K w.params) H a (ns.map V.int) → sp w [.ref a] H (fun v _ => v = .bl true) fun _ _ _ => False)
   (hCX:∀ (w:World) (H:Hp) (s:Shared) (e:Value) (s':Shared),CX w [] H s (fun _ _ _ => False) e s' → False) :
   PySem.W.WalkO q loose XP YP l.row.toRowW d [] (fun f vs => PySem.call f vs):=by
 refine Att.attach_call hn hdf fun w s₀ s₁ mg mb fa o pm cd doc a vs ns G Y ho hd hcd hmg hobj hints hlen hg => ?_
 have KX:=hY w _ Y
 obtain ⟨fd,hb,hF⟩:=F w mg fa _ KX G.T.g hmg
 exact aJM KX G.T.g G.T.b G.T.builtins G.T.nolimit hg hobj hints (Ax hlen hn2) hr hF hb (fun H hO hS => hsp w H a ns hlen hO hS) fun H e s' => hCX w H s₁ e s'
end L2
namespace L2
open PySem PySem.Spec PyProof.Rows
def aV (s:Stmt):Arguments:=match s with
 | .FunctionDef _ a _ _ _ _ _ _ _ _ => a
 | _ => { posonlyargs:=[],args:=[],vararg:=none,kwonlyargs:=[],kw_defaults:=[],kwarg:=none,defaults:=[] }
def aU (s:Stmt):List Stmt:=match s with
 | .FunctionDef _ _ b _ _ _ _ _ _ _ => b
 | _ => []
def aG (s:Stmt):Scope:=match s with
 | .FunctionDef _ _ _ _ _ _ sc _ _ _ => sc
 | _ => { kind:=.function,names:=[],isGenerator:=false,isCoroutine:=false }
abbrev CX0:CXT:=fun _ _ _ _ _ _ => False
abbrev E0:XK:=fun _ _ _ => False
theorem cZC {X:Cx}:vD CX0 X E0:=fun _ _ _ _ _ _ _ h => h.elim
structure Fun (K:PySem.W.Frag) (x qual:Str) (st:Stmt) (f:Addr) (fd:FuncData):Prop where
 ex:∃ (oc:Value) (od:Option Addr) (kV doc pm:Value) (an:Option Addr) (cdv ct:Value) (osl:Array (Option Value)),
   fd = PySem.W.fnOf x qual (aV st) (aU st) (aG st) .none kV doc pm an cdv ct ∧ K.lookup f = some ⟨oc,od,.func fd,osl⟩ ∧ PySem.W.codeIn K cdv qual = true
 kp:PySem.W.keepIn K (.ref f) = true
section
variable {P:Program} {w:World} {K:PySem.W.Frag} {mg:Str → Option Value} {base:Heap}
theorem Fun.ok {x qual:Str} {st:Stmt} {f:Addr} {fd:FuncData} {N ps:List Str} {k:Nat} {sp:Sp} (F:Fun K x qual st f fd) (S:FnScope N ps (aG st)) (len:∀ vs H Q E,sp vs H Q E → vs.length = ps.length)
   (hbody:∀ (cdv:Value) (A:Around) (outer:List Env) (s:Shared) (H:Hp) (vs:List V) (Q:VK) (E:XK),Room k (A.deeper (envOfC qual (aG st) s.heap.objs.size f cdv)) → sp vs H Q E →
     ∃ t,PSs (jC CX0 P w K mg base N qual (aG st) f cdv A outer s H E).nox (aU st) t ∧ t { nx:=fun _ H' => Q .non H',rt:=Q } (fL N vs) H):FnOk P w K mg base CX0 (k + 1) f fd ps sp:=by
 obtain ⟨oc,od,kV,doc,pm,an,cdv,ct,osl,rfl,lk,hcd⟩:=F.ex
 refine bZN lk hcd S len fun A outer s H vs Q E hr hsp => ?_
 obtain ⟨t,h,q⟩:=hbody cdv A outer s H vs Q E hr hsp
 exact ⟨t,h.nox,q⟩
theorem Fun.binds {x qual:Str} {st:Stmt} {f:Addr} {fd:FuncData} {ps:List Str} (F:Fun K x qual st f fd)
   (h:∀ (kV doc pm:Value) (an:Option Addr) (cdv ct:Value) (us:List Value),us.length = ps.length → bindArgs (PySem.W.fnOf x qual (aV st) (aU st) (aG st) .none kV doc pm an cdv ct) ⟨us,[]⟩ = pure (ps.zip us)):Binds K fd ps []:=by
 obtain ⟨oc,od,kV,doc,pm,an,cdv,ct,osl,rfl,lk,hcd⟩:=F.ex
 exact .all (h kV doc pm an cdv ct)
theorem bO {x qual:Str} {st:Stmt} {f:Addr} {oc:Value} {od an:Option Addr} {osl:Array (Option Value)} {kV doc pm cdv ct:Value} (l:K.lookup f = some ⟨oc,od,.func (PySem.W.fnOf x qual (aV st) (aU st) (aG st) .none kV doc pm an cdv ct),osl⟩)
   (c:PySem.W.codeIn K cdv qual = true) (k:PySem.W.keepIn K (.ref f) = true):Fun K x qual st f (PySem.W.fnOf x qual (aV st) (aU st) (aG st) .none kV doc pm an cdv ct):=⟨⟨oc,od,kV,doc,pm,an,cdv,ct,osl,rfl,l,c⟩,k⟩
end
section
variable {X:Cx}
theorem pv (i:Nat) {x:Str} {pos:Pos} (hN:X.N[i]? = some x:=by rfl) (hv:Vis X.env.scope x:=by first | exact Or.inl rfl | exact Or.inr (Or.inl rfl) | exact Or.inr (Or.inr rfl)) (hd:(x == ("__debug__" : Str)) = false:=by decide)
   (hcd:(x == ("__classdict__" : Str)) = false:=by decide):PE X (.Name x pos) (cJ9 i):=bJ5 hN hv hd hcd
end
theorem dQ1 {A B:Prop} (h:B):if false = true then A else B:=by
 rw [if_neg Ao]
 exact h
theorem dQL {A B:Prop} (h:A):if true = true then A else B:=by
 rw [if_pos rfl]
 exact h
theorem lJ {c A B:Prop} [Decidable c] (h1:c → A) (h2:¬ c → B):if c then A else B:=by
 by_cases h:c
 · rw [if_pos h]
   exact h1 h
 · rw [if_neg h]
   exact h2 h
def Same (H H':Hp):Prop:=∀ b o,H b = some o → H' b = some o
theorem Same.refl (H:Hp):Same H H:=fun _ _ h => h
theorem Same.trans {H H1 H2:Hp} (a:Same H H1) (b:Same H1 H2):Same H H2:=fun c o h => b c o (a c o h)
theorem Same.free {H H':Hp} (e:Same H H') {l:Addr} (h:H' l = Option.none):H l = Option.none:=by
 cases q:H l with
 | none => rfl
 | some o =>
   rw [e l o q] at h
   cases h
theorem Same.seq {K:PySem.W.Frag} {H H':Hp} {a:Addr} {xs:List V} (e:Same H H') (h:SqL K H a xs):SqL K H' a xs:=by
 rcases h with (h | ⟨o,h⟩) | h
 · exact .inl (.inl (e _ _ h))
 · exact .inl (.inr ⟨o,e _ _ h⟩)
 · exact .inr h
end L2
set_option maxHeartbeats 4000000
namespace FlT
open PySem PySem.Spec PyProof.Rows
def sIx (n d:Nat):Option Int → Nat
 | none => d
 | some v => if v < 0 then (v + (n:Int)).toNat else min v.toNat n
theorem aZB (n d:Nat) (hd:d ≤ n) (o:Option Int):sIx n d o ≤ n:=by
 cases o with
 | none => exact hd
 | some v =>
   show (if v < 0 then (v + (n:Int)).toNat else min v.toNat n) ≤ n
   by_cases hv:v < 0
   · rw [if_pos hv]; omega
   · rw [if_neg hv]; omega
theorem app_cps (x y:Str):(x ++ y).cps.toList = x.cps.toList ++ y.cps.toList:=by
 show (x.cps ++ y.cps).toList = _
 simp
theorem str_ext {x y:Str} (h:x.cps.toList = y.cps.toList):x = y:=by
 obtain ⟨⟨x⟩⟩:=x
 obtain ⟨⟨y⟩⟩:=y
 cases h
 rfl
end FlT
set_option maxHeartbeats 4000000
namespace L2
open PySem PySem.Spec PyProof.Rows
theorem PE.imp {X:Cx} {e:Expr} {t t':TE} (h:PE X e t) (i:∀ σ H Q,t' σ H Q → t σ H Q):PE X e t':=fun pins s σ H Q I q => h pins s σ H Q I (i σ H Q q)
theorem PT.imp {X:Cx} {e:Expr} {t t':TT} (h:PT X e t) (i:∀ σ H Q,t' σ H Q → t σ H Q):PT X e t':=fun pins s σ H Q I q => h pins s σ H Q I (i σ H Q q)
theorem OpR.imp {X:Cx} {f:Value → Value → Sem Value} {r r':R2} (h:OpR X f r) (i:∀ x y H Q,r' x y H Q → r x y H Q):OpR X f r':=fun pins s σ H x y v u Q I rx ry q => h pins s σ H x y v u Q I rx ry (i x y H Q q)
theorem CallR.imp {X:Cx} {f:Value} {r r':List V → Hp → VK → Prop} (h:CallR X f r) (i:∀ xs H Q,r' xs H Q → r xs H Q):CallR X f r':=fun pins s σ H xs us Q I rx q => h pins s σ H xs us Q I rx (i xs H Q q)
theorem MtR.imp {X:Cx} {id:String} {r r':V → List V → Hp → VK → Prop} (h:MtR X id r) (i:∀ x xs H Q,r' x xs H Q → r x xs H Q):MtR X id r':=fun pins s σ H x xs v us Q I rx rs q => h pins s σ H x xs v us Q I rx rs (i x xs H Q q)
theorem IxR.imp {X:Cx} {r r':R2} (h:IxR X r) (i:∀ x y H Q,r' x y H Q → r x y H Q):IxR X r':=fun value slice pins s σ H x y v u Q I rx ry q hs => h value slice pins s σ H x y v u Q I rx ry (i x y H Q q) hs
theorem SlR.imp {X:Cx} {r r':V → Option Int → Option Int → Hp → VK → Prop} (h:SlR X r) (i:∀ x lo hi H Q,r' x lo hi H Q → r x lo hi H Q):SlR X r':=fun pins s σ H x v vl vu lo hi sl Q I rx hs pl pu q => h pins s σ H x v vl vu lo hi sl Q I rx hs pl pu (i x lo hi H Q q)
def Its (z:Str):It:=⟨fun i _ => i < z.cps.size,fun i H x H' => H' = H ∧ ∃ c,z.cps[i]? = some c ∧ x = .str ⟨#[c]⟩,fun i _ => z.cps.size ≤ i⟩
theorem tS {P:Program} {w:World} {K:PySem.W.Frag} {tg:Expr} (z:Str) (t:Tok) (it:Addr):Turn P w K tg (Its z) [it] it (fun i h => h.IsStrIter it "str_ascii_iterator" z t i) where
 mem:=by simp
 obj:=fun i h st b hb => by
   have e:b = it:=by simpa using hb
   subst e
   obtain ⟨o,e,c,d⟩:=st
   exact ⟨o,e,fun v z => by rw [d] at z; cases z⟩
 keep:=fun i h h' st k => let ⟨o,ho,r⟩:=st; ⟨o,k it (by simp) o ho,r⟩
 item:=by
   intro X hP hw hK hc i pins s σ H E I hf st hg
   subst hP hw hK
   obtain ⟨f0,f1,f2,f3,f4,f5⟩:=hf it (by simp)
   have hi:i < z.cps.size:=hg
   refine wpAny_pyNext_ascii_item st (c:=z.cps[i]) (by simp [hi]) fun h' st' sb => ?_
   have I1:Inv X pins σ H { s with heap:=h',toks:=s.toks + 1 }:=I.turned (fun b o hb e => (sb.2 b hb).trans e) f0 f1 f3 f4 f5
   obtain ⟨o,e,c,d⟩:=id st'
   exact ⟨_,rfl,mZ (s:={ s with heap:=h',toks:=s.toks + 1 }) e c d (by decide) ⟨.str ⟨#[z.cps[i]]⟩,H,I1,⟨_,rfl⟩,⟨rfl,_,by simp [hi],rfl⟩,st',fun b hb => (hf b hb).1⟩⟩
 done:=by
   intro X hP hw hK hc i pins s σ H E I hf st hg
   subst hP hw hK
   obtain ⟨f0,f1,f2,f3,f4,f5⟩:=hf it (by simp)
   have hi:z.cps.size ≤ i:=hg
   exact wpAny_pyNext_ascii_end (I.ok.hd hc) st (by simp [hi]) fun h' eb => ⟨rfl,I.turned (t':=s.toks) (fun b o hb e => eb b o hb e) f0 f1 f3 f4 f5⟩
 self:=fun _ _ _ _ _ st h => wpAny_pyIter_striter_ascii st h
theorem yI {P:Program} {w:World} {K:PySem.W.Frag} {tg:Expr} (z:Str) (t:Tok) (it:Addr):Turn P w K tg (Its z) [it] it (fun i h => h.IsStrIter it "str_iterator" z t i) where
 mem:=by simp
 obj:=fun i h st b hb => by
   have e:b = it:=by simpa using hb
   subst e
   obtain ⟨o,e,c,d⟩:=st
   exact ⟨o,e,fun v z => by rw [d] at z; cases z⟩
 keep:=fun i h h' st k => let ⟨o,ho,r⟩:=st; ⟨o,k it (by simp) o ho,r⟩
 item:=by
   intro X hP hw hK hc i pins s σ H E I hf st hg
   subst hP hw hK
   obtain ⟨f0,f1,f2,f3,f4,f5⟩:=hf it (by simp)
   have hi:i < z.cps.size:=hg
   refine wpAny_pyNext_wide_item st (c:=z.cps[i]) (by simp [hi]) fun h' st' sb => ?_
   have I1:Inv X pins σ H { s with heap:=h',toks:=s.toks + 1 }:=I.turned (fun b o hb e => (sb.2 b hb).trans e) f0 f1 f3 f4 f5
   obtain ⟨o,e,c,d⟩:=id st'
   exact ⟨_,rfl,mZ (s:={ s with heap:=h',toks:=s.toks + 1 }) e c d (by decide) ⟨.str ⟨#[z.cps[i]]⟩,H,I1,⟨_,rfl⟩,⟨rfl,_,by simp [hi],rfl⟩,st',fun b hb => (hf b hb).1⟩⟩
 done:=by
   intro X hP hw hK hc i pins s σ H E I hf st hg
   subst hP hw hK
   obtain ⟨f0,f1,f2,f3,f4,f5⟩:=hf it (by simp)
   have hi:z.cps.size ≤ i:=hg
   exact wpAny_pyNext_wide_end (I.ok.hd hc) st (by simp [hi]) fun h' eb => ⟨rfl,I.turned (t':=s.toks) (fun b o hb e => eb b o hb e) f0 f1 f3 f4 f5⟩
 self:=fun _ _ _ _ _ st h => wpAny_pyIter_striter_wide st h
section
variable {X:Cx} {tg:Expr}
end
theorem bQU {z:Str} {g:TG} {tb:TS} {D:Ends} {σ:St} {H:Hp} (Pv:Nat → St → Hp → Prop) (h0:Pv 0 σ H)
   (hs:∀ i c σ H,z.cps.toList[i]? = some c → Pv i σ H → g (.str ⟨#[c]⟩) σ H fun σ2 H2 => tb { D with nx:=Pv (i + 1),ct:=Pv (i + 1),bk:=D.nx } σ2 H2) (hd:∀ σ H,Pv z.cps.toList.length σ H → D.nx σ H) :
   ∃ W:Nat → Nat → St → Hp → Prop,(∃ m,W 0 m σ H) ∧ ∀ i m σ H,W i m σ H →
     ((Its z).stop i H ∧ D.nx σ H) ∨ ((Its z).go i H ∧ ∃ N:St → Hp → Prop,(∀ σ' H',N σ' H' → ∃ m',m' < m ∧ W (i + 1) m' σ' H') ∧ ∀ x H',(Its z).yld i H x H' → g x σ H' fun σ2 H2 => tb { D with nx:=N,ct:=N,bk:=D.nx } σ2 H2):=by
 have hl:z.cps.toList.length = z.cps.size:=by simp
 rw [hl] at hd
 refine ⟨fun i m σ H => m = z.cps.size - i ∧ i ≤ z.cps.size ∧ Pv i σ H,⟨z.cps.size,by simp,Nat.zero_le _,h0⟩,?_⟩
 rintro i m σ H ⟨rfl,hi,p⟩
 by_cases hlt:i < z.cps.size
 · refine .inr ⟨hlt,Pv (i + 1),fun σ' H' p' => ⟨z.cps.size - (i + 1),by omega,rfl,hlt,p'⟩,fun x H' y => ?_⟩
   obtain ⟨e,c,hc,hx⟩:=y
   subst e hx
   exact hs i c σ _ (by simpa using hc) p
 · have e:i = z.cps.size:=by omega
   subst e
   exact .inl ⟨Ai _,hd σ H p⟩
section
variable {X:Cx} {a b c:Expr} {ta tb tc:TE} {pos:Pos}
def dQM:V → Option Int → Option Int → Hp → VK → Prop:=fun x lo hi H Q => ∃ z,x = .str z ∧ z.length ≤ sizeLine ∧ Q (.str (Txt.slice z lo hi)) H
theorem cXG:SlR X dQM:=by
 intro pins s σ H x v vl vu lo hi sl Q I rx hs pl pu h
 obtain ⟨z,rfl,hz,q⟩:=h
 obtain ⟨t,rfl⟩:=rx
 refine ⟨"str",_,PySem.F.slot_str_getitem.lookup,typeIs_str _ _ _,?_⟩
 cases pl with
 | none =>
   cases pu with
   | none => exact Ei (l:=none) (u:=none) (st:=none) hs rfl (post_val_or_str ⟨Ax (Txt.slice_le z _ _) hz,fun t' k => ⟨.str (Txt.slice z none none),H,I.tok _,⟨_,rfl⟩,q⟩⟩)
   | int j uj => exact Ei (l:=none) (u:=some (j,uj)) (st:=none) hs rfl (post_val_or_str ⟨Ax (Txt.slice_le z _ _) hz,fun t' k => ⟨.str (Txt.slice z none (some j)),H,I.tok _,⟨_,rfl⟩,q⟩⟩)
 | int i ui =>
   cases pu with
   | none => exact Ei (l:=some (i,ui)) (u:=none) (st:=none) hs rfl (post_val_or_str ⟨Ax (Txt.slice_le z _ _) hz,fun t' k => ⟨.str (Txt.slice z (some i) none),H,I.tok _,⟨_,rfl⟩,q⟩⟩)
   | int j uj => exact Ei (l:=some (i,ui)) (u:=some (j,uj)) (st:=none) hs rfl (post_val_or_str ⟨Ax (Txt.slice_le z _ _) hz,fun t' k => ⟨.str (Txt.slice z (some i) (some j)),H,I.tok _,⟨_,rfl⟩,q⟩⟩)
def aJ0:V → List V → Hp → VK → Prop:=fun x vs H Q => ∃ z y i rest,x = .str z ∧ vs = [.str y] ∧ Builtin.Str.occurrences z y 0 z.length 1 = i :: rest ∧ Q (.int ((i:Nat):Int)) H
theorem mt_index:MtR X "str.index" aJ0:=by
 intro pins s σ H x vs v us Q I rx rv h
 obtain ⟨z,y,i,rest,rfl,rfl,ho,q⟩:=h
 obtain ⟨t,rfl⟩:=rx
 obtain ⟨u,rfl,ru⟩:=rv.one
 obtain ⟨t',rfl⟩:=ru
 exact SC.index ho ⟨.int i,H,I.tok _,⟨_,rfl⟩,q⟩
theorem vF {ys:List Str}:∀ {us:List Value},Vals (ys.map V.str) us → StrsAre us ys:=by
 induction ys with
 | nil => intro us r; rw [List.map_nil] at r; cases r; exact .nil
 | cons n ns ih =>
   intro us r
   rw [Aw] at r
   cases r with
   | cons r1 r2 =>
     obtain ⟨t,e⟩:=r1
     subst e
     exact .cons n t (ih r2)
theorem nL:CallR X (.type "int") (fun xs H Q => ∃ x n,xs = [.str x] ∧ PySem.intText? x = some n ∧ x.length ≤ 640 ∧ Q (.int n) H):=by
 intro pins s σ H xs us Q I r h
 obtain ⟨x,n,rfl,hn,hl,q⟩:=h
 obtain ⟨u,rfl,t,rfl⟩:=eL r
 exact PySem.W.KIN.call_text hn hl ⟨.int n,H,I.tok _,⟨_,rfl⟩,q⟩
theorem call_isinst:CallR X (.builtin "isinstance") (fun xs H Q => ∃ x T t b,xs = [x,.ty T] ∧ TyOf X.K H x t ∧ PySem.W.kitOne X.K t (.type T) = some b ∧ Q (.bl b) H):=by
 intro pins s σ H xs us Q I r h
 obtain ⟨x,T,t,b,rfl,ty,e,q⟩:=h
 obtain ⟨u,w',rfl,rx,ry⟩:=oZ r
 cases (show w' = Value.type T from ry)
 exact xW I rx ty e fun tk => ⟨.bl b,H,I.tok _,rfl,q⟩
def gQ (xs ys:List V):Bool:=xs.length == ys.length && (List.range xs.length).all fun j => eqV (xs.getD j .non) (ys.getD j .non)
theorem Vals.getD_rel {xs:List V} {us:List Value} {j:Nat} (r:Vals xs us) (h:j < us.length):RelV (xs.getD j .non) us[j]:=by
 have hl:=r.length
 have hx:j < xs.length:=by omega
 obtain ⟨u,hu,ru⟩:=r.get (Aa hx)
 rw [Aa h] at hu
 cases hu
 rw [Af,Aa hx]
 exact ru
theorem eQ {xs:List V} (h:xs.all bF = true) (j:Nat):bF (xs.getD j .non) = true:=by
 rw [Af]
 cases e:xs[j]? with
 | none => rfl
 | some x => exact Ci.mp h x (Ak e)
def bJ3 (K:PySem.W.Frag) (neg:Bool):R2:=fun x y H Q => ∃ p q xs ys,x = .ref p ∧ y = .ref q ∧ SqL K H p xs ∧ SqL K H q ys ∧ xs.all bF = true ∧ ys.all bF = true ∧ Q (.bl (if neg then !gQ xs ys else gQ xs ys)) H
theorem sL {xs ys:List V} (h:xs.length ≠ ys.length):gQ xs ys = false:=by
 unfold gQ
 rw [Dd.mpr h,Bool.false_and]
theorem iC {xs ys:List V} (h:xs.length = ys.length):gQ xs ys = (List.range xs.length).all fun j => eqV (xs.getD j .non) (ys.getD j .non):=by
 unfold gQ
 rw [h,Gi,Bool.true_and]
theorem tR (hu:X.A.units < cLine):OpR X (compareOp .Eq) (bJ3 X.K false):=by
 intro pins s σ H x y v u Q I rx ry h
 obtain ⟨p,q,xs,ys,rfl,rfl,hp,hq,fx,fy,k⟩:=h
 cases rx
 cases ry
 obtain ⟨its,r1,l1,_⟩:=I.list hp
 obtain ⟨its2,r2,l2,_⟩:=I.list hq
 have e1:=r1.length
 have e2:=r2.length
 by_cases hl:xs.length = ys.length
 · refine SeqAt.eq_listAt (e:=fun j => eqV (xs.getD j .non) (ys.getD j .non)) l1.isList l2.isList (by simp only [List.size_toArray]; omega) hu (fun j h1 h2 => ?_) ?_
   · have h1':j < its.length:=by simpa using h1
     have h2':j < its2.length:=by simpa using h2
     simpa using iU (A:=X.A.in1) (s:=s) (r1.getD_rel h1') (r2.getD_rel h2') (eQ fx j) (eQ fy j)
   · refine ⟨.bl (gQ xs ys),H,I,?_,k⟩
     rw [iC hl]
     simp only [List.size_toArray,← e1]
     rfl
 · refine SeqAt.eq_list_lengthsAt l1.isList l2.isList (by simp only [List.size_toArray,bne_iff_ne]; omega) hu ⟨.bl (gQ xs ys),H,I,?_,k⟩
   rw [sL hl]
   rfl
theorem tE (hu:X.A.units < cLine):OpR X (compareOp .NotEq) (bJ3 X.K true):=by
 intro pins s σ H x y v u Q I rx ry h
 obtain ⟨p,q,xs,ys,rfl,rfl,hp,hq,fx,fy,k⟩:=h
 cases rx
 cases ry
 obtain ⟨its,r1,l1,_⟩:=I.list hp
 obtain ⟨its2,r2,l2,_⟩:=I.list hq
 have e1:=r1.length
 have e2:=r2.length
 by_cases hl:xs.length = ys.length
 · refine SeqAt.RcNeAt.lists (e:=fun j => eqV (xs.getD j .non) (ys.getD j .non)) l1.isList l2.isList (by simp only [List.size_toArray]; omega) hu (fun j h1 h2 => ?_) X.prog X.w _ _ ?_
   · have h1':j < its.length:=by simpa using h1
     have h2':j < its2.length:=by simpa using h2
     simpa using iU (A:=X.A.in1) (s:=s) (r1.getD_rel h1') (r2.getD_rel h2') (eQ fx j) (eQ fy j)
   · refine ⟨.bl (!gQ xs ys),H,I,?_,k⟩
     rw [iC hl]
     simp only [List.size_toArray,← e1]
     rfl
 · refine SeqAt.RcNeAt.lists_lengths l1.isList l2.isList (by simp only [List.size_toArray,bne_iff_ne]; omega) hu X.prog X.w _ _ ⟨.bl (!gQ xs ys),H,I,?_,k⟩
   rw [sL hl]
   rfl
end
end L2
set_option maxHeartbeats 4000000
namespace L2
open PySem PySem.Spec PyProof.Rows
def rdO:Option HO → Option (List V)
 | some (.lst xs) => some xs
 | some (.frz _ (.lst xs)) => some xs
 | _ => none
def rdL (H:Hp) (a:Addr):Option (List V):=rdO (H a)
theorem aO {K:PySem.W.Frag} {H:Hp} {a:Addr} {xs:List V} (h:rdL H a = some xs):SqL K H a xs:=by
 unfold rdL rdO at h
 split at h
 · cases h; exact .inl (.inl (by assumption))
 · cases h; exact .inl (.inr ⟨_,by assumption⟩)
 · cases h
theorem aM {H:Hp} {a:Addr} {xs:List V} (h:H a = some (.lst xs)):rdL H a = some xs:=by unfold rdL; rw [h]; rfl
theorem dA {H:Hp} {a:Addr} {xs:List V}:rdL (upd H a (.lst xs)) a = some xs:=aM aB
theorem aZH {H:Hp} {a b:Addr} {o:HO} (h:b ≠ a):rdL (upd H a o) b = rdL H b:=by unfold rdL; rw [aJ h]
theorem aH {H H':Hp} {a:Addr} {xs:List V} (e:Same H H') (h:rdL H a = some xs):rdL H' a = some xs:=by
 unfold rdL at h ⊢
 cases q:H a with
 | none => rw [q] at h; cases h
 | some o => rw [e a o q,← q]; exact h
theorem aD {H:Hp} {p:Addr} (h:H p = none) (o:HO):Same H (upd H p o):=fun b u q => by rw [aJ (bG q h)]; exact q
def eT (H:Hp) (a:Addr):Option (List V):=match H a with | some (.lst xs) => some xs | _ => none
theorem bP {H:Hp} {a:Addr} {xs:List V} (h:H a = some (.lst xs)):eT H a = some xs:=by unfold eT; rw [h]
theorem hZ {H:Hp} {a:Addr} {xs:List V} (h:eT H a = some xs):H a = some (.lst xs):=by
 unfold eT at h
 split at h
 · cases h; assumption
 · cases h
theorem kL {H:Hp} {a:Addr} {xs:List V}:eT (upd H a (.lst xs)) a = some xs:=bP aB
theorem bXR {H:Hp} {a b:Addr} {o:HO} (h:b ≠ a):eT (upd H a o) b = eT H b:=by unfold eT; rw [aJ h]
def iW (H:Hp) (a:Addr):Option (List V):=match H a with | some (.tup xs) => some xs | _ => none
theorem eE {H:Hp} {a:Addr} {xs:List V} (h:H a = some (.tup xs)):iW H a = some xs:=by unfold iW; rw [h]
theorem lN {H:Hp} {a:Addr} {xs:List V} (h:iW H a = some xs):H a = some (.tup xs):=by
 unfold iW at h
 split at h
 · cases h; assumption
 · cases h
theorem kE {H:Hp} {a:Addr} {xs:List V}:iW (upd H a (.tup xs)) a = some xs:=eE aB
section
variable {X:Cx} {a b c:Expr} {ta tb tc:TE} {pos:Pos}
def bXN (i:Nat):TE:=fun σ H Q => match σ[i]? with | some (some v) => Q v H | _ => False
theorem mv (i:Nat) {x:Str} {pos:Pos} (hN:X.N[i]? = some x:=by rfl) (hv:Vis X.env.scope x:=by first | exact Or.inl rfl | exact Or.inr (Or.inl rfl) | exact Or.inr (Or.inr rfl)) (hd:(x == ("__debug__" : Str)) = false:=by decide)
   (hcd:(x == ("__classdict__" : Str)) = false:=by decide):PE X (.Name x pos) (bXN i):=(pv i hN hv hd hcd).imp fun σ H Q q => by
 unfold bXN at q
 split at q
 · exact ⟨_,by assumption,q⟩
 · exact q.elim
def mI (g:Int → Int → V):R2:=fun x y H Q => match x,y with | .int i,.int j => Q (g i j) H | _,_ => False
theorem tF {g:Int → Int → V} {x y:V} {H:Hp} {Q:VK} (q:mI g x y H Q):rI0 g x y H Q:=by
 unfold mI at q
 split at q
 · exact ⟨_,_,rfl,rfl,q⟩
 · exact q.elim
def mIC (C:Int → Int → Prop) (g:Int → Int → V):R2:=fun x y H Q => match x,y with | .int i,.int j => C i j ∧ Q (g i j) H | _,_ => False
theorem qE {C:Int → Int → Prop} {g:Int → Int → V} {x y:V} {H:Hp} {Q:VK} (q:mIC C g x y H Q):rI C g x y H Q:=by
 unfold mIC at q
 split at q
 · exact ⟨_,_,rfl,rfl,q.1,q.2⟩
 · exact q.elim
def xN:R2:=fun x y H Q => match x,y with
 | .int i,.int j => Q (.int (i + j)) H
 | .str z,.str y => z.length + y.length ≤ sizeLine ∧ Q (.str (z ++ y)) H
 | .ref p,.ref q => (match eT H p,eT H q with
   | some xs,some zs => xs.length + zs.length ≤ sizeLine ∧ ∀ r,H r = none → Q (.ref r) (upd H r (.lst (xs ++ zs)))
   | _,_ => False)
 | _,_ => False
theorem cI:OpR X (binaryOp .Add) xN:=by
 intro pins s σ H x y v u Q I rx ry q
 unfold xN at q
 split at q
 · exact cQR pins s σ H _ _ v u Q I rx ry ⟨_,_,rfl,rfl,q⟩
 · exact vG pins s σ H _ _ v u Q I rx ry ⟨_,_,rfl,rfl,q.1,q.2⟩
 · split at q
   · exact bJF pins s σ H _ _ v u Q I rx ry ⟨_,_,_,_,rfl,rfl,hZ (by assumption),hZ (by assumption),q.1,q.2⟩
   · exact q.elim
 · exact q.elim
theorem iL:OpR X (binaryOp .Sub) (mI fun i j => .int (i - j)):=op_sub.imp fun _ _ _ _ q => tF q
theorem aXO:OpR X (binaryOp .Mult) (mIC CMul fun i j => .int (i * j)):=op_mul.imp fun _ _ _ _ q => qE q
theorem eW:OpR X (binaryOp .Mod) (mIC (fun _ j => 0 < j) fun i j => .int (i % j)):=op_mod.imp fun _ _ _ _ q => qE q
theorem kC:OpR X (binaryOp .FloorDiv) (mIC cJ3 fun i j => .int (i / j)):=op_fdiv.imp fun _ _ _ _ q => qE q
theorem bJY:OpR X (compareOp .Lt) (mI fun i j => .bl (decide (i < j))):=op_lt.imp fun _ _ _ _ q => tF q
theorem cXB:OpR X (compareOp .Gt) (mI fun i j => .bl (decide (j < i))):=op_gt.imp fun _ _ _ _ q => tF q
def dQ3:V → Hp → VK → Prop:=fun x H Q => match x with | .int i => Q (.int (-i)) H | _ => False
def mEq:R2:=fun x y H Q => bXV x y = true ∧ Q (.bl (decide (x = y))) H
theorem aQC:OpR X (compareOp .Eq) mEq:=cJ6
def mNe:R2:=fun x y H Q => bXV x y = true ∧ Q (.bl (!decide (x = y))) H
theorem bQE:OpR X (compareOp .NotEq) mNe:=cJI
def zC (neg:Bool):R2:=fun x y H Q => match x,y with
 | .ref p,.ref q => (match rdL H p,rdL H q with
   | some xs,some ys => xs.all bF = true ∧ ys.all bF = true ∧ Q (.bl (if neg then !gQ xs ys else gQ xs ys)) H
   | _,_ => False)
 | _,_ => False
theorem rQ {K:PySem.W.Frag} {neg:Bool} {x y:V} {H:Hp} {Q:VK} (q:zC neg x y H Q):bJ3 K neg x y H Q:=by
 unfold zC at q
 split at q
 · split at q
   · exact ⟨_,_,_,_,rfl,rfl,aO (by assumption),aO (by assumption),q.1,q.2.1,q.2.2⟩
   · exact q.elim
 · exact q.elim
theorem cJP (hu:X.A.units < cLine):OpR X (compareOp .Eq) (zC false):=(tR hu).imp fun _ _ _ _ q => rQ q
theorem bZ1 (hu:X.A.units < cLine):OpR X (compareOp .NotEq) (zC true):=(tE hu).imp fun _ _ _ _ q => rQ q
def cQS:R2:=fun x y H Q => match y with | .non => Q (.bl (decide (x = .non))) H | _ => False
theorem bZT:OpR X (compareOp .Is) cQS:=op_isN.imp fun _ y _ _ q => by
 unfold cQS at q
 split at q
 · exact ⟨rfl,q⟩
 · exact q.elim
def aJK:R2:=fun x y H Q => match y with | .non => Q (.bl (!decide (x = .non))) H | _ => False
theorem bJO:OpR X (compareOp .IsNot) aJK:=op_notN.imp fun _ y _ _ q => by
 unfold aJK at q
 split at q
 · exact ⟨rfl,q⟩
 · exact q.elim
def subIn (y x:Str):Bool:=!(Builtin.Str.occurrences x y 0 x.length 1).isEmpty
def yE (neg:Bool):R2:=fun x y H Q => match y with
 | .ref p => (match rdL H p with | some xs => bF x = true ∧ xs.all bF = true ∧ Q (.bl (if neg then !inV x xs else inV x xs)) H | none => False)
 | _ => False
theorem sK {K:PySem.W.Frag} {neg:Bool} {x y:V} {H:Hp} {Q:VK} (q:yE neg x y H Q):rIn K neg x y H Q:=by
 unfold yE at q
 split at q
 · split at q
   · exact ⟨_,_,rfl,.inl (aO (by assumption)),q.1,q.2.1,q.2.2⟩
   · exact q.elim
 · exact q.elim
theorem cZJ:OpR X (compareOp .In) (yE false):=op_in_seq.imp fun _ _ _ _ q => sK q
theorem rA:OpR X (compareOp .NotIn) (yE true):=op_notIn_seq.imp fun _ _ _ _ q => sK q
def mB (Q:Bool → Hp → Prop):VK:=fun x H => match x with | .bl k => Q k H | _ => False
theorem cJG {Q:Bool → Hp → Prop} {x:V} {H:Hp} (q:mB Q x H):∃ k,x = .bl k ∧ Q k H:=by
 unfold mB at q
 split at q
 · exact ⟨_,rfl,q⟩
 · exact q.elim
def bZG (t:TE):TT:=fun σ H Q => t σ H (mB Q)
theorem bH {op:CmpOp} {r:R2} (ho:OpR X (compareOp op) r) (ha:PE X a ta) (hb:PE X b tb) (hm:behindInMarks op b = false):PT X (.Compare a [op] [b] pos) (bZG (tOp r ta tb)):=by
 intro pins s σ H Q I h
 refine wpAny_isTrue_Compare1 (thn (ha pins s σ H _ I h) fun v s1 ⟨x,H1,I1,r1,q1⟩ => thn (hb pins s1 σ H1 _ I1 q1) fun u s2 ⟨y,H2,I2,r2,q2⟩ =>
   thn (ho pins s2 σ H2 x y v u _ I2 r1 r2 q2) fun c s3 ⟨z,H3,I3,r3,q⟩ => ?_) hm
 obtain ⟨k,e,q3⟩:=cJG q
 subst e
 cases r3
 exact Eu ⟨H3,I3,q3⟩
def aQU (Q:Bool → Hp → Prop):VK:=fun x H => match x with
 | .non => Q false H
 | .bl k => Q k H
 | .int i => Q (i != 0) H
 | .str y => y.length ≤ sizeLine ∧ Q ((y.length:Int) != 0) H
 | .ref p => (match rdL H p with
   | some xs => Q (!xs.isEmpty) H
   | none => (match H p with | some (.dK kvs) => Q (!kvs.isEmpty) H | _ => False))
 | _ => False
theorem bX4 {K:PySem.W.Frag} {Q:Bool → Hp → Prop} {x:V} {H:Hp} (q:aQU Q x H):∃ k,cZG K x H k ∧ Q k H:=by
 unfold aQU at q
 split at q
 · exact ⟨_,rfl,q⟩
 · exact ⟨_,rfl,q⟩
 · exact ⟨_,rfl,q⟩
 · exact ⟨_,⟨q.1,rfl⟩,q.2⟩
 · split at q
   · exact ⟨_,.inl ⟨_,aO (by assumption),rfl⟩,q⟩
   · split at q
     · exact ⟨_,.inr (.inr ⟨_,by assumption,rfl⟩),q⟩
     · exact q.elim
 · exact q.elim
def aQM (t:TE):TT:=fun σ H Q => t σ H (aQU Q)
theorem cP (ha:PE X a ta) (he:∀ whole,isTrue a X.env whole = (do let v ← whole; standAt a.pos; holding [v] (truthy v)):=by intro _; rfl):PT X a (aQM ta):=by
 intro pins s σ H Q I h
 refine isTrue_plain (thn (ha pins s σ H _ I h) fun v s1 ⟨x,H1,I1,r1,q1⟩ => bJ1 pins s1 σ H1 x v Q I1 r1 (bX4 q1)) (he _)
variable {rest:List Expr}
def mIx:R2:=fun x y H Q => match x,y with
 | .str z,.int i => z.length ≤ sizeLine ∧ (match atI z.cps.toList i with | some c => Q (.str ⟨#[c]⟩) H | none => False)
 | .ref p,.int i => (match rdL H p with
   | some xs => (match atI xs i with | some v => Q v H | none => False)
   | none => (match iW H p with
     | some xs => (match atI xs i with | some v => Q v H | none => False)
     | none => False))
 | _,_ => False
theorem bQS {K:PySem.W.Frag} {x y:V} {H:Hp} {Q:VK} (q:mIx x y H Q):rIx K x y H Q:=by
 unfold mIx at q
 split at q
 · obtain ⟨h1,q⟩:=q
   split at q
   · exact .inr (.inr ⟨_,_,_,rfl,rfl,h1,by assumption,q⟩)
   · exact q.elim
 · split at q
   · split at q
     · exact .inl ⟨_,_,_,_,rfl,rfl,aO (by assumption),by assumption,q⟩
     · exact q.elim
   · split at q
     · split at q
       · exact .inr (.inl ⟨_,_,_,_,rfl,rfl,SqT.of (lN (by assumption)),by assumption,q⟩)
       · exact q.elim
     · exact q.elim
 · exact q.elim
theorem cA:IxR X mIx:=ix_seq.imp fun _ _ _ _ q => bQS q
def mSl:V → Option Int → Option Int → Hp → VK → Prop:=fun x lo hi H Q => match x with
 | .str z => z.length ≤ sizeLine ∧ Q (.str (Txt.slice z lo hi)) H
 | .ref p => (match rdL H p with | some xs => ∀ r,H r = none → Q (.ref r) (upd H r (.lst (gR xs lo hi))) | none => False)
 | _ => False
theorem dQC:SlR X mSl:=(sl_list.or cXG).imp fun _ _ _ _ _ q => by
 unfold mSl at q
 split at q
 · exact .inr ⟨_,rfl,q.1,q.2⟩
 · split at q
   · exact .inl ⟨_,_,rfl,aO (by assumption),q⟩
   · exact q.elim
 · exact q.elim
def qK (Q:Option Int → Hp → Prop):VK:=fun x H1 => match x with | .int i => Q (some i) H1 | _ => False
def bZ3 (t:TE):TO:=fun σ H Q => t σ H (qK Q)
variable {e:Expr} {te:TE}
theorem iD (h:PE X e te):PO X (some e) (bZ3 te):=by
 intro pins s σ H Q I hw
 rw [evalPart_some]
 refine thn (h pins s σ H _ I hw) fun u s1 ⟨x,H1,I1,r1,q1⟩ => ?_
 unfold qK at q1
 split at q1
 · obtain ⟨t,rfl⟩:=r1
   exact ⟨_,H1,I1,.int _ t,q1⟩
 · exact q1.elim
def uQ:List V → Hp → VK → Prop:=fun xs H Q => match xs with
 | [.str z] => z.length ≤ sizeLine ∧ Q (.int z.length) H
 | [.ref p] => (match rdL H p with
   | some xs => Q (.int xs.length) H
   | none => (match iW H p with | some xs => Q (.int xs.length) H | none => False))
 | _ => False
theorem eJ:CallR X (.builtin "len") uQ:=call_len.imp fun _ _ _ q => by
 unfold uQ at q
 split at q
 · exact ⟨_,_,rfl,⟨q.1,rfl⟩,q.2⟩
 · split at q
   · exact ⟨_,_,rfl,.inl ⟨_,aO (by assumption),rfl⟩,q⟩
   · split at q
     · exact ⟨_,_,rfl,.inr ⟨_,SqT.of (lN (by assumption)),rfl⟩,q⟩
     · exact q.elim
 · exact q.elim
def cXF:List V → Hp → VK → Prop:=fun xs H Q => match xs with | [.int i,.int j] => Q (.int (if j < i then j else i)) H | _ => False
theorem bZZ (hc:X.calm = true):CallR X (.builtin "min") cXF:=(zO hc).imp fun _ _ _ q => by
 unfold cXF at q
 split at q
 · exact ⟨_,_,rfl,q⟩
 · exact q.elim
def cQO:List V → Hp → VK → Prop:=fun xs H Q => match xs with | [.int i,.int j] => Q (.int (if j > i then j else i)) H | _ => False
theorem bZ6 (hc:X.calm = true):CallR X (.builtin "max") cQO:=(aQG hc).imp fun _ _ _ q => by
 unfold cQO at q
 split at q
 · exact ⟨_,_,rfl,q⟩
 · exact q.elim
def bQJ:List V → Hp → VK → Prop:=fun xs H Q => match xs with
 | [.int i] => Q (.int i) H
 | [.str x] => (match PySem.intText? x with | some n => x.length ≤ 640 ∧ Q (.int n) H | none => False)
 | _ => False
theorem bZ8:CallR X (.type "int") bQJ:=(call_int1.or nL).imp fun _ _ _ q => by
 unfold bQJ at q
 split at q
 · exact .inl (.inl ⟨_,rfl,q⟩)
 · split at q
   · exact .inr ⟨_,_,rfl,by assumption,q.1,q.2⟩
   · exact q.elim
 · exact q.elim
def xF:List V → Hp → VK → Prop:=fun xs H Q => match xs with
 | [.ref p] => (match rdL H p with
   | some ys => ∀ l,H l = none → Q (.ref l) (upd H l (.lst ys))
   | none => (match iW H p with | some ys => ∀ l,H l = none → Q (.ref l) (upd H l (.lst ys)) | none => False))
 | _ => False
theorem fB:CallR X (.type "list") xF:=call_list_of.imp fun _ _ _ q => by
 unfold xF at q
 split at q
 · split at q
   · exact ⟨_,_,rfl,.inl (aO (by assumption)),q⟩
   · split at q
     · exact ⟨_,_,rfl,.inr (SqT.of (lN (by assumption))),q⟩
     · exact q.elim
 · exact q.elim
def pS (T:String) (x:V) (H:Hp) (P:Prop):Prop:=match x with
 | .str _ => T = "str" ∧ P
 | .ref p => (match rdL H p with | some _ => T = "list" ∧ P | none => False)
 | _ => False
theorem sI {K:PySem.W.Frag} {T:String} {x:V} {H:Hp} {P:Prop} (q:pS T x H P):tyV K T x H ∧ P:=by
 unfold pS at q
 split at q
 · exact ⟨q.1,q.2⟩
 · split at q
   · exact ⟨.inl ⟨q.1,_,aO (by assumption)⟩,q.2⟩
   · exact q.elim
 · exact q.elim
def bZX (T:String) (r:V → List V → Hp → VK → Prop) (to:TE) (t:TA):TE:=fun σ H Q => to σ H fun x H1 => pS T x H1 (t σ H1 fun xs H2 => r x xs H2 Q)
variable {o:Expr} {es:List Expr} {to:TE} {t:TA} {name:Str} {apos cpos:Pos} {T id:String} {r:V → List V → Hp → VK → Prop}
theorem eX (pa:PlainAttrs T) (slot:Slot T name id) (hty:typeOf (.builtin id) = pure (.type "method_descriptor")) (hm:MtR X id r) (ho:PE X o to) (ha:PA X (e :: es) t)
   (hbase:attributeBase o name X.env (eval o X.env) = eval o X.env:=by rfl)
   (hfew:((backTo cpos (starEach (e :: es) X.env)).all (fun x => !x.1) && (backToKw cpos (keywordEach [] X.env)).all (fun x => x.1.isSome)
     && decide ((e :: es).length + ([]:List Keyword).length + (if ([]:List Keyword).isEmpty then 0 else 1) < 30)) = true:=by rfl)
   (hline:(apos.endLine == cpos.line) = true:=by rfl) (hs:starEach (e :: es) X.env = (false,eval e X.env) :: starEach es X.env:=by rfl) (hplain:(backTo cpos (starEach es X.env)).any (·.1) = false:=by rfl) :
   PE X (.Call (.Attribute o name apos) (e :: es) [] cpos) (bZX T r to t):=by
 intro pins s σ H Q I h
 refine wpAny_Call_method_late hbase hfew hline rfl (thn (ho pins s σ H _ I h) fun v s1 ⟨x,H1,I1,r1,q⟩ => ?_)
 obtain ⟨ty,q1⟩:=sI (K:=X.K) q
 obtain ⟨h1,h2⟩:=aZ4 I1 r1 ty
 refine ⟨T,id,pa,slot,hty,h1,h2,?_⟩
 have hA:=ha cpos pins s1 σ H1 _ I1 q1
 rw [hs] at hA ⊢
 refine Gb (by show (false || (backTo cpos (starEach es X.env)).any (·.1)) = false; rw [hplain] <;> rfl) (Calls.evalArgs_plain ?_)
 exact thn hA fun us s2 ⟨vs,H2,I2,r2,q2⟩ => hm pins s2 σ H2 x vs v us Q I2 r1 r2 q2
def bQY:V → List V → Hp → VK → Prop:=fun x vs H Q => match x,vs with
 | .ref l,[y] => (match eT H l with | some xs => xs.length < sizeLine ∧ Q .non (upd H l (.lst (xs ++ [y]))) | none => False)
 | _,_ => False
theorem vT:MtR X "list.append" bQY:=MtR.imp (r:=xB) oB fun _ _ _ _ q => by
 unfold bQY at q
 split at q
 · split at q
   · exact ⟨_,_,_,rfl,rfl,hZ (by assumption),q.1,q.2⟩
   · exact q.elim
 · exact q.elim
def qH:V → List V → Hp → VK → Prop:=fun x vs H Q => match x,vs with
 | .str z,[.str y] => (match Builtin.Str.occurrences z y 0 z.length 1 with | i :: _ => Q (.int ((i:Nat):Int)) H | [] => False)
 | _,_ => False
theorem bZD:MtR X "str.index" qH:=mt_index.imp fun _ _ _ _ q => by
 unfold qH at q
 split at q
 · split at q
   · exact ⟨_,_,_,_,rfl,rfl,by assumption,q⟩
   · exact q.elim
 · exact q.elim
def tyN (x:V) (H:Hp):Option String:=match x with
 | .non => some "NoneType"
 | .bl _ => some "bool"
 | .int _ => some "int"
 | .str _ => some "str"
 | .ref p => (match H p with
   | some (.lst _) => some "list"
   | some (.frz _ (.lst _)) => some "list"
   | some (.tup _) => some "tuple"
   | some (.dK _) => some "dict"
   | _ => none)
 | _ => none
theorem cQ2 {K:PySem.W.Frag} {x:V} {H:Hp} {t:String} (h:tyN x H = some t):TyOf K H x (.type t):=by
 unfold tyN at h
 split at h
 · cases h; exact .non
 · cases h; exact .bl _
 · cases h; exact .int _
 · cases h; exact .str _
 · split at h
   · cases h; exact .lst (by assumption)
   · cases h; exact .frz (by assumption)
   · cases h; exact .tup (by assumption)
   · cases h; exact .dK (by assumption)
   · cases h
 · cases h
def cZY (t T:String):Bool:=decide (t = T) || (decide (t = "bool") && decide (T = "int"))
def cXE (t T:String):Bool:=["NoneType", "bool", "int", "str", "list", "tuple", "dict"].contains t && ["bool", "int", "str", "list", "tuple", "dict"].contains T
def aQA (t T:String):Option Bool:=bif cXE t T then some (cZY t T) else none
theorem bXJ {K:PySem.W.Frag}:∀ t ∈ ["NoneType", "bool", "int", "str", "list", "tuple", "dict"],∀ T ∈ ["bool", "int", "str", "list", "tuple", "dict"],PySem.W.kitOne K (.type t) (.type T) = some (cZY t T):=by
 simp only [List.forall_mem_cons,List.not_mem_nil,false_implies,implies_true,and_true]
 refine ⟨⟨rfl,rfl,rfl,rfl,rfl,rfl⟩,⟨rfl,rfl,rfl,rfl,rfl,rfl⟩,⟨rfl,rfl,rfl,rfl,rfl,rfl⟩,⟨rfl,rfl,rfl,rfl,rfl,rfl⟩,⟨rfl,rfl,rfl,rfl,rfl,rfl⟩,⟨rfl,rfl,rfl,rfl,rfl,rfl⟩,⟨rfl,rfl,rfl,rfl,rfl,rfl⟩⟩
theorem aZD {K:PySem.W.Frag} {t T:String} {b:Bool} (h:aQA t T = some b):PySem.W.kitOne K (.type t) (.type T) = some b:=by
 unfold aQA at h
 cases hn:cXE t T with
 | false => rw [hn] at h; cases h
 | true =>
   rw [hn] at h; cases h
   unfold cXE at hn; rw [Cg] at hn
   exact bXJ t (List.contains_iff_mem.mp hn.1) T (List.contains_iff_mem.mp hn.2)
def bQ1:List V → Hp → VK → Prop:=fun xs H Q => match xs with
 | [x,.ty T] => (match tyN x H with
   | some t => (match aQA t T with | some b => Q (.bl b) H | none => False)
   | none => False)
 | _ => False
theorem lD:CallR X (.builtin "isinstance") bQ1:=call_isinst.imp fun _ _ _ q => by
 unfold bQ1 at q
 split at q
 · split at q
   · split at q
     · exact ⟨_,_,_,_,rfl,cQ2 (by assumption),aZD (by assumption),q⟩
     · exact q.elim
   · exact q.elim
 · exact q.elim
end
end L2
namespace L2
open PySem PySem.Spec PyProof.Rows
def sS (R:Str → Hp → Prop):VK:=fun x H => match x with | .str z => R z H | _ => False
theorem aX6 {R:Str → Hp → Prop} {x:V} {H:Hp} (q:sS R x H):∃ z,x = .str z ∧ R z H:=by
 unfold sS at q
 split at q
 · exact ⟨_,rfl,q⟩
 · exact q.elim
def onL (o:Option (List V)) (P:Prop):Prop:=match o with | some _ => P | none => False
def eY (R:Addr → Hp → Prop):VK:=fun x H => match x with | .ref a => R a H | _ => False
theorem aZY {R:Addr → Hp → Prop} {x:V} {H:Hp} (q:eY R x H):∃ a,x = .ref a ∧ R a H:=by
 unfold eY at q
 split at q
 · exact ⟨_,rfl,q⟩
 · exact q.elim
section
variable {X:Cx} {tg l a b:Expr} {tl ta tb:TE} {p pos:Pos}
def cZP (tl:TE):TI:=fun σ H R => tl σ H (sS fun z H1 => R (Its z) H1)
theorem mL (hl:PE X l tl):PI X tg l (cZP tl):=by
 intro pins s σ H R I h
 refine thn (hl pins s σ H _ I h) fun v s1 ⟨x,H1,I1,r1,q1⟩ => ?_
 obtain ⟨z,rfl,q⟩:=aX6 q1
 obtain ⟨t,rfl⟩:=r1
 have fb:∀ b ∈ [s1.heap.objs.size],iF X pins H1 b:=fun b hb => by
   have e:b = s1.heap.objs.size:=by simpa using hb
   subst e
   exact I1.fpOk (Ai _) (I1.hok.fresh (Ai _))
 cases ha:z.cps.all (· < 128)
 · refine wpAny_pyIter_wide ha ?_
   exact ⟨s1.heap.objs.size,[s1.heap.objs.size],_,_,H1,rfl,I1.kept (t':=s1.toks) fun b o e => Ae _ e,yI z t _,⟨_,Ar _ rfl,rfl,rfl⟩,fb,q⟩
 · refine wpAny_pyIter_ascii ha ?_
   exact ⟨s1.heap.objs.size,[s1.heap.objs.size],_,_,H1,rfl,I1.kept (t':=s1.toks) fun b o e => Ae _ e,tS z t _,⟨_,Ar _ rfl,rfl,rfl⟩,fb,q⟩
def bZQ (K:PySem.W.Frag) (tl:TE):TI:=fun σ H R => tl σ H (eY fun a H1 => onL (rdL H1 a) (R (Itl K a) H1))
theorem bV (hl:PE X l tl):PI X tg l (bZQ X.K tl):=by
 intro pins s σ H R I h
 refine thn (hl pins s σ H _ I h) fun v s1 ⟨x,H1,I1,r1,q1⟩ => ?_
 obtain ⟨a,rfl,q⟩:=aZY q1
 cases r1
 unfold onL at q
 split at q
 · rename_i xs e
   obtain ⟨its,rv,p,hz⟩:=I1.list (aO e)
   refine Gc p.isList ?_
   refine ⟨s1.heap.objs.size,[s1.heap.objs.size],_,_,H1,rfl,I1.kept (t':=s1.toks) fun b o e => Ae _ e,yJ a _,⟨_,Ar _ rfl,rfl,rfl⟩,fun b hb => ?_,q⟩
   have e:b = s1.heap.objs.size:=by simpa using hb
   subst e
   exact I1.fpOk (Ai _) (I1.hok.fresh (Ai _))
 · exact q.elim
def aJU (R:Int → Hp → Prop):List V → Hp → Prop:=fun vs H => match vs with | [.int j] => R j H | _ => False
theorem bQZ {R:Int → Hp → Prop} {vs:List V} {H:Hp} (q:aJU R vs H):∃ j,vs = [.int j] ∧ R j H:=by
 unfold aJU at q
 split at q
 · exact ⟨_,rfl,q⟩
 · exact q.elim
def aZN (R:Int → Int → Hp → Prop):List V → Hp → Prop:=fun vs H => match vs with | [.int i,.int j] => R i j H | _ => False
theorem aJX {R:Int → Int → Hp → Prop} {vs:List V} {H:Hp} (q:aZN R vs H):∃ i j,vs = [.int i,.int j] ∧ R i j H:=by
 unfold aZN at q
 split at q
 · exact ⟨_,_,rfl,q⟩
 · exact q.elim
def bZ4 (ta:TA):TI:=fun σ H R => ta σ H (aJU fun j H1 => (-(2 ^ 62) ≤ j ∧ j < 2 ^ 62) ∧ R (Itr 0 j.toNat) H1)
def bZF (ta:TA):TI:=fun σ H R => ta σ H (aZN fun i j H1 => (-(2 ^ 62) ≤ i ∧ i < 2 ^ 62 ∧ -(2 ^ 62) ≤ j ∧ j < 2 ^ 62) ∧ R (Itr i (j - i).toNat) H1)
theorem iB {ta:TA} (hg:Gl X "range") (hm:X.mg "range" = none) (ha:PA X [a] ta) (hs:starEach [a] X.env = [(false,eval a X.env)]:=by rfl):PI X tg (.Call (.Name "range" p) [a] [] pos) (bZ4 ta):=by
 intro pins s σ H R I h
 refine Call_ (gG I hg hm boot_range (Co (thn (ha pos pins s σ H _ I h) fun us s1 ⟨vs,H1,I1,r1,q1⟩ => ?_) hs rfl))
 obtain ⟨j,e,⟨b1,b2⟩,q⟩:=bQZ q1
 subst e
 cases r1 with
 | cons r rr =>
   cases rr
   obtain ⟨t,rfl⟩:=r
   exact call_range_1 (sU I1 (by omega) (by omega) b1 b2 (by simpa using q))
theorem pJ {ta:TA} (hg:Gl X "range") (hm:X.mg "range" = none) (ha:PA X [a,b] ta) (hs:starEach [a,b] X.env = [(false,eval a X.env),(false,eval b X.env)]:=by rfl) (hs2:starEach [b] X.env = [(false,eval b X.env)]:=by rfl) :
   PI X tg (.Call (.Name "range" p) [a,b] [] pos) (bZF ta):=by
 intro pins s σ H R I h
 refine Call_ (gG I hg hm boot_range (Co (thn (ha pos pins s σ H _ I h) fun us s1 ⟨vs,H1,I1,r1,q1⟩ => ?_) (by rw [hs,hs2]) (by rw [hs2]; rfl)))
 obtain ⟨i,j,e,⟨b1,b2,b3,b4⟩,q⟩:=aJX q1
 subst e
 cases r1 with
 | cons r rr =>
   cases rr with
   | cons r' rr =>
     cases rr
     obtain ⟨t,rfl⟩:=r
     obtain ⟨t',rfl⟩:=r'
     exact call_range_2 (sU I1 b1 b2 b3 b4 q)
def qP (J:It) (g:TG) (tb:TS) (D:Ends) (σ:St) (H1:Hp):Prop:=∃ W:Nat → Nat → St → Hp → Prop,(∃ m,W 0 m σ H1) ∧ ∀ i m σ H,W i m σ H →
 (J.stop i H ∧ D.nx σ H) ∨ (J.go i H ∧ ∃ N:St → Hp → Prop,(∀ σ' H',N σ' H' → ∃ m',m' < m ∧ W (i + 1) m' σ' H') ∧ ∀ x H',J.yld i H x H' → g x σ H' fun σ2 H2 => tb { D with nx:=N,ct:=N,bk:=D.nx } σ2 H2)
def bZH (wi:TI) (g:TG) (tb:TS):TS:=fun D σ H => wi σ H fun J H1 => qP J g tb D σ H1
theorem bZ {iter:Expr} {body:List Stmt} {wi:TI} {g:TG} {tb:TS} (hp:PassesOwn (model X.prog X.w) X.A X.env X.xe) (hc:X.calm = true) (hi:PI X tg iter wi) (hg:PG X tg g) (hb:PSs X body tb)
   (hs:∀ x,foldedSetIterable iter X.env x = pure x:=by intro _; rfl):PS X (.For tg iter body [] pos) (bZH wi g tb):=cQU (wi:=wi) hp hc hi hg hb hs
section
variable {K:PySem.W.Frag} {c:Addr} {xs:List V} {z:Str} {lo:Int} {n:Nat} {g:TG} {tb:TS} {D:Ends} {σ:St} {H:Hp}
theorem eF (Pv:Nat → St → Hp → Prop) (h0:Pv 0 σ H) (hl:∀ i σ H,i ≤ xs.length → Pv i σ H → rdL H c = some xs)
   (hs:∀ i x σ H,xs[i]? = some x → Pv i σ H → g x σ H fun σ2 H2 => tb { D with nx:=Pv (i + 1),ct:=Pv (i + 1),bk:=D.nx } σ2 H2) (hd:∀ σ H,Pv xs.length σ H → D.nx σ H):qP (Itl K c) g tb D σ H :=
 aZR Pv h0 (fun i σ H hi p => aO (hl i σ H hi p)) hs hd
theorem aQK (Pv:Nat → St → Hp → Prop) (h0:Pv 0 σ H)
   (hs:∀ i c σ H,z.cps.toList[i]? = some c → Pv i σ H → g (.str ⟨#[c]⟩) σ H fun σ2 H2 => tb { D with nx:=Pv (i + 1),ct:=Pv (i + 1),bk:=D.nx } σ2 H2) (hd:∀ σ H,Pv z.cps.toList.length σ H → D.nx σ H):qP (Its z) g tb D σ H :=
 bQU Pv h0 hs hd
theorem gK (Pv:Nat → St → Hp → Prop) (h0:Pv 0 σ H)
   (hs:∀ i σ H,i < n → Pv i σ H → g (.int (lo + i)) σ H fun σ2 H2 => tb { D with nx:=Pv (i + 1),ct:=Pv (i + 1),bk:=D.nx } σ2 H2) (hd:∀ σ H,Pv n σ H → D.nx σ H):qP (Itr lo n) g tb D σ H :=
 xZ Pv h0 hs hd
end
theorem gJ {x:Str} {T:String} (hg:Gl X x) (hm:X.mg x = none) (hv:bootBuiltins x = some (.type T)) (hn:x ≠ "__name__" := by decide) (hd:(x == ("__debug__" : Str)) = false:=by decide):PE X (.Name x pos) (tC (.ty T)):=bZE hg hm hv rfl hn hd
end
end L2
set_option maxHeartbeats 4000000
namespace L2
open PySem PySem.Spec PyProof.Rows
section
variable {K:PySem.W.Frag} {σ:St} {H:Hp} {Q:VK} {QB:Bool → Hp → Prop} {QA:List V → Hp → Prop} {QO:Option Int → Hp → Prop} {D:Ends} {t u:TS} {te ta tb tc:TE} {tt tu:TT} {tA:TA} {r r':R2} {x y v:V} {i j:Int} {z z':Str} {p q:Addr} {xs ys vs:List V} {k n:Nat}
theorem cJE (h:t { D with nx:=u D } σ H):cQQ t u D σ H:=h
theorem cQY (h:D.nx σ H):bZS D σ H:=h
theorem dQU {c:TT} (h:c σ H fun b H1 => if b = true then t D σ H1 else u D σ H1):cZ8 c t u D σ H:=h
theorem cZ6 (h:te σ H D.rt):cZ1 te D σ H:=h
theorem cXI (h:te σ H fun _ H1 => D.nx σ H1):bZL te D σ H:=h
theorem cZB {g:TG} (h:te σ H fun x H1 => g x σ H1 D.nx):bX1 te g D σ H:=h
theorem cJM {wi:TI} {g:TG} {tb:TS} (h:wi σ H fun J H1 => qP J g tb D σ H1):bZH wi g tb D σ H:=h
theorem lL {QS:St → Hp → Prop} (h:QS (σ.set k (some v)) H):oH k v σ H QS:=h
theorem cJK (e:σ[k]? = some (some v)) (h:Q v H):bXN k σ H Q:=by unfold bXN; rw [e]; exact h
theorem s_c (h:Q v H):tC v σ H Q:=h
theorem dQQ (h:ta σ H fun x H1 => tb σ H1 fun y H2 => r x y H2 Q):tOp r ta tb σ H Q:=h
theorem cJF (h:QA [] H):cJU σ H QA:=h
theorem cQ8 {tr:TA} (h:ta σ H fun x H1 => tr σ H1 fun xs H2 => QA (x :: xs) H2):bZM ta tr σ H QA:=h
theorem cJT (h:tA σ H fun xs H1 => xs.length ≤ sizeLine ∧ ∀ p,H1 p = none → Q (.ref p) (upd H1 p (.lst xs))):cJB tA σ H Q:=h
theorem cZK (h:tA σ H fun xs H1 => xs.length ≤ sizeLine ∧ ∀ p,H1 p = none → Q (.ref p) (upd H1 p (.tup xs))):cJV tA σ H Q:=h
theorem bJZ {sp:Sp} {E:XK} (h:tA σ H fun vs H1 => sp (vs ++ []) H1 Q E):aJW sp [] E tA σ H Q:=h
theorem dQX {rc:List V → Hp → VK → Prop} (h:tA σ H fun vs H1 => rc vs H1 Q):tCB rc tA σ H Q:=h
theorem dQH {rs:V → Option Int → Option Int → Hp → VK → Prop} {tl th:TO} (h:te σ H fun x H1 => tl σ H1 fun l H2 => th σ H2 fun u H3 => rs x l u H3 Q):tSl rs te tl th σ H Q:=h
theorem aXW (h:QO none H):wO σ H QO:=h
theorem bJR (h:te σ H (qK QO)):bZ3 te σ H QO:=h
theorem aQQ (h:QO (some i) H):qK QO (.int i) H:=h
theorem cXQ {T:String} {rm:V → List V → Hp → VK → Prop} {to:TE} (h:to σ H fun x H1 => pS T x H1 (tA σ H1 fun xs H2 => rm x xs H2 Q)):bZX T rm to tA σ H Q:=h
theorem cX6 {P:Prop} (h:P):pS "str" (.str z) H P:=⟨rfl,h⟩
theorem cJS {P:Prop} (e:rdL H p = some xs) (h:P):pS "list" (.ref p) H P:=by unfold pS; simp only [e]; exact ⟨trivial,h⟩
theorem cXD (h:te σ H (mB QB)):bZG te σ H QB:=h
theorem aJ5 (h:te σ H (aQU QB)):aQM te σ H QB:=h
theorem dQ0 {b:Bool} (h:QB b H):mB QB (.bl b) H:=h
theorem bJU {b:Bool} (h:QB b H):aQU QB (.bl b) H:=h
theorem cZU (h:tt σ H fun c H1 => if c = true then tu σ H1 QB else QB false H1):cZW tt tu σ H QB:=h
theorem dQG (h:tt σ H fun c H1 => if c = true then QB true H1 else tu σ H1 QB):tOr tt tu σ H QB:=h
theorem cZE (h:tt σ H fun c H1 => QB (!c) H1):cJQ tt σ H QB:=h
theorem dQI {g:Int → Int → V} (h:Q (g i j) H):mI g (.int i) (.int j) H Q:=h
theorem cZR {C:Int → Int → Prop} {g:Int → Int → V} (c:C i j) (h:Q (g i j) H):mIC C g (.int i) (.int j) H Q:=⟨c,h⟩
theorem cQE (h:Q (.int (i + j)) H):xN (.int i) (.int j) H Q:=h
theorem cXV (c:z.length + z'.length ≤ sizeLine) (h:Q (.str (z ++ z')) H):xN (.str z) (.str z') H Q:=⟨c,h⟩
theorem mN (e:eT H p = some xs) (e':eT H q = some ys) (c:xs.length + ys.length ≤ sizeLine) (h:∀ r,H r = none → Q (.ref r) (upd H r (.lst (xs ++ ys)))):xN (.ref p) (.ref q) H Q:=by
 unfold xN; simp only [e,e']; exact ⟨c,h⟩
theorem cJN (h:Q (.bl (decide (i = j))) H):mEq (.int i) (.int j) H Q:=⟨rfl,by
 rw [show decide (V.int i = V.int j) = decide (i = j) by simp]; exact h⟩
theorem cJC (h:Q (.bl (decide (z = z'))) H):mEq (.str z) (.str z') H Q:=⟨rfl,by
 rw [show decide (V.str z = V.str z') = decide (z = z') by simp]; exact h⟩
theorem cZO (h:Q (.bl (!decide (i = j))) H):mNe (.int i) (.int j) H Q:=⟨rfl,by
 rw [show decide (V.int i = V.int j) = decide (i = j) by simp]; exact h⟩
theorem aJD {neg:Bool} (e:rdL H p = some xs) (e':rdL H q = some ys) (f:xs.all bF = true) (f':ys.all bF = true) (h:Q (.bl (if neg then !gQ xs ys else gQ xs ys)) H):zC neg (.ref p) (.ref q) H Q:=by
 unfold zC; simp only [e,e']; exact ⟨f,f',h⟩
theorem cJ8 (h:Q (.bl (decide (x = .non))) H):cQS x .non H Q:=h
theorem bJN (h:Q (.bl (!decide (x = .non))) H):aJK x .non H Q:=h
theorem aQ0 {neg:Bool} (e:rdL H p = some xs) (f:bF x = true) (f':xs.all bF = true) (h:Q (.bl (if neg then !inV x xs else inV x xs)) H):yE neg x (.ref p) H Q:=by
 unfold yE; simp only [e]; exact ⟨f,f',h⟩
theorem jK {c:Nat} (l:z.length ≤ sizeLine) (e:atI z.cps.toList i = some c) (h:Q (.str ⟨#[c]⟩) H):mIx (.str z) (.int i) H Q:=by
 unfold mIx; simp only [e]; exact ⟨l,h⟩
theorem dR (e:rdL H p = some xs) (e':atI xs i = some v) (h:Q v H):mIx (.ref p) (.int i) H Q:=by
 unfold mIx; simp only [e,e']; exact h
theorem cJ2 {lo hi:Option Int} (e:rdL H p = some xs) (h:∀ r,H r = none → Q (.ref r) (upd H r (.lst (gR xs lo hi)))):mSl (.ref p) lo hi H Q:=by
 unfold mSl; simp only [e]; exact h
theorem cQB (l:z.length ≤ sizeLine) (h:Q (.int z.length) H):uQ [.str z] H Q:=⟨l,h⟩
theorem bJM (e:rdL H p = some xs) (h:Q (.int xs.length) H):uQ [.ref p] H Q:=by unfold uQ; simp only [e]; exact h
theorem cZS (h:Q (.int (if j < i then j else i)) H):cXF [.int i,.int j] H Q:=h
theorem cZ0 (h:Q (.int (if j > i then j else i)) H):cQO [.int i,.int j] H Q:=h
theorem aZQ (e:PySem.intText? z = some i) (l:z.length ≤ 640) (h:Q (.int i) H):bQJ [.str z] H Q:=by unfold bQJ; simp only [e]; exact ⟨l,h⟩
theorem cQ9 (e:rdL H p = some xs) (h:∀ l,H l = none → Q (.ref l) (upd H l (.lst xs))):xF [.ref p] H Q:=by unfold xF; simp only [e]; exact h
theorem cJD (e:eT H p = some xs) (l:xs.length < sizeLine) (h:Q .non (upd H p (.lst (xs ++ [v])))):bQY (.ref p) [v] H Q:=by unfold bQY; simp only [e]; exact ⟨l,h⟩
theorem bQ2 {rest:List Nat} (e:Builtin.Str.occurrences z z' 0 z.length 1 = k :: rest) (h:Q (.int ((k:Nat):Int)) H):qH (.str z) [.str z'] H Q:=by unfold qH; simp only [e]; exact h
theorem cJL {T t:String} {b:Bool} (e:tyN x H = some t) (e':aQA t T = some b) (h:Q (.bl b) H):bQ1 [x,.ty T] H Q:=by
 unfold bQ1; simp only [e,e']; exact h
theorem bXC {tl:TE} {R:It → Hp → Prop} (h:tl σ H (eY fun a H1 => onL (rdL H1 a) (R (Itl K a) H1))):bZQ K tl σ H R:=h
theorem bQH {R:Addr → Hp → Prop} (h:R p H):eY R (.ref p) H:=h
theorem cJA {P:Prop} (e:rdL H p = some xs) (h:P):onL (rdL H p) P:=by unfold onL; simp only [e]; exact h
theorem cXJ {tl:TE} {R:It → Hp → Prop} (h:tl σ H (sS fun z H1 => R (Its z) H1)):cZP tl σ H R:=h
theorem aJ8 {R:Str → Hp → Prop} (h:R z H):sS R (.str z) H:=h
theorem bZB {R:It → Hp → Prop} (h:tA σ H (aJU fun j H1 => (-(2 ^ 62) ≤ j ∧ j < 2 ^ 62) ∧ R (Itr 0 j.toNat) H1)):bZ4 tA σ H R:=h
theorem aJ2 {R:It → Hp → Prop} (h:tA σ H (aZN fun i j H1 => (-(2 ^ 62) ≤ i ∧ i < 2 ^ 62 ∧ -(2 ^ 62) ≤ j ∧ j < 2 ^ 62) ∧ R (Itr i (j - i).toNat) H1)):bZF tA σ H R:=h
theorem bJG {R:Int → Hp → Prop} (h:R i H):aJU R [.int i] H:=h
theorem cXC {R:Int → Int → Hp → Prop} (h:R i j H):aZN R [.int i,.int j] H:=h
end
theorem uA {α:Type} {xs:List α} {i:Int} (h0:0 ≤ i) (h1:i < xs.length):∃ v,atI xs i = some v ∧ xs[i.toNat]? = some v:=by
 have hk:i.toNat < xs.length:=by omega
 have e:i = ((i.toNat:Nat):Int):=by omega
 have q:atI xs ((i.toNat:Nat):Int) = some xs[i.toNat]:=fQ (Aa hk)
 rw [← e] at q
 exact ⟨xs[i.toNat],q,Aa hk⟩
theorem bX {n:Nat} (h:n ≤ 100000):n ≤ sizeLine:=Ax h (by decide)
theorem aT {n:Nat} (h:n ≤ 100000):n < sizeLine:=Dz h (by decide)
end L2
namespace L2
open PySem PySem.Spec PyProof.Rows
def Cal (P:Program) (w:World) (K:PySem.W.Frag) (mg:Str → Option Value) (base:Heap) (k:Nat) (x:Str) (ps:List Str) (sp:Sp):Prop :=
 ∃ (f:Addr) (fd:FuncData),FnOk P w K mg base CX0 k f fd ps sp ∧ mg x = some (.ref f) ∧ PySem.W.keepIn K (.ref f) = true ∧ Binds K fd ps []
section
variable {X:Cx} {k k':Nat} {ps:List Str} {sp:Sp} {x:Str} {p pos:Pos} {e:Expr} {es:List Expr} {t:TA} {K:PySem.W.Frag} {H:Hp} {Q:VK} {xs:List V} {v:V} {i:Int} {a:Addr}
theorem bB (c:Cal X.prog X.w X.K X.mg X.base k x ps sp) (hr:Room k' X.A) (hk:k ≤ k') (hg:Gl X x)
   (ha:PA X (e :: es) t) (hdb:(x == ("__debug__" : Str)) = false:=by decide) (he:starEach (e :: es) X.env = (false,eval e X.env) :: starEach es X.env:=by rfl) (hpl:(backTo pos (starEach es X.env)).any (·.1) = false:=by rfl) :
   PE X (.Call (.Name x p) (e :: es) [] pos) (aJW sp [] E0 t):=by
 obtain ⟨f,fd,F,hm,hk',hb⟩:=c
 exact bQX F (hr.mono hk) hg hm hk' hb .nil cZC ha hdb he hpl
theorem qA {z:Str} (hg:Gl X x) (h:∃ t,X.mg x = some (.str z t)) (hd:(x == ("__debug__" : Str)) = false:=by decide):PE X (.Name x pos) (tC (.str z)):=by
 obtain ⟨t,h⟩:=h
 exact aJZ hg h ⟨t,rfl⟩ hd
theorem cZ9 {lo hi:Option Int} (e:SqL K H a xs) (h:∀ r,H r = none → Q (.ref r) (upd H r (.lst (gR xs lo hi)))):cZN K (.ref a) lo hi H Q:=⟨a,xs,rfl,e,h⟩
theorem cJO (e:SqL K H a xs) (e':atI xs i = some v) (h:Q v H):cQ0 K (.ref a) (.int i) H Q:=⟨a,xs,i,v,rfl,rfl,e,e',h⟩
end
end L2
namespace L2
open PySem PySem.Spec PyProof.Rows
theorem cH:bootBuiltins "len" = some (.builtin "len"):=by decide +kernel
theorem bW:bootBuiltins "isinstance" = some (.builtin "isinstance"):=by decide +kernel
theorem aJT:bootBuiltins "min" = some (.builtin "min"):=by decide +kernel
theorem aXT:bootBuiltins "max" = some (.builtin "max"):=by decide +kernel
theorem cQK:bootBuiltins "sum" = some (.builtin "sum"):=by decide +kernel
theorem pM:bootBuiltins "sorted" = some (.builtin "sorted"):=by decide +kernel
theorem vQ:bootBuiltins "bool" = some (.type "bool"):=by decide +kernel
theorem uN:bootBuiltins "int" = some (.type "int"):=by decide +kernel
theorem cE:bootBuiltins "list" = some (.type "list"):=by decide +kernel
theorem rE:bootBuiltins "tuple" = some (.type "tuple"):=by decide +kernel
theorem bQD:bootBuiltins "dict" = some (.type "dict"):=by decide +kernel
theorem jQ:bootBuiltins "range" = some (.type "range"):=by decide +kernel
end L2
namespace L2
theorem cZX {A B:Prop} (h:B):if (!true) = true then A else B:=h
end L2
namespace L2
open PySem PySem.Spec PyProof.Rows
end L2
set_option maxHeartbeats 4000000
namespace L2
open PySem PySem.Spec PyProof.Rows
theorem uV {prog:Program} {w:World} {A:Around} {R:Result → Shared → Prop} {s:Shared} {elt target iter:Expr} {ifs:List Expr} {scope:Scope} {pos:Pos} {it acc:Value} {env:Env} (I:Nat → Shared → Prop)
   (turn:∀ n s,I n s → wpAny (model prog w) A (pyNext it) (fun r s₁ => match r with
     | none => R (.ok .next) s₁
     | some v => wpAny (model prog w) A (letOwnedTupleGo target it v) (fun _ s₁' => wpAny (model prog w) A (assign target env v) (fun _ s₂ =>
         wpAny (model prog w) A (forIn ifs true fun c r => if r = true then do let ok ← isTrue c env (eval c env); pure (ForInStep.yield ok) else pure (ForInStep.yield r)) (fun ok s₃ =>
           if ok = true then wpAny (model prog w) A (eval elt env) (fun x s₄ =>
             wpAny (model prog w) A (call (.builtin "list.append") [acc,x]) (fun _ s₅ => ∃ m,m < n ∧ I m s₅) (fun _ _ => False) s₄) (fun _ _ => False) s₃
           else ∃ m,m < n ∧ I m s₃) (fun _ _ => False) s₂) (fun _ _ => False) s₁') (fun _ _ => False) s₁) (fun _ _ => False) s)
   (n:Nat) (h:I n s) :
   codeAny (model prog w) A (.compLoop (.ListComp elt [⟨target,iter,ifs,0⟩] scope pos) 0 it acc env) R s:=by
 refine codeAny_loop rfl I (fun n s hI => ?_) n h
 show wpAny _ A ((compTurn (.ListComp elt [⟨target,iter,ifs,0⟩] scope pos) 0 it acc env).onRaise (fun x => do noteFrame x env; theTreesLotGoes x)) _ _ s
 refine wpAny_noted ?_
 rw [compTurn_list]
 refine Ac (wpAny_standAt (Ac (Bv (turn n s hI) (fun r s₁ h₁ => ?_) fun _ _ h' => h'.elim)))
 cases r with
 | none => exact Ah h₁
 | some v =>
   refine Ac (Bv h₁ (fun _ s₁' h₁' => ?_) fun _ _ h' => h'.elim)
   refine Ac (Bv h₁' (fun _ s₂ h₂ => Ac (Bv h₂ (fun ok s₃ h₃ => ?_) fun _ _ h' => h'.elim)) fun _ _ h' => h'.elim)
   cases ok with
   | false => exact Ah ⟨rfl,h₃⟩
   | true =>
     exact Ac (Ac (Bv h₃ (fun x s₄ h₄ => Ac (Bv h₄ (fun _ s₅ h₅ => Ah (Ah ⟨rfl,h₅⟩)) fun _ _ h' => h'.elim)) fun _ _ h' => h'.elim))
def cxC (X:Cx) (N:List Str) (scope:Scope) (cl:List (Str × Addr)) (C:Addr) (s₀:Shared) (H₀:Hp) (ex:List Addr):Cx :=
 { prog:=X.prog,w:=X.w,K:=X.K,mg:=X.mg,base:=X.base,A:=X.A,N:=N,s₀:=s₀,H₀:=H₀,env:=compEnvC scope cl C X.env,outer:=X.stack,stack:=X.stack,ex:=ex,fn:=fun _ => false,calm:=X.calm,pn:=[],xe:=fun _ _ => False }
structure ClOk (X:Cx) (N:List Str) (scope:Scope) (cl:List (Str × Addr)) (vals:St → St):Prop where
 clos:closureFor scope X.env = pure cl
 sub:∀ x c,cl.lookup x = some c → X.env.cells.lookup x = some c
 has:∀ x,((relabel scope X.env).names.lookup x = some .cell ∨ (relabel scope X.env).names.lookup x = some .free) → ∃ c,cl.lookup x = some c
 len:∀ σ,(vals σ).length = N.length
 val:∀ σ (i:Nat) x v,N[i]? = some x → (vals σ)[i]? = some (some v) → ∃ (j:Nat),X.N[j]? = some x ∧ σ[j]? = some (some v) ∧ X.env.scope.names.lookup x = some .cell ∧ (∃ c,cl.lookup x = some c) ∧ (relabel scope X.env).names.lookup x = some .cell
def PF (X:Cx) (ifs:List Expr) (t:TT):Prop:=∀ (pins:List (Addr × Obj)) (s:Shared) (σ:St) (H:Hp) (Q:Bool → Hp → Prop),Inv X pins σ H s → t σ H Q →
 wpAny (model X.prog X.w) X.A (forIn ifs true fun c r => if r = true then do let ok ← isTrue c X.env (eval c X.env); pure (ForInStep.yield ok) else pure (ForInStep.yield r)) (TP X pins σ Q) X.xe s
def cZV:TT:=fun _ H Q => Q true H
theorem fD {X:Cx}:PF X [] cZV:=fun pins s σ H Q I q => wpAny_tests_nil ⟨H,I,q⟩
theorem iP {X:Cx} {c:Expr} {t:TT} (h:PT X c t):PF X [c] t:=fun pins s σ H Q I q => wpAny_tests_one (h pins s σ H Q I q)
section
variable {X:Cx} {pins:List (Addr × Obj)} {σ:St} {H2:Hp} {s2:Shared} {N:List Str} {scope:Scope} {cl:List (Str × Addr)} {vals:St → St} {C:Addr} {fp:List Addr}
theorem uL {h1:Heap} {t1:Nat} (I:Inv X pins σ H2 s2) (ck:ClOk X N scope cl vals) (hkind:scope.kind = .function) (hf:∀ b ∈ fp,iF X pins H2 b) (hlt:∀ b ∈ fp,b < s2.heap.objs.size)
   (hns:h1.Ns s2.heap.objs.size fun _ => none) (hsb:Heap.SameBut s2.heap.objs.size (s2.heap.push { cls:=.type "dict",data:=.dict #[] }) h1) :
   Inv (cxC X N scope cl s2.heap.objs.size s2 H2 fp) [] (vals σ) H2 { s2 with heap:=h1,toks:=t1 }:=by
 have old:∀ b o,s2.heap.get? b = some o → h1.get? b = some o:=fun b o e => (hsb.2 b (Bd (An e))).trans (Ae _ e)
 have hC:H2 s2.heap.objs.size = none:=I.hok.fresh (Ai _)
 refine ⟨⟨I.ok.mod,hkind,I.ok.glob,I.ok.blt,Ai _,fun x y c h1 h2 => I.ok.inj x y c (ck.sub x c h1) (ck.sub y c h2),ck.has,(fun x c h => nomatch h),I.ok.hd,I.ok.frames,.inl rfl,fun b hb => ⟨Bd (hlt b hb),fun x c e => (hf b hb).2.2.2.2.1 x c (ck.sub x c e)⟩,
   I.bs,Nat.le_trans I.ok.bsz I.sz,fun b o e hb => ?_,fun b hb hs => ?_,I.stack,I.stkFree⟩,rfl,I.bare,Un.kept old,⟨_,hns,fun i x v e1 e2 _ => ?_⟩,fun x c e => ?_,hC,fun x c e => I.freeC x c (ck.sub x c e),fun p hp => absurd (show p ∈ ([]:List (Addr × Obj)) from hp) (by simp),I.hok.kept old,ck.len σ⟩
 · rcases (hf b hb).2.2.2.1 with z | z
   · exact I.ok.noex b o e z
   · exact absurd (Az (An e) (Ax I.ok.bsz z)) (Dn _)
 · rcases Bg.mp (I.stkSub b hs) with z | z
   · exact (hf b hb).2.1 z
   · exact (hf b hb).2.2.1 z
 · obtain ⟨j,h1,h2,h3,⟨c,h4⟩,h5⟩:=ck.val σ i x v e1 e2
   obtain ⟨m,hn,hl⟩:=I.loc
   obtain ⟨u,r,l⟩:=hl j x v h1 h2 (.inr (.inl h3))
   refine ⟨u,r,.inr ⟨.inl h5,c,h4,?_⟩⟩
   rcases l with ⟨z,_⟩ | ⟨_,c',e',z⟩
   · have z':X.env.scope.names.lookup x = some .local:=z
     rw [h3] at z'; cases z'
   · rw [ck.sub x c h4] at e'
     cases e'
     obtain ⟨o,ho,hd⟩:=z
     exact ⟨o,old _ o ho,hd⟩
 · obtain ⟨v,o,ho,hd⟩:=I.cell x c (ck.sub x c e)
   exact ⟨v,o,old _ o ho,hd⟩
theorem zH {σ':St} {H':Hp} {s':Shared} {h'':Heap} {pins':List (Addr × Obj)} (I:Inv X pins σ H2 s2) (hf:∀ b ∈ fp,iF X pins H2 b)
   (I':Inv (cxC X N scope cl s2.heap.objs.size s2 H2 fp) pins' σ' H' s') (hsb:Heap.SameBut s2.heap.objs.size s'.heap h''):Inv X pins σ H' { s' with heap:=h'' }:=by
 have u1:Un (frs X.stack) (s2.heap.objs.size :: fp) H2 H' s2.heap s'.heap:=I'.base.mono (fun _ z => z) fun b z => Al _ z
 have hC:H' s2.heap.objs.size = none:=I'.free
 have k:∀ b o,b ≠ s2.heap.objs.size → s'.heap.get? b = some o → h''.get? b = some o:=fun b o hb e => (hsb.2 b hb).trans e
 have u2:Un (frs X.stack) (s2.heap.objs.size :: fp) H' H' s'.heap h'':=⟨fun b o e _ _ hx => k b o (fun z => hx (by simp [z])) e,fun b o e _ _ hx => ⟨o.slots,k b o (fun z => hx (by simp [z])) e⟩,fun _ _ _ n _ => n,
   fun b o e hx => ⟨o,k b o (fun z => hx (by simp [z])) e⟩,fun _ _ e => e,fun _ _ _ e => e,fun b ps e => ⟨#[],by rw [e]; simp⟩⟩
 have hok:HOk X.prog X.w H' h'':=fun b u e => by
   have nC:∀ c v,H' c = some v → c ≠ s2.heap.objs.size:=fun c v e z => by rw [z,hC] at e; cases e
   refine (I'.hok b u e).stay (fun c v hc q => k c v ?_ q) (fun _ q => q) fun _ _ q => q
   rcases hc with z | z
   · rw [z]; exact nC b u e
   · exact nC c _ z
 refine I.call' (s':={ s' with heap:=h'' }) (ch:=s2.heap.objs.size :: fp) I'.os (u1.trans u2) hok I'.bare fun b hb => ?_
 have q:iF X pins H2 b:=by
   rcases Bg.mp hb with z | z
   · subst z; exact I.fpOk (Ai _) (I.hok.fresh (Ai _))
   · exact hf b z
 exact ⟨q.2.2.2.1,q.2.1,q.2.2.2.2.1,q.2.2.2.2.2⟩
end
def Wk (σ0 σ:St):Prop:=σ0.length = σ.length ∧ ∀ (i:Nat) v,σ0[i]? = some (some v) → σ[i]? = some (some v)
theorem Wk.refl (σ:St):Wk σ σ:=⟨rfl,fun _ _ h => h⟩
theorem Wk.set {σ0 σ:St} {k:Nat} {v:V} (h:σ0[k]? = some none) (w:Wk σ0 σ):Wk σ0 (σ.set k (some v)):=by
 refine ⟨by rw [List.length_set]; exact w.1,fun i u e => ?_⟩
 have ne:k ≠ i:=fun z => by subst z; rw [h] at e; cases e
 rw [Fa ne]
 exact w.2 i u e
def eM (g:TG) (tests:TT) (te:TE) (σ0:St) (Q:VK) (J:It) (H1:Hp):Prop:=∀ D,H1 D = none → ∃ W:Nat → Nat → Hp → Prop,(∃ m,W 0 m (upd H1 D (.lst []))) ∧ ∀ i m Hc,W i m Hc →
 (J.stop i Hc ∧ Q (.ref D) Hc) ∨ (J.go i Hc ∧ ∀ x H',J.yld i Hc x H' → g x σ0 H' fun σ2 H2 => Wk σ0 σ2 ∧ tests σ2 H2 fun b H3 => if b = true then
   te σ2 H3 fun y H4 => ∃ zs,H4 D = some (.lst zs) ∧ zs.length < sizeLine ∧ ∃ m',m' < m ∧ W (i + 1) m' (upd H4 D (.lst (zs ++ [y]))) else ∃ m',m' < m ∧ W (i + 1) m' H3)
def aQ4 (wi:TI) (g:TG) (tests:TT) (te:TE) (vals:St → St):TE:=fun σ H Q => wi σ H fun J H1 => eM g tests te (vals σ) Q J H1
theorem rZ {X:Cx} {pins:List (Addr × Obj)} {σ:St} {H2:Hp} {s2:Shared} {N:List Str} {scope:Scope} {cl:List (Str × Addr)} {vals:St → St} {fp:List Addr} {it:Addr} {tn:Nat → Heap → Prop} {J:It} {tg elt iter:Expr} {ifs:List Expr} {pos:Pos}
   {g:TG} {tests:TT} {te:TE} {Q:VK} {E:Value → Shared → Prop} {RR:Value → Addr → Result → Shared → Prop} (I2:Inv X pins σ H2 s2) (T:Turn X.prog X.w X.K tg J fp it tn) (st2:tn 0 s2.heap) (f2:∀ b ∈ fp,iF X pins H2 b) (hc:X.calm = true)
   (ck:ClOk X N scope cl vals) (hcell:∀ y ∈ scope.names,y.2 ≠ .cell) (hkind:scope.kind = .function)
   (hg:∀ C s₀ H₀ ex,PG (cxC X N scope cl C s₀ H₀ ex) tg g) (ht:∀ C s₀ H₀ ex,PF (cxC X N scope cl C s₀ H₀ ex) ifs tests) (he:∀ C s₀ H₀ ex,PE (cxC X N scope cl C s₀ H₀ ex) elt te)
   (h:eM g tests te (vals σ) Q J H2)
   (hRR:∀ D C s' H' m,s'.heap.Ns C m → Q (.ref D) H' → (∀ h'',Heap.SameBut C s'.heap h'' → Inv X pins σ H' { s' with heap:=h'' }) → iF X pins H' C → RR (.ref D) C (.ok .next) s') :
   wpAny (model X.prog X.w) X.A (newList []) (fun acc s₃ => wpAny (model X.prog X.w) X.A (newFunctionEnv scope X.env.globals cl [] X.env.qual none .none (some X.env)) (fun cenv s₄ =>
     codeAny (model X.prog X.w) X.A (.compStart (.ListComp elt [⟨tg,iter,ifs,0⟩] scope pos) 0 (.ref it) acc { cenv with scope:=relabel scope X.env }) (RR acc cenv.locals) s₄) E s₃) E s2:=by
 have hD:H2 s2.heap.objs.size = none:=I2.hok.fresh (Ai _)
 obtain ⟨W,⟨m0,w0⟩,turn⟩:=h _ hD
 have hlt:∀ b ∈ fp,b < s2.heap.objs.size:=fun b hb => by
   obtain ⟨o,e,_⟩:=T.obj 0 _ st2 b hb
   exact An e
 refine Da ?_
 -- the list is laid
 have I3:Inv X pins σ (upd H2 s2.heap.objs.size (.lst [])) { s2 with heap:=s2.heap.push { cls:=.type "list",dict:=none,data:=.seq ([]:List Value).toArray } } :=
   I2.lnew (ys:=[]) (its:=[]) (t':=s2.toks) .nil (By _)
 have f3:∀ b ∈ fp,iF X pins (upd H2 s2.heap.objs.size (.lst [])) b:=fun b hb => ⟨by rw [aJ (Bd (hlt b hb))]; exact (f2 b hb).1,(f2 b hb).2⟩
 have st3:tn 0 (s2.heap.push { cls:=.type "list",dict:=none,data:=.seq ([]:List Value).toArray }):=T.keep _ _ _ st2 fun b _ o e => Ae _ e
 generalize hs3:({ s2 with heap:=s2.heap.push { cls:=.type "list",dict:=none,data:=.seq ([]:List Value).toArray } }:Shared) = s3 at I3 ⊢
 have e3:s3.heap = s2.heap.push { cls:=.type "list",dict:=none,data:=.seq ([]:List Value).toArray }:=by rw [← hs3]
 rw [← e3] at st3
 have hlt3:∀ b ∈ fp,b < s3.heap.objs.size:=fun b hb => by
   obtain ⟨o,e,_⟩:=T.obj 0 _ st3 b hb
   exact An e
 refine wpAny_newFunctionEnv hcell (by intro y hy; simp at hy) (fun h₁ hns₁ hsb₁ => ?_) hkind
 have hns:h₁.Ns s3.heap.objs.size fun _ => none:=hns₁
 have I4:=uL (t1:=s3.toks) I3 ck hkind f3 hlt3 hns hsb₁
 have old:∀ b o,s3.heap.get? b = some o → h₁.get? b = some o:=fun b o e => (hsb₁.2 b (Bd (An e))).trans (Ae _ e)
 have st4:tn 0 h₁:=T.keep _ _ _ st3 fun b _ o e => old b o e
 have loop:∀ s₄:Shared,s₄ = { s3 with heap:=h₁,toks:=s3.toks } →
     codeAny (model X.prog X.w) X.A (.compLoop (.ListComp elt [⟨tg,iter,ifs,0⟩] scope pos) 0 (.ref it) (.ref s2.heap.objs.size) (compEnvC scope cl s3.heap.objs.size X.env))
       (RR (.ref s2.heap.objs.size) s3.heap.objs.size) s₄:=by
   rintro s₄ rfl
   have fpX:∀ {H':Hp},(∀ b ∈ fp,H' b = none) → ∀ b ∈ fp,iF (cxC X N scope cl s3.heap.objs.size s3 (upd H2 s2.heap.objs.size (.lst [])) fp) [] H' b:=fun hn b hb =>
     ⟨hn b hb,Nat.ne_of_lt (hlt3 b hb),fun hs => I4.ok.exfs b hb hs,.inl hb,fun x c e => (I4.ok.exf b hb).2 x c e,fun p hp => absurd (show p ∈ ([]:List (Addr × Obj)) from hp) (by simp)⟩
   refine uV (fun n s' => ∃ i H',Inv (cxC X N scope cl s3.heap.objs.size s3 (upd H2 s2.heap.objs.size (.lst [])) fp) [] (vals σ) H' s' ∧ tn i s'.heap ∧ (∀ b ∈ fp,H' b = none) ∧ W i n H') ?_ m0
     ⟨0,_,I4,st4,fun b hb => (f3 b hb).1,w0⟩
   rintro n s5 ⟨i,H5,I5,st5,fr5,w5⟩
   rcases turn i n H5 w5 with ⟨stop,q⟩ | ⟨go,step⟩
   · refine thn (T.done (cxC X N scope cl s3.heap.objs.size s3 (upd H2 s2.heap.objs.size (.lst [])) fp) rfl rfl rfl hc i [] s5 (vals σ) H5 (fun _ _ => False) I5 (fpX fr5) st5 stop) fun r s6 ⟨hr,I6⟩ => ?_
     subst hr
     obtain ⟨m,hn,_⟩:=id I6.loc
     exact hRR _ _ s6 H5 m hn q (fun h'' hsb => zH I3 f3 I6 hsb) (I3.fpOk (Ai _) I6.free)
   · refine thn (T.item (cxC X N scope cl s3.heap.objs.size s3 (upd H2 s2.heap.objs.size (.lst [])) fp) rfl rfl rfl hc i [] s5 (vals σ) H5 (fun _ _ => False) I5 (fpX fr5) st5 go) fun r s6 ⟨u,hr,h6⟩ => ?_
     subst hr
     refine thn h6 fun _ s7 ⟨x,H7,I7,r7,y7,st7,fr7⟩ => ?_
     have I7':=I7.pinned (fpX fr7) (T.obj _ _ st7)
     refine thn (hg _ _ _ _ _ s7 (vals σ) H7 x u _ I7' r7 (step x H7 y7)) fun _ s8 ⟨σ8,H8,I8,wk8,q8⟩ => ?_
     refine thn (ht _ _ _ _ _ s8 σ8 H8 _ I8 q8) fun b s9 ⟨H9,I9,q9⟩ => ?_
     have again:∀ {m':Nat} {s':Shared} {H':Hp},Inv (cxC X N scope cl s3.heap.objs.size s3 (upd H2 s2.heap.objs.size (.lst [])) fp) ([] ++ kO fp s7.heap) σ8 H' s' → m' < n → W (i + 1) m' H' →
         ∃ m,m < n ∧ ∃ i H',Inv (cxC X N scope cl s3.heap.objs.size s3 (upd H2 s2.heap.objs.size (.lst [])) fp) [] (vals σ) H' s' ∧ tn i s'.heap ∧ (∀ b ∈ fp,H' b = none) ∧ W i m H':=fun {m' s' H'} J7 hm w7 => by
       refine ⟨m',hm,i + 1,H',(J7.weak wk8.1 wk8.2).unpinned,T.keep _ _ _ st7 fun b hb o e => (J7.pin (b,o) (Bm _ (Bm _ (fS hb e)))).1,fun b hb => ?_,w7⟩
       obtain ⟨o,e,d⟩:=T.obj _ _ st7 b hb
       exact (J7.pin (b,o) (Bm _ (Bm _ (fS hb e)))).2.1
     cases b with
     | true =>
       rw [if_pos rfl] at q9 ⊢
       refine thn (he _ _ _ _ _ s9 σ8 H9 _ I9 q9) fun v s10 ⟨y,H10,I10,r10,zs,hz,hl,m',hm,w10⟩ => ?_
       have ap:=oB ([] ++ kO fp s7.heap) s10 σ8 H10 (.ref s2.heap.objs.size) [y] (.ref s2.heap.objs.size) [v] (fun _ H' => H' = upd H10 s2.heap.objs.size (.lst (zs ++ [y]))) I10 rfl (.cons r10 .nil) ⟨_,_,_,rfl,rfl,hz,hl,rfl⟩
       refine thn ap fun _ s11 ⟨_,H11,I11,_,e11⟩ => ?_
       subst e11
       exact again I11 hm w10
     | false =>
       rw [if_neg Ao] at q9 ⊢
       obtain ⟨m',hm,w9⟩:=q9
       exact again I9 hm w9
 exact codeAny_compStart_list (loop _ rfl) (T.self _ 0 _ _ _ st4 (loop _ rfl))
section
variable {X:Cx} {N:List Str} {scope:Scope} {cl:List (Str × Addr)} {vals:St → St} {tg elt iter:Expr} {ifs:List Expr} {pos spos py:Pos} {wi:TI} {g:TG} {tests:TT} {te:TE}
theorem dN (hc:X.calm = true) (hi:PI X tg iter wi) (ck:ClOk X N scope cl vals) (hcell:∀ y ∈ scope.names,y.2 ≠ .cell) (hkind:scope.kind = .function) (hnames:∀ x ∈ scope.names,x.2 = .local → scope.names.lookup x.1 = some .local)
   (hg:∀ C s₀ H₀ ex,PG (cxC X N scope cl C s₀ H₀ ex) tg g) (ht:∀ C s₀ H₀ ex,PF (cxC X N scope cl C s₀ H₀ ex) ifs tests) (he:∀ C s₀ H₀ ex,PE (cxC X N scope cl C s₀ H₀ ex) elt te)
   (hs:∀ x,foldedSetIterable iter X.env x = pure x:=by intro _; rfl):PE X (.ListComp elt [⟨tg,iter,ifs,0⟩] scope pos) (aQ4 wi g tests te vals):=by
 intro pins s σ H Q I h
 rw [eval_ListComp]
 refine wpAny_comprehension_free (use:=none) rfl hs ck.clos hkind hnames (thn (hi pins s σ H _ I h) fun v s1 h1 => thn h1 fun itv s2 h2 => ?_)
 obtain ⟨it,fp,tn,J,H2,e,I2,T,st2,f2,q⟩:=h2
 subst e
 refine rZ (RR:=fun acc C => compPost (model X.prog X.w) X.A X.xe none (EP X pins σ Q) acc C) I2 T st2 f2 hc ck hcell hkind hg ht he q fun D C s' H' m hn q' back _ => ?_
 exact ⟨m,hn,fun h'' hsb => ⟨.ref D,H',back h'' hsb,rfl,q'⟩⟩
theorem hV {i:Nat} {x:Str} (hN:X.N.Nodup) (hix:X.N[i]? = some x) (hx:Loc X.env.scope x) (hc:X.calm = true) (hi:PI X tg iter wi) (ck:ClOk X N scope cl vals) (hcell:∀ y ∈ scope.names,y.2 ≠ .cell) (hkind:scope.kind = .function)
   (hnames:∀ x ∈ scope.names,x.2 = .local → scope.names.lookup x.1 = some .local)
   (hg:∀ C s₀ H₀ ex,PG (cxC X N scope cl C s₀ H₀ ex) tg g) (ht:∀ C s₀ H₀ ex,PF (cxC X N scope cl C s₀ H₀ ex) ifs tests) (he:∀ C s₀ H₀ ex,PE (cxC X N scope cl C s₀ H₀ ex) elt te)
   (hsw:swapsWith (.ListComp elt [⟨tg,iter,ifs,0⟩] scope pos) (some (.Name x py)) spos.line X.env = pure true:=by rfl)
   (hf:X.fn x = true ∨ X.env.scope.names.lookup x = some .local:=by first | exact .inl rfl | exact .inr rfl | assumption)
   (hs:∀ x,foldedSetIterable iter X.env x = pure x:=by intro _; rfl):PS X (.Assign [.Name x py] (.ListComp elt [⟨tg,iter,ifs,0⟩] scope pos) spos) (bX1 (aQ4 wi g tests te vals) (oH i)):=by
 intro pins s σ H D I h
 rw [exec_Assign_Name_used _ _ _ _ hsw]
 refine Ac (wpAny_standAt (Ac ?_))
 show wpAny _ X.A (do let _ ← comprehension (.ListComp elt [⟨tg,iter,ifs,0⟩] scope pos) scope X.env _ (newList []) false (eval iter X.env) (some (assign (.Name x py) X.env))) _ _ s
 refine Ac (Bv (wpAny_comprehension_free (use:=some (assign (.Name x py) X.env)) (Q:=fun _ s' => SP X pins D .next s') rfl hs ck.clos hkind hnames
   (thn (hi pins s σ H _ I h) fun v s1 h1 => thn h1 fun itv s2 h2 => ?_)) (fun _ s' hq => Ah (Ah hq)) fun _ _ e => e)
 obtain ⟨it,fp,tn,J,H2,e,I2,T,st2,f2,q⟩:=h2
 subst e
 refine rZ (RR:=fun acc C => compPost (model X.prog X.w) X.A X.xe (some (assign (.Name x py) X.env)) (fun _ s' => SP X pins D .next s') acc C) I2 T st2 f2 hc ck hcell hkind hg ht he q fun Dl C s' H' m hn q' back fC => ?_
 show wpAny _ X.A (assign (.Name x py) X.env (.ref Dl)) _ _ s'
 have I':Inv X pins σ H' s':=back s'.heap (Heap.SameBut.refl ..)
 refine wpAny_assign_Name (pB I' hN hix hx (v:=.ref Dl) rfl (fun s'' I'' hsb => ?_) hf)
 obtain ⟨a,hsb,ha⟩:=hsb
 have hCa:C ≠ a:=by
   rcases ha with z | z
   · rw [z]; exact fC.2.1
   · exact fun e => fC.2.2.2.2.1 x a z e.symm
 refine ⟨m,hn.sameBut hsb hCa,fun h3 hsb3 => ?_⟩
 exact ⟨σ.set i (some (.ref Dl)),H',I''.turned (t':=s''.toks) (fun b o hb e => (hsb3.2 b hb).trans e) fC.1 fC.2.1 fC.2.2.2.1 fC.2.2.2.2.1 fC.2.2.2.2.2,q'⟩
theorem cJ5 (hfree:∀ x ∈ scope.names,x.2 ≠ .free) (hcell:∀ y ∈ scope.names,y.2 ≠ .cell):ClOk X N scope [] (fun _ => N.map fun _ => none) where
 clos:=closureFor_none hfree
 sub:=fun x c h => nomatch h
 has:=fun x h => by
   have e:(relabel scope X.env).names = scope.names:=by
     show List.map _ scope.names = scope.names
     refine map_eq_self fun y hy => ?_
     obtain ⟨n,k⟩:=y
     have:(k == NameKind.free) = false:=by simpa using hfree _ hy
     simp [this]
   rw [e] at h
   rcases h with h | h
   · exact absurd rfl (hcell _ (Cr h))
   · exact absurd rfl (hfree _ (Cr h))
 len:=fun σ => by simp
 val:=fun σ i x v h1 h2 => by
   rw [Ag] at h2
   cases e:N[i]? with
   | none => rw [e] at h2; cases h2
   | some y => rw [e] at h2; cases h2
end
section
variable {g:TG} {tests:TT} {te:TE} {σ0:St} {Q:VK} {H1:Hp}
theorem bQA {J:It} {xs:List V} {ok:Hp → Prop} (f:V → Option V) (hgo:∀ (i:Nat) H,ok H → i < xs.length → J.go i H) (hst:∀ H,ok H → J.stop xs.length H) (hy:∀ (i:Nat) H x H',ok H → J.yld i H x H' → H' = H ∧ xs[i]? = some x)
   (hok:∀ D ys,H1 D = none → ok (upd H1 D (.lst ys))) (hlen:xs.length < sizeLine)
   (hs:∀ (i:Nat) x Hc (A:VK) (B:Hp → Prop),xs[i]? = some x → ok Hc → (match f x with | some y => A y Hc | none => B Hc) → g x σ0 Hc fun σ2 H2 => Wk σ0 σ2 ∧ tests σ2 H2 fun b H3 => if b = true then te σ2 H3 A else B H3)
   (fin:∀ D,H1 D = none → Q (.ref D) (upd H1 D (.lst (xs.filterMap f)))):eM g tests te σ0 Q J H1:=by
 intro D hD
 refine ⟨fun i m Hc => m = xs.length - i ∧ i ≤ xs.length ∧ Hc = upd H1 D (.lst ((xs.take i).filterMap f)),⟨xs.length,by simp,Nat.zero_le _,by simp⟩,?_⟩
 rintro i m Hc ⟨rfl,hi,rfl⟩
 by_cases hlt:i < xs.length
 · refine .inr ⟨hgo i _ (hok D _ hD) hlt,fun x H' y => ?_⟩
   obtain ⟨e,hx⟩:=hy i _ x H' (hok D _ hD) y
   subst e
   refine hs i x _ _ _ hx (hok D _ hD) ?_
   have tk:xs.take (i + 1) = xs.take i ++ [x]:=by rw [Bb,hx]; rfl
   cases e:f x with
   | some y =>
     refine ⟨_,aB,?_,xs.length - (i + 1),by omega,rfl,hlt,?_⟩
     · have:=Do f (xs.take i)
       rw [Bl] at this
       omega
     · rw [vZ,tk,Cm]
       simp [e]
   | none =>
     refine ⟨xs.length - (i + 1),by omega,rfl,hlt,?_⟩
     rw [tk,Cm]
     simp [e]
 · have e:i = xs.length:=by omega
   subst e
   rw [Bo]
   exact .inl ⟨hst _ (hok D _ hD),fin D hD⟩
theorem cQH {z:Str} (f:Nat → Option V) (hl:z.length < sizeLine)
   (hs:∀ (i:Nat) c Hc (A:VK) (B:Hp → Prop),z.cps.toList[i]? = some c → (match f c with | some y => A y Hc | none => B Hc) → g (.str ⟨#[c]⟩) σ0 Hc fun σ2 H2 => Wk σ0 σ2 ∧ tests σ2 H2 fun b H3 => if b = true then te σ2 H3 A else B H3)
   (fin:∀ D,H1 D = none → Q (.ref D) (upd H1 D (.lst (z.cps.toList.filterMap f)))):eM g tests te σ0 Q (Its z) H1:=by
 have hz:z.cps.toList.length = z.length:=by simp [Str.length]
 have hz2:z.cps.size = z.length:=rfl
 refine bQA (xs:=z.cps.toList.map fun c => .str ⟨#[c]⟩) (ok:=fun _ => True) (fun x => match x with | .str y => f (y.cps.toList.headD 0) | _ => none) (fun i H _ h => ?_) (fun H _ => ?_) (fun i H x H' _ y => ?_) (fun _ _ _ => trivial) (by rw [Ab,hz]; exact hl) (fun i x Hc A B hx _ h => ?_) (fun D hD => ?_)
 · rw [Ab,hz] at h; exact h
 · show z.cps.size ≤ _
   rw [Ab,hz]; exact Ai _
 · obtain ⟨e,c,hc,hx⟩:=y
   refine ⟨e,?_⟩
   rw [Ag,Cc,hc,hx]; rfl
 · rw [Ag] at hx
   cases e:z.cps.toList[i]? with
   | none => rw [e] at hx; cases hx
   | some c => rw [e] at hx; cases hx; exact hs i c Hc A B e h
 · have q:=fin D hD
   rw [List.filterMap_map]
   exact q
end
theorem cXY {wi:TI} {g:TG} {tests:TT} {te:TE} {vals:St → St} {σ:St} {H:Hp} {Q:VK} (h:wi σ H fun J H1 => eM g tests te (vals σ) Q J H1):aQ4 wi g tests te vals σ H Q:=h
theorem cZA {σ:St} {H:Hp} {Q:Bool → Hp → Prop} (h:Q true H):cZV σ H Q:=h
theorem aQN (ns:List Int) (lo hi:Option Int):∃ ms:List Int,gR (ns.map V.int) lo hi = ms.map V.int ∧ (∀ m ∈ ms,m ∈ ns) ∧ ms.length ≤ ns.length:=by
 refine ⟨(ns.drop (HT.sIx ns.length 0 lo)).take (HT.sIx ns.length ns.length hi - HT.sIx ns.length 0 lo),?_,fun m h => List.mem_of_mem_drop (List.mem_of_mem_take h),?_⟩
 · unfold gR
   rw [Ab,List.map_take,List.map_drop]
 · rw [Bl,Cf]; omega
end L2
set_option maxHeartbeats 4000000
namespace L2
open PySem PySem.Spec PyProof.Rows
def clF (env:Env):List (Str × NameKind) → List (Str × Addr) → List (Str × Addr)
 | [],acc => acc
 | (n,k) :: r,acc => if k == .free then clF env r ((n,(env.cells.lookup n).getD 0) :: acc) else clF env r acc
def aQT (ix:List (Option Nat)):St → St:=fun σ => ix.map fun o => match o with | none => none | some j => (σ[j]?).join
def cJ1 (N XN:List Str) (sn dn:List (Str × NameKind)) (ix:List (Option Nat)):Bool :=
 ix.length == N.length && (sn.all fun y => y.2 != .cell && (y.2 != .free || dn.lookup y.1 == some .cell)) && decide ((sn.map (·.1)).Nodup) &&
 ((List.range N.length).all fun i => match ix[i]? with | some (some j) => N[i]? == XN[j]? && (match N[i]? with | some x => sn.lookup x == some .free | none => false) | _ => true)
theorem qO {env:Env}:∀ (names:List (Str × NameKind)) (acc:List (Str × Addr)),(∀ y ∈ names,y.2 = .free → ∃ c,env.cells.lookup y.1 = some c) →
   (forIn names acc (fun (x:Str × NameKind) (cs:List (Str × Addr)) => (match x with
     | (name,kind) => if (kind == NameKind.free) = true then do
         let a ← cellOf env name
         pure (ForInStep.yield ((name,a) :: cs))
       else pure (ForInStep.yield cs):Sem (ForInStep (List (Str × Addr)))))) = (pure (clF env names acc):Sem (List (Str × Addr)))
 | [],acc,_ => rfl
 | (n,k) :: r,acc,h => by
   rw [List.forIn_cons]
   unfold clF
   cases e:k == NameKind.free with
   | false =>
     simp only [e,Bool.false_eq_true,if_false,pure_bind]
     exact qO r acc fun y hy => h y (Al _ hy)
   | true =>
     obtain ⟨c,hc⟩:=h (n,k) List.mem_cons_self (by simpa using e)
     have hc':env.cells.lookup n = some c:=hc
     simp only [e,if_true,cellOf,hc',Option.getD_some,pure_bind]
     exact qO r _ fun y hy => h y (Al _ hy)
theorem qC {env:Env}:∀ (names:List (Str × NameKind)) (acc:List (Str × Addr)) {x:Str} {c:Addr},(clF env names acc).lookup x = some c →
   acc.lookup x = some c ∨ ((x,NameKind.free) ∈ names ∧ c = (env.cells.lookup x).getD 0)
 | [],acc,x,c,h => .inl h
 | (n,k) :: r,acc,x,c,h => by
   unfold clF at h
   cases e:k == NameKind.free with
   | false =>
     rw [e] at h
     rcases qC r acc (by simpa using h) with z | ⟨z,q⟩
     · exact .inl z
     · exact .inr ⟨Al _ z,q⟩
   | true =>
     rw [e] at h
     have ek:k = .free:=by simpa using e
     rcases qC r _ (by simpa using h) with z | ⟨z,q⟩
     · rw [Dj] at z
       cases ex:x == n with
       | true =>
         rw [ex] at z
         have exn:x = n:=by simpa using ex
         subst exn; subst ek
         cases z
         exact .inr ⟨Aq,rfl⟩
       | false => rw [ex] at z; exact .inl z
     · exact .inr ⟨Al _ z,q⟩
theorem pU {env:Env}:∀ (names:List (Str × NameKind)) (acc:List (Str × Addr)) {x:Str},(acc.lookup x).isSome = true → ((clF env names acc).lookup x).isSome = true
 | [],acc,x,h => h
 | (n,k) :: r,acc,x,h => by
   unfold clF
   split
   · refine pU r _ ?_
     rw [Dj]
     cases ex:x == n with
     | true => rfl
     | false => exact h
   · exact pU r acc h
theorem lP {env:Env}:∀ (names:List (Str × NameKind)) (acc:List (Str × Addr)) {x:Str},(x,NameKind.free) ∈ names → ((clF env names acc).lookup x).isSome = true
 | (n,k) :: r,acc,x,h => by
   unfold clF
   rcases Bg.mp h with z | z
   · cases z
     simp only [beq_self_eq_true,if_true]
     refine pU r _ ?_
     rw [Dj,Gi]
     rfl
   · split
     · exact lP r _ z
     · exact lP r acc z
theorem fV {env:Env} {x:Str}:∀ {names:List (Str × NameKind)} {k':NameKind},(names.map fun (n,k) => if (k == NameKind.free && env.scope.kind == .function && env.kindOf n == some .cell) then (n,NameKind.cell) else (n,k)).lookup x = some k' →
   ∃ k,(x,k) ∈ names ∧ (k' = k ∨ (k = .free ∧ k' = .cell))
 | [],_,h => by simp at h
 | (n,k) :: r,k',h => by
   rw [Aw] at h
   dsimp only at h
   cases hc:(k == NameKind.free && env.scope.kind == .function && env.kindOf n == some .cell) with
   | true =>
     rw [hc,if_pos rfl,Dj] at h
     cases ex:x == n with
     | true =>
       rw [ex] at h
       cases h
       have:x = n:=by simpa using ex
       subst this
       have hk:k = .free:=by
         have:=(Cg _ _).mp hc
         have:=(Cg _ _).mp this.1
         simpa using this.1
       exact ⟨k,Aq,.inr ⟨hk,rfl⟩⟩
     | false =>
       rw [ex] at h
       obtain ⟨k1,h1,h2⟩:=fV h
       exact ⟨k1,Al _ h1,h2⟩
   | false =>
     rw [hc,if_neg Ao,Dj] at h
     cases ex:x == n with
     | true =>
       rw [ex] at h
       cases h
       have:x = n:=by simpa using ex
       subst this
       exact ⟨k,Aq,.inl rfl⟩
     | false =>
       rw [ex] at h
       obtain ⟨k1,h1,h2⟩:=fV h
       exact ⟨k1,Al _ h1,h2⟩
theorem kZ {env:Env} {x:Str} (hk:env.scope.kind = .function) (hx:env.kindOf x = some .cell):∀ {names:List (Str × NameKind)},names.lookup x = some .free →
   (names.map fun (n,k) => if (k == NameKind.free && env.scope.kind == .function && env.kindOf n == some .cell) then (n,NameKind.cell) else (n,k)).lookup x = some .cell
 | [],h => by simp at h
 | (n,k) :: r,h => by
   rw [Aw]
   dsimp only
   rw [Dj] at h
   cases ex:x == n with
   | true =>
     rw [ex] at h
     cases h
     have:x = n:=by simpa using ex
     subst this
     rw [hk,hx]
     simp [List.lookup_cons]
   | false =>
     rw [ex] at h
     have ih:=kZ hk hx h
     split <;> (rw [Dj,ex]; exact ih)
theorem eO {X:Cx} {N:List Str} {scope:Scope} (XN:List Str) (sc:Scope) (ix:List (Option Nat)) (hN:X.N = XN) (hsc:X.env.scope = sc) (hk:sc.kind = .function)
   (hcs:∀ x,sc.names.lookup x = some .cell → ∃ c,X.env.cells.lookup x = some c) (c:cJ1 N XN scope.names sc.names ix = true):ClOk X N scope (clF X.env scope.names []) (aQT ix):=by
 unfold cJ1 at c
 simp only [Bool.and_eq_true,decide_eq_true_eq,List.all_eq_true,beq_iff_eq] at c
 obtain ⟨⟨⟨c0,c1⟩,c2⟩,c3⟩:=c
 have fr:∀ y,(y,NameKind.free) ∈ scope.names → sc.names.lookup y = some .cell:=fun y hy => by
   have z:=(c1 _ hy).2
   simpa using z
 have nocell:∀ y,(y,NameKind.cell) ∉ scope.names:=fun y hy => by
   have z:=(c1 _ hy).1
   simp at z
 refine ⟨?_,fun x c h => ?_,fun x h => ?_,fun σ => ?_,fun σ i x v h1 h2 => ?_⟩
 · unfold closureFor
   simp only [bind_pure]
   exact qO scope.names [] fun y hy hf => hcs y.1 (fr y.1 (by rw [← hf]; exact hy))
 · rcases qC _ _ h with z | ⟨z,q⟩
   · simp at z
   · obtain ⟨c',e⟩:=hcs x (fr x z)
     rw [q,e]; rfl
 · have:∃ k,(x,k) ∈ scope.names ∧ k = .free:=by
     rcases h with h | h
     · obtain ⟨k,h1,h2⟩:=fV h
       rcases h2 with z | ⟨z,_⟩
       · subst z; exact absurd h1 (nocell x)
       · exact ⟨k,h1,z⟩
     · obtain ⟨k,h1,h2⟩:=fV h
       rcases h2 with z | ⟨z,z2⟩
       · exact ⟨k,h1,z.symm⟩
       · exact ⟨k,h1,z⟩
   obtain ⟨k,h1,rfl⟩:=this
   exact Ef.mp (lP scope.names [] h1)
 · unfold aQT
   rw [Ab,c0]
 · unfold aQT at h2
   rw [Ag] at h2
   cases e:ix[i]? with
   | none => rw [e] at h2; cases h2
   | some o =>
     rw [e] at h2
     cases o with
     | none => cases h2
     | some j =>
       have hi:i < N.length:=(Ad.mp h1).1
       have z:=c3 i (Bz.mpr hi)
       rw [e,h1] at z
       simp only [Bool.and_eq_true,beq_iff_eq] at z
       have hv:σ[j]? = some (some v):=by
         have h3:(σ[j]?).join = some v:=by simpa using h2
         cases e2:σ[j]? with
         | none => rw [e2] at h3; cases h3
         | some o => rw [e2] at h3; cases o with
           | none => cases h3
           | some u => cases h3; rfl
       have hm:(x,NameKind.free) ∈ scope.names:=Cr z.2
       have hx:=fr x hm
       refine ⟨j,by rw [hN]; exact z.1.symm,hv,by rw [hsc]; exact hx,Ef.mp (lP scope.names [] hm),?_⟩
       exact kZ (by rw [hsc]; exact hk) (by show X.env.scope.names.lookup x = _; rw [hsc]; exact hx) z.2
end L2
set_option maxHeartbeats 4000000
namespace L2
open PySem PySem.Spec PyProof.Rows
open PySem.AutoSeq1 (wpAny_loadPart')
section
variable {prog:Program} {w:World} {A:Around} {E:Value → Shared → Prop} {s:Shared}
end
theorem kU {prog:Program} {w:World} {A:Around} {it:Addr} {fp:List Addr} {n:Nat} {P:Nat → Value → Prop} {S:Nat → Heap → Prop} (k:Nat) (D:Draws prog w A it fp n P S) :
   Draws prog w A it fp (k + n) (fun j v => P (j - k) v) (fun j h => k ≤ j ∧ S (j - k) h) where
 live:=fun i h st => D.live _ h st.2
 frame:=fun i h h' st kk => ⟨st.1,D.frame _ h h' st.2 kk⟩
 item:=fun i s Q E hi st hQ => D.item (i - k) s Q E (by have:=st.1; omega) st.2 fun x h' tk hP hS sb => hQ x h' tk hP ⟨by have:=st.1; omega,by rw [show i + 1 - k = i - k + 1 by have:=st.1; omega]; exact hS⟩ sb
 done:=fun s Q E st hE => D.done s Q E (by have q:=st.2; rwa [show k + n - k = n by omega] at q) hE
section
variable {X:Cx} {pins:List (Addr × Obj)} {σ:St} {H:Hp} {s:Shared} {h':Heap}
theorem Inv.turnLaid {ch:List Addr} {a:Addr} {o:HO} {t':Nat} (I:Inv X pins σ H s) (hch:∀ b ∈ ch,iF X pins H b) (k:∀ b u,b ∉ ch → s.heap.get? b = some u → h'.get? b = some u) (hp:s.heap.objs.size ≤ a)
   (new:ObjOk X.prog X.w (upd H a o) h' a o):Inv X pins σ (upd H a o) { s with heap:=h',toks:=t' }:=by
 have hn:=I.hok.fresh hp
 have nch:∀ b u,H b = some u → b ∉ ch:=fun b u e z => by rw [(hch b z).1] at e; cases e
 refine I.step (g':=s.gens) (d':=s.drawn) (ch:=ch) (fun b hb => ?_) (fun b o _ _ hc e _ => k b o hc e) (fun b o _ _ hc e _ => ⟨o.slots,k b o hc e⟩) (fun b o _ e n => ?_) (fun b o hc e => ⟨o,k b o hc e⟩)
   (fun b xs e => by rw [aJ (bG e hn)]; exact e) (fun b o u e => by rw [aJ (bG e hn)]; exact e) (fun b ps e => ⟨#[],by rw [aJ (bG e hn),e]; simp⟩) (fun m hm => ?_) (fun b u e => ?_) I.bare
 · obtain ⟨_,q1,_,q3,q4,q5⟩:=hch b hb
   exact ⟨q3,q1,q4,q5⟩
 · rw [aJ (Bd (Az (An e) hp))]
   exact n
 · obtain ⟨ob,es,ep,ho,r⟩:=hm
   exact ⟨ob,es,ep,k _ ob (fun z => (hch _ z).2.1 rfl) ho,r⟩
 · by_cases hb:b = a
   · subst hb
     rw [aB] at e
     cases e
     exact new
   · rw [aJ hb] at e
     refine (I.hok b u e).stay (fun c v hc q => k c v ?_ q) (fun c q => by rw [aJ (bG q hn)]; exact q) fun c xs q => by rw [aJ (bG q hn)]; exact q
     rcases hc with z | z
     · rw [z]; exact nch b u e
     · exact nch c _ z
theorem Inv.turnAll {ch:List Addr} {t':Nat} (I:Inv X pins σ H s) (hch:∀ b ∈ ch,iF X pins H b) (k:∀ b u,b ∉ ch → s.heap.get? b = some u → h'.get? b = some u):Inv X pins σ H { s with heap:=h',toks:=t' }:=by
 have nch:∀ b u,H b = some u → b ∉ ch:=fun b u e z => by rw [(hch b z).1] at e; cases e
 refine I.step (g':=s.gens) (d':=s.drawn) (ch:=ch) (fun b hb => ?_) (fun b o _ _ hc e _ => k b o hc e) (fun b o _ _ hc e _ => ⟨o.slots,k b o hc e⟩) (fun b o _ e n => n) (fun b o hc e => ⟨o,k b o hc e⟩)
   (fun b xs e => e) (fun b o u e => e) (fun b ps e => ⟨#[],by rw [e]; simp⟩) (fun m hm => ?_) (fun b u e => ?_) I.bare
 · obtain ⟨_,q1,_,q3,q4,q5⟩:=hch b hb
   exact ⟨q3,q1,q4,q5⟩
 · obtain ⟨ob,es,ep,ho,r⟩:=hm
   exact ⟨ob,es,ep,k _ ob (fun z => (hch _ z).2.1 rfl) ho,r⟩
 · refine (I.hok b u e).stay (fun c v hc q => k c v ?_ q) (fun c q => q) fun c xs q => q
   rcases hc with z | z
   · rw [z]; exact nch b u e
   · exact nch c _ z
end
def Ite (K:PySem.W.Frag) (a:Addr) (k:Nat):It :=
 ⟨fun i H => ∃ xs x,SqL K H a xs ∧ xs[i]? = some x,fun i H v H' => ∃ p x,H p = none ∧ v = .ref p ∧ H' = upd H p (.tup [.int ((k + i:Nat):Int),x]) ∧ ∀ xs,SqL K H a xs → xs[i]? = some x,fun i H => ∃ xs,SqL K H a xs ∧ xs.length = i⟩
theorem yG {P:Program} {w:World} {K:PySem.W.Frag} {elts:List Expr} {x1:Nat} {tp:Pos} (a e it:Addr) (k:Nat) (hei:e ≠ it) :
   Turn P w K (.Tuple elts x1 tp) (Ite K a k) [e,it] e (fun i h => (∃ old,IsEnum h e it ((k + i:Nat):Int) old) ∧ h.IsListIter it a i) where
 mem:=by simp
 obj:=fun i h st b hb => by
   obtain ⟨⟨old,he⟩,o,ho,c,d⟩:=st
   rcases Bg.mp hb with z | z
   · subst z; exact ⟨_,he,fun v z => by cases z⟩
   · rw [As.mp z]; exact ⟨o,ho,fun v z => by rw [d] at z; cases z⟩
 keep:=fun i h h' st kk => ⟨let ⟨old,he⟩:=st.1; ⟨old,kk e (by simp) _ he⟩,st.2.at fun o q => kk it (by simp) o q⟩
 item:=by
   intro X hP hw hK hc i pins s σ H E I hf st hg
   subst hP hw hK
   obtain ⟨xs,x,hq,hx⟩:=hg
   obtain ⟨its,rv,p,hz⟩:=I.list hq
   obtain ⟨u,hu,ru⟩:=rv.get hx
   obtain ⟨⟨old,he⟩,hit⟩:=st
   have hai:a ≠ it:=by
     rintro rfl
     obtain ⟨o,ho,c,_⟩:=hit
     obtain ⟨o2,ho2,c2,_⟩:=p.isList
     rw [ho] at ho2; cases ho2
     rw [c] at c2; injection c2 with c2; exact absurd c2 (by decide)
   have hae:a ≠ e:=by
     rintro rfl
     obtain ⟨o2,ho2,c2,_⟩:=p.isList
     rw [he] at ho2; cases ho2
     injection c2 with c2; exact absurd c2 (by decide)
   have hl:=rv.length
   have hil:i < its.length:=(Ad.mp hu).1
   have D:=kU k (Draws.list (prog:=X.prog) (w:=X.w) (A:=X.A.in1) (show X.A.in1.handled = none from I.ok.hd hc) it a hai its.toArray)
   refine wpAny_pyNext_enum_itemD D (i:=k + i) he ⟨Nat.le_add_right _ _,by rw [Fu]; exact ⟨hit,p.isList⟩⟩ (by rw [Be]; omega) hei (fun z => by
     rcases Bg.mp z with z | z
     · exact hei z
     · exact hae (As.mp z).symm) fun y h1 tk hP ho hS hT hsz kk => ?_
   refine ⟨_,rfl,wpAny_letOwnedTupleGo_enum ho fun h2 he2 hs2 => ?_⟩
   have ey:y = u:=by
     have hP':its.toArray[k + i - k]? = some y:=hP
     rw [Fu] at hP'
     have:its[i]? = some y:=by simpa using hP'
     rw [hu] at this; cases this; rfl
   subst ey
   have hTe:s.heap.objs.size ≠ e:=Fz (An he)
   have hTi:s.heap.objs.size ≠ it:=by obtain ⟨o,q,_⟩:=hit; exact Fz (An q)
   have hT2:h2.get? s.heap.objs.size = some { cls:=.type "tuple",data:=.seq #[.int ((k + i:Nat):Int) tk,y] }:=(hs2.2 _ hTe).trans hT
   have hS':h1.IsListIter it a (i + 1):=by
     have q:=hS.2.1
     rwa [show k + i + 1 - k = i + 1 by omega] at q
   have I2:Inv X pins σ (upd H s.heap.objs.size (.tup [.int ((k + i:Nat):Int),x])) { s with heap:=h2,toks:=tk + 1 }:=by
     refine I.turnLaid (ch:=[e,it]) hf (fun b u hb q => (hs2.2 b (fun z => hb (by simp [z]))).trans (kk b u (fun z => hb (by simp [z])) (fun z => hb (by simp [z])) q)) (Nat.le_refl _) ⟨bX (by show 2 ≤ _; omega),[.int ((k + i:Nat):Int) tk,y],.cons ⟨tk,rfl⟩ (.cons ru .nil),_,hT2,rfl,_,rfl⟩
   refine ⟨.ref s.heap.objs.size,_,I2,rfl,⟨_,x,I.hok.fresh (Ai _),rfl,rfl,fun ys hy => by rw [I.list_inj hy hq]; exact hx⟩,⟨⟨y,he2⟩,hS'.at fun o q => (hs2.2 it hei.symm).trans q⟩,fun b hb => ?_⟩
   rcases Bg.mp hb with z | z
   · rw [z,aJ hTe.symm]; exact (hf e (by simp)).1
   · rw [List.mem_singleton.mp z,aJ hTi.symm]; exact (hf it (by simp)).1
 done:=by
   intro X hP hw hK hc i pins s σ H E I hf st hg
   subst hP hw hK
   obtain ⟨xs,hq,hx⟩:=hg
   obtain ⟨its,rv,p,hz⟩:=I.list hq
   obtain ⟨⟨old,he⟩,hit⟩:=st
   have hl:=rv.length
   have hai:a ≠ it:=by
     rintro rfl
     obtain ⟨o,ho,c,_⟩:=hit
     obtain ⟨o2,ho2,c2,_⟩:=p.isList
     rw [ho] at ho2; cases ho2
     rw [c] at c2; injection c2 with c2; exact absurd c2 (by decide)
   have D:=kU k (Draws.list (prog:=X.prog) (w:=X.w) (A:=X.A.in1) (show X.A.in1.handled = none from I.ok.hd hc) it a hai its.toArray)
   refine wpAny_pyNext_enum_endD D he ⟨Nat.le_add_right _ _,by rw [Fu,Be,← hl,hx]; exact ⟨hit,p.isList⟩⟩ fun h' eb => ⟨rfl,?_⟩
   exact I.turnAll (t':=s.toks) (ch:=[e,it]) hf fun b u hb q => eb b u (fun z => hb (by simp [z])) q
 self:=fun _ _ _ _ _ st h => let ⟨⟨_,he⟩,_⟩:=st; wpAny_pyIter_enum he h
section
variable {X:Cx} {l:Expr} {ta tk:TA} {kws:List Keyword} {elts:List Expr} {x1:Nat} {tp p pos kp:Pos}
def aJO (R:Addr → Hp → Prop):List V → Hp → Prop:=fun vs H => match vs with | [.ref j] => R j H | _ => False
theorem bQ8 {R:Addr → Hp → Prop} {vs:List V} {H:Hp} (q:aJO R vs H):∃ j,vs = [.ref j] ∧ R j H:=by
 unfold aJO at q
 split at q
 · exact ⟨_,rfl,q⟩
 · exact q.elim
def bJC (K:PySem.W.Frag) (ta:TA):TI:=fun σ H R => ta σ H (aJO fun a H1 => onL (rdL H1 a) (R (Ite K a 0) H1))
theorem bX3 {pins:List (Addr × Obj)} {σ:St} {H1:Hp} {s1:Shared} {a:Addr} {k:Nat} {h':Heap} {R:It → Hp → Prop} {E:Value → Shared → Prop} (I1:Inv X pins σ H1 s1) (he:IsEnum h' (s1.heap.objs.size + 1) s1.heap.objs.size ((k:Nat):Int) .none) (hi:h'.IsListIter s1.heap.objs.size a 0) (hz:h'.objs.size = s1.heap.objs.size + 2)
   (hk:∀ b o,s1.heap.get? b = some o → h'.get? b = some o) (q:R (Ite X.K a k) H1):wpAny (model X.prog X.w) X.A (pyIter (.ref (s1.heap.objs.size + 1))) (PIE X pins σ (.Tuple elts x1 tp) R) E { s1 with heap:=h' }:=by
 refine wpAny_pyIter_enum (s:={ s1 with heap:=h' }) he ⟨_,[s1.heap.objs.size + 1,s1.heap.objs.size],_,_,H1,rfl,I1.kept (t':=s1.toks) hk,yG a _ _ k (Nat.succ_ne_self _),⟨⟨_,he⟩,hi⟩,fun b hb => ?_,q⟩
 have z:s1.heap.objs.size ≤ b:=by
   rcases Bg.mp hb with z | z
   · rw [z]; exact Fv _
   · rw [As.mp z]; exact Ai _
 exact I1.fpOk z (I1.hok.fresh z)
theorem wA (hg:Gl X "enumerate") (hm:X.mg "enumerate" = none) (ha:PA X [l] ta) (hs:starEach [l] X.env = [(false,eval l X.env)]:=by rfl) :
   PI X (.Tuple elts x1 tp) (.Call (.Name "enumerate" p) [l] [] pos) (bJC X.K ta):=by
 intro pins s σ H R I h
 refine Call_ (gG I hg hm boot_enumerate (Co (thn (ha pos pins s σ H _ I h) fun us s1 ⟨vs,H1,I1,r1,q1⟩ => ?_) hs rfl))
 obtain ⟨a,rfl,q⟩:=bQ8 q1
 obtain ⟨u,rfl,ru⟩:=eL r1
 cases ru
 unfold onL at q
 split at q
 · rename_i xs ex
   obtain ⟨its,rv,p,hz⟩:=I1.list (aO ex)
   exact call_enumerate_list p.isList fun h' he hi hz hk => bX3 I1 (k:=0) he hi hz hk q
 · exact q.elim
end
section
variable {K:PySem.W.Frag} {a:Addr} {k:Nat} {xs:List V} {g:TG} {tb:TS} {D:Ends} {σ σ0:St} {H H1:Hp} {tests:TT} {te:TE} {Q:VK}
theorem wL (Pv:Nat → St → Hp → Prop) (h0:Pv 0 σ H) (hl:∀ i σ H,i ≤ xs.length → Pv i σ H → rdL H a = some xs)
   (hs:∀ i x σ H p,xs[i]? = some x → Pv i σ H → H p = none → g (.ref p) σ (upd H p (.tup [.int ((k + i:Nat):Int),x])) fun σ2 H2 => tb { D with nx:=Pv (i + 1),ct:=Pv (i + 1),bk:=D.nx } σ2 H2) (hd:∀ σ H,Pv xs.length σ H → D.nx σ H):qP (Ite K a k) g tb D σ H:=by
 refine ⟨fun i m σ H => m = xs.length - i ∧ i ≤ xs.length ∧ Pv i σ H,⟨xs.length,by simp,Nat.zero_le _,h0⟩,?_⟩
 rintro i m σ H ⟨rfl,hi,p⟩
 have hr:=hl i σ H hi p
 by_cases hlt:i < xs.length
 · refine .inr ⟨⟨xs,xs[i],aO hr,by simp [hlt]⟩,Pv (i + 1),fun σ' H' p' => ⟨xs.length - (i + 1),by omega,rfl,hlt,p'⟩,fun x H' y => ?_⟩
   obtain ⟨q,z,hq,rfl,rfl,hz⟩:=y
   exact hs i z σ H q (hz xs (aO hr)) p hq
 · have e:i = xs.length:=by omega
   subst e
   exact .inl ⟨⟨xs,aO hr,rfl⟩,hd σ H p⟩
theorem bXL {ta:TA} {R:It → Hp → Prop} (h:ta σ H (aJO fun a H1 => onL (rdL H1 a) (R (Ite K a 0) H1))):bJC K ta σ H R:=h
theorem bJW {R:Addr → Hp → Prop} (h:R a H):aJO R [.ref a] H:=h
end
section
variable {X:Cx}
end
section
variable {K:PySem.W.Frag} {n:Nat} {t:TG} {u:TGs} {v:V} {r xs:List V} {σ:St} {H:Hp} {Q:St → Hp → Prop} {a:Addr}
theorem cXR (e:iW H a = some xs) (hn:xs.length = n) (h:u xs σ H Q):bQ6 K n u (.ref a) σ H Q:=⟨a,xs,rfl,.of (lN e),hn,h⟩
theorem bXU (h:t v σ H fun σ' H' => u r σ' H' Q):vU t u (v :: r) σ H Q:=⟨v,r,rfl,h⟩
theorem cQP (h:Q σ H):cQA [] σ H Q:=⟨rfl,h⟩
end
theorem hU {X:Cx} {K:PySem.W.Frag} {i j k:Nat} {x y:Str} {px py pos:Pos} (hK:X.K = K) (hc:X.calm = true) (hN:X.N.Nodup) (hi:X.N[i]? = some x) (hx:Loc X.env.scope x) (hfx:X.fn x = true ∨ X.env.scope.names.lookup x = some .local)
   (hj:X.N[j]? = some y) (hy:Loc X.env.scope y) (hfy:X.fn y = true ∨ X.env.scope.names.lookup y = some .local):PG X (.Tuple [.Name x px,.Name y py] k pos) (bQ6 K 2 (vU (oH i) (vU (oH j) cQA))):=by
 subst hK
 exact cXP hc (jM (aP hN hi hx hfx) (jM (aP hN hj hy hfy) vL))
end L2
set_option maxHeartbeats 4000000
namespace L2
open PySem PySem.Spec PyProof.Rows
structure Fly (B:Heap) (l:List Env) (e:Addr) (cls:Value) (d:Option Addr) (fl:Value) (h:Heap):Prop where
 stays:B.StaysIn h
 new:B.get? e = none
 frames:h.FunFrames B l
 on:∃ oe vs T oT ts,h.get? e = some oe ∧ (oe.cls = cls ∧ oe.dict = d) ∧ oe.data = .fields vs ∧ vs[1]? = some (.ref T) ∧ B.get? T = none ∧ T ≠ e ∧ h.get? T = some oT ∧ oT.data = .fields ts ∧ ts[3]? = some fl ∧ vs[2]? = some .none
theorem sQ (o:Obj) (f:Array Value → Array Value):(o.mapFields f).dict = o.dict:=by
 obtain ⟨c,d,dt,sl⟩:=o
 cases dt <;> rfl
theorem lC {h:Heap} {a:Addr} {o:Obj} {vs:Array Value} {f:Obj → Obj} (ha:h.get? a = some o) (hd:o.data = .fields vs):∀ b u,h.get? b = some u → (∀ ws,u.data ≠ .fields ws) → (h.update a f).get? b = some u:=fun b u e n => by
 rw [Br _ _ (fun z:a = b => by rw [← z,ha] at e; cases e; exact n vs hd)]
 exact e
section
variable {M:Model} {A:Around} {E:Value → Shared → Prop} {s:Shared} {B:Heap} {env:Env} {outer l:List Env} {L e:Addr} {cls:Value} {d:Option Addr} {Q:Unit → Shared → Prop}
theorem oU {oe:Obj} {vs:Array Value} {head:Value} {nx:Bool} (hfr:A.frames = some (env :: outer)) (hl:s.heap.FunFrames B (env :: outer)) (hf:env.frame = some L) (hB:B.StaysIn s.heap) (hn:B.get? e = none)
   (he:s.heap.get? e = some oe) (hd:oe.data = .fields vs) (h1:1 < vs.size) (c2:vs[2]? = some .none) (hQ:∀ h',Fly B (env :: outer) e oe.cls oe.dict (rawInt L) h' → s.heap.UpToSlots h' → Q () { s with heap:=h' }) :
   wpAny M A (do let a ← frameOf env; let pl ← entryPlaceOf L nx; let b ← EntryCells.newEntry head a .none (rawInt L) .none pl; setField (.ref e) 1 b) Q E s:=by
 have ne:e ∉ (env :: outer).filterMap (·.frame):=fun hm => by
   obtain ⟨_,o,ho,nf⟩:=hl.mem hm
   rw [he] at ho; cases ho
   exact nf vs hd
 refine Ac (wpAny_frameOf_fun hfr hl hf fun g1 so => Ac (wpAny_entryPlaceOf fun pl hpl => ?_))
 have e1:g1.get? e = some oe:=(so.2.1 e ne).trans he
 have b1:B.StaysIn g1:=fun b o q => (so.2.1 b fun hm => by rw [(hl.mem hm).1] at q; cases q).trans (hB b o q)
 unfold EntryCells.newEntry newFields
 refine Ac (Da ?_ (hpl.sizeOk5 _ _ _ _ _))
 generalize hts:(([head,.ref L,.none,rawInt L,.none] ++ (if pl.isEmpty then List.replicate 6 Value.none else pl):List Value)).toArray = ts
 have t3:ts[3]? = some (rawInt L):=by rw [← hts]; simp
 have e2:=Ae (h:=g1) ⟨.type "traceback",none,.fields ts,#[]⟩ e1
 refine Gd e2 hd h1 (hQ _ ?_ ?_)
 · have te:g1.objs.size ≠ e:=Fz (An e1)
   have dm:=Ft hd (·.setIfInBounds 1 (Value.ref g1.objs.size))
   refine ⟨fun b o q => ?_,hn,hl.of_keeps fun b o q nf => ?_,_,_,g1.objs.size,⟨.type "traceback",none,.fields ts,#[]⟩,ts,Heap.get?_update_self _ e2 (Obj.isFreed_of_fields dm),⟨Obj.cls_mapFields _ _,sQ _ _⟩,dm,by simp [h1],b1.fresh,te,?_,rfl,t3,(Array.getElem?_setIfInBounds_ne (by decide)).trans c2⟩
   · rw [Br _ _ (fun z:e = b => by rw [← z,hn] at q; cases q)]
     exact Ae _ (b1 b o q)
   · obtain ⟨sl,q1⟩:=so.2.2 b o q
     exact ⟨_,lC e2 hd b _ (Ae _ q1) nf,rfl⟩
   · rw [Br _ _ te.symm]
     exact Ar g1 rfl
 · intro b o q nf
   obtain ⟨sl,q1⟩:=so.2.2 b o q
   exact ⟨sl,lC e2 hd b _ (Ae _ q1) nf⟩
theorem yX {oe:Obj} {vs:Array Value} (hfr:A.frames = some (env :: outer)) (hl:s.heap.FunFrames B (env :: outer)) (hf:env.frame = some L) (hB:B.StaysIn s.heap) (hn:B.get? e = none)
   (he:s.heap.get? e = some oe) (hd:oe.data = .fields vs) (h1:vs[1]? = some .none) (c2:vs[2]? = some .none) (hQ:∀ h',Fly B (env :: outer) e oe.cls oe.dict (rawInt L) h' → s.heap.UpToSlots h' → Q () { s with heap:=h' }):wpAny M A (noteFrame (.ref e) env) Q E s:=by
 unfold noteFrame
 simp only [hf]
 refine Ac (Df he hd h1 ?_)
 rw [if_neg (show ¬ ((Value.none != Value.none) = true) by decide)]
 exact oU hfr hl hf hB hn he hd (Cj.mp h1).1 c2 hQ
theorem aZU (hfr:A.frames = some (env :: outer)) (hf:env.frame = some L) (F:Fly B (env :: outer) e cls d .none s.heap) (hQ:∀ h',Fly B (env :: outer) e cls d (rawInt L) h' → s.heap.UpToSlots h' → Q () { s with heap:=h' }) :
   wpAny M A (noteFrame (.ref e) env) Q E s:=by
 obtain ⟨hB,hn,hl,oe,vs,T,oT,ts,he,⟨rfl,rfl⟩,hd,h1,hT,hTe,gT,dT,t3,c2⟩:=F
 unfold noteFrame
 simp only [hf]
 refine Ac (Df he hd h1 ?_)
 rw [if_pos (show (Value.ref T != Value.none) = true by simp)]
 refine Ac (Df gT dT t3 ?_)
 rw [if_neg (show ¬ ((Value.none == rawInt L) = true) by simp [rawInt])]
 refine Ac (Gd gT dT (Cj.mp t3).1 ?_)
 have keep:∀ b,b ≠ T → (s.heap.update T (Obj.mapFields (·.setIfInBounds 3 Value.none))).get? b = s.heap.get? b:=fun b hb => Br _ _ (Ne.symm hb)
 refine oU (s:={ s with heap:=s.heap.update T (Obj.mapFields (·.setIfInBounds 3 Value.none)) }) hfr (hl.of_keeps fun b o q nf => ⟨o,lC gT dT b o q nf,rfl⟩) hf
   (fun b o q => (keep b fun z => by rw [z,hT] at q; cases q).trans (hB b o q)) hn ((keep e hTe.symm).trans he) hd (Cj.mp h1).1 c2 fun h' F' up => hQ h' F' fun b o q nf => up b o (lC gT dT b o q nf) nf
theorem iZ {fl:Value} (F:Fly B l e cls d fl s.heap) (hQ:∀ h',Fly B l e cls d .none h' → s.heap.UpToSlots h' → Q () { s with heap:=h' }):wpAny M A (setFlight (.ref e) none) Q E s:=by
 obtain ⟨hB,hn,hl,oe,vs,T,oT,ts,he,hc,hd,h1,hT,hTe,gT,dT,t3,c2⟩:=F
 have z3:3 < ts.size:=(Cj.mp t3).1
 unfold setFlight
 refine Ac (Df he hd h1 ?_)
 rw [if_pos (show (Value.ref T != Value.none) = true by simp)]
 refine Gd gT dT z3 (hQ _ ?_ fun b o q nf => ⟨o.slots,lC gT dT b o q nf⟩)
 have dm:=Ft dT (·.setIfInBounds 3 Value.none)
 refine ⟨fun b o q => ?_,hn,hl.of_keeps fun b o q nf => ⟨o,lC gT dT b o q nf,rfl⟩,oe,vs,T,_,_,?_,hc,hd,h1,hT,hTe,Heap.get?_update_self _ gT (Obj.isFreed_of_fields dm),dm,by simp [z3],c2⟩
 · rw [Br _ _ (fun z:T = b => by rw [← z,hT] at q; cases q)]
   exact hB b o q
 · rw [Br _ _ hTe]
   exact he
theorem Fly.less {fl:Value} {h:Heap} (F:Fly B (env :: outer) e cls d fl h):Fly B outer e cls d fl h:=⟨F.stays,F.new,F.frames.2.2,F.on⟩
theorem tZ {oe:Obj} {vs:Array Value} (hfr:A.frames = some (env :: outer)) (hl:s.heap.FunFrames B (env :: outer)) (hf:env.frame = some L) (hB:B.StaysIn s.heap) (hn:B.get? e = none)
   (he:s.heap.get? e = some oe) (hd:oe.data = .fields vs) (h1:vs[1]? = some .none) (c2:vs[2]? = some .none) (hQ:∀ h',Fly B outer e oe.cls oe.dict .none h' → s.heap.UpToSlots h' → Q () { s with heap:=h' }):wpAny M A (leaving env (.ref e)) Q E s:=by
 unfold leaving
 exact Ac (yX hfr hl hf hB hn he hd h1 c2 fun h1 F1 u1 => iZ (s:={ s with heap:=h1 }) F1 fun h2 F2 u2 => hQ h2 F2.less (u1.trans u2))
end
end L2
set_option maxHeartbeats 4000000
namespace L2
open PySem PySem.Spec PyProof.Rows
structure UnB (fs:List Addr) (H H':Hp) (h B h':Heap):Prop where
 keep:∀ b o,h.get? b = some o → H b = none → b ∉ fs → B.get? b = some o
 slot:∀ b o,h.get? b = some o → H b = none → b ∈ fs → ∃ sl,h'.get? b = some { o with slots:=sl }
 free:∀ b o,h.get? b = some o → H b = none → H' b = none
 there:∀ b o,h.get? b = some o → b ∉ fs → ∃ o',B.get? b = some o'
 tups:∀ b xs,H b = some (.tup xs) → H' b = some (.tup xs)
 frzs:∀ b o u,H b = some (.frz o u) → H' b = some (.frz o u)
 tbls:∀ b ps,H b = some (.tbl ps) → ∃ more,H' b = some (.tbl (ps ++ more))
def CXr (P:Program) (w:World):CXT:=fun outer H s E e s' =>
 ∃ (ea:Addr) (cls:Value) (d:Option Addr) (B:Heap) (H':Hp),e = .ref ea ∧ s'.os = s.os ∧ AllBare s'.gens ∧ Fly B outer ea cls d .none s'.heap ∧ HOk P w H' B ∧ UnB (frs outer) H H' s.heap B s'.heap ∧ E cls d H'
theorem HOk.down {P:Program} {w:World} {H:Hp} {h B:Heap} (x:HOk P w H h) (k:∀ b o u,H b = some u → h.get? b = some o → B.get? b = some o):HOk P w H B:=fun a u e =>
 (x a u e).stay (fun b o hb q => by
   rcases hb with z | z
   · subst z; exact k b o u e q
   · exact k b o _ z q) (fun _ q => q) fun _ _ q => q
theorem ObjOk.get {P:Program} {w:World} {H:Hp} {h:Heap} {a:Addr} {o:HO} (x:ObjOk P w H h a o):∃ ob,h.get? a = some ob:=by
 cases o with
 | lst xs => obtain ⟨_,_,_,_,e⟩:=x; exact ⟨_,e⟩
 | tup xs => obtain ⟨_,_,_,ob,e,_⟩:=x; exact ⟨_,e⟩
 | dK kvs => obtain ⟨_,_,_,_,ob,_,_,e,_⟩:=x; exact ⟨_,e⟩
 | dT kvs => obtain ⟨_,_,_,_,ob,_,_,e,_⟩:=x; exact ⟨_,e⟩
 | set S n => obtain ⟨ob,_,_,_,e,_⟩:=x; exact ⟨_,e⟩
 | ins C dx fs => obtain ⟨_,_,_,e,_⟩:=x; exact ⟨_,e⟩
 | own y => exact x
 | xd fs => obtain ⟨_,⟨od,_,_,e,_⟩,_⟩:=x; exact ⟨_,e⟩
 | rng lo hi => obtain ⟨_,_,_,e⟩:=x; exact ⟨_,e⟩
 | frz ob u => exact ⟨_,x.1⟩
 | tbl ps => exact ⟨_,x⟩
 | met f y => exact ⟨_,x⟩
 | ext φ => exact x.2.1
theorem HOk.hole {P:Program} {w:World} {H:Hp} {h:Heap} {a:Addr} (x:HOk P w H h) (e:h.get? a = none):H a = none:=by
 cases q:H a with
 | none => rfl
 | some o =>
   obtain ⟨ob,z⟩:=(x a o q).get
   rw [e] at z
   cases z
theorem iK {env:Env} {outer:List Env} {L b:Addr} (hf:env.frame = some L) (h1:b ≠ L) (h2:b ∉ frs outer):b ∉ frs (env :: outer):=fun hm => by
 obtain ⟨e,he,q⟩:=Dy.mp hm
 rcases Bg.mp he with z | z
 · subst z
   rw [hf] at q
   exact h1 (Bi q).symm
 · exact h2 (Dy.mpr ⟨e,z,q⟩)
section
variable {P:Program} {w:World} {K:PySem.W.Frag} {mg:Str → Option Value} {base:Heap} {N:List Str} {qual:Str} {scope:Scope} {f:Addr} {cd:Value} {A:Around} {outer:List Env} {s₀:Shared} {H₀:Hp} {E:XK}
 {pins:List (Addr × Obj)} {σ:St} {H:Hp} {s:Shared}
theorem qM {ea:Addr} {oe:Obj} {vs:Array Value} (I:Inv (jC (CXr P w) P w K mg base N qual scope f cd A outer s₀ H₀ E) pins σ H s) (he:s.heap.get? ea = some oe) (hd:oe.data = .fields vs) (h1:vs[1]? = some .none) (c2:vs[2]? = some .none) (hn:H ea = none) (h0:s₀.heap.get? ea = none)
   (q:E oe.cls oe.dict H):(jC (CXr P w) P w K mg base N qual scope f cd A outer s₀ H₀ E).xe (.ref ea) s:=by
 have hfr:=I.ok.frames
 have hst:=I.stack
 have hsf:=I.stkFree
 have hbase:=I.base
 have hlo:∀ b o,s₀.heap.get? b = some o → b ≠ s₀.heap.objs.size:=fun b o e => Bd (An e)
 have nea:∀ b o,s₀.heap.get? b = some o → b ≠ ea:=fun b o e z => by rw [z,h0] at e; cases e
 have hid:∀ b o,s.heap.get? b = some o → b ≠ ea → b ∉ frs (envOfC qual scope s₀.heap.objs.size f cd :: outer) → (PySem.W.hideAll s.heap (ea :: frs (envOfC qual scope s₀.heap.objs.size f cd :: outer))).get? b = some o:=fun b o e n1 n2 =>
   PySem.W.hideAll_get _ e fun hm => (Bg.mp hm).elim n1 n2
 refine tZ (B:=PySem.W.hideAll s.heap (ea :: frs (envOfC qual scope s₀.heap.objs.size f cd :: outer))) hfr (PySem.W.funFrames_hide hst fun env he b hb => Al _ (Dy.mpr ⟨env,he,hb⟩)) rfl (fun b o q => Fq _ q)
   (PySem.W.hideAll_none _ Aq) he hd h1 c2 fun h2 fl up => ?_
 refine ⟨ea,_,_,_,H,rfl,I.os,I.bare,fl,I.hok.down fun b o u e g => hid b o g (fun z => by rw [z,hn] at e; cases e) fun hm => ?_,⟨fun b o e n hb => ?_,fun b o e n hb => ?_,fun b o e n => hbase.free b o e n (by simp [jC]),fun b o e hb => ?_,hbase.tups,hbase.frzs,hbase.tbls⟩,q⟩
 · rw [hsf b hm] at e
   cases e
 · exact hid b o (hbase.keep b o e n hb (by simp [jC])) (nea b o e) (iK rfl (hlo b o e) hb)
 · obtain ⟨sl,q1⟩:=hbase.slot b o e n hb (by simp [jC])
   obtain ⟨_,o2,g2,nf⟩:=I.ok.funs.mem hb
   have e2:s₀.heap.get? b = some o2:=g2
   rw [e] at e2
   cases e2
   obtain ⟨sl2,q2⟩:=up b _ q1 nf
   exact ⟨sl2,q2⟩
 · obtain ⟨o',q1⟩:=hbase.there b o e (by simp [jC])
   exact ⟨o',hid b o' q1 (nea b o e) (iK rfl (hlo b o e) hb)⟩
end
def cJX (X:Cx) (E:XK):Prop:=∀ (pins:List (Addr × Obj)) (σ:St) (H:Hp) (s:Shared) (ea:Addr) (oe:Obj) (vs:Array Value),Inv X pins σ H s → s.heap.get? ea = some oe → oe.data = .fields vs → vs[1]? = some .none → vs[2]? = some .none → H ea = none → X.s₀.heap.get? ea = none →
 E oe.cls oe.dict H → X.xe (.ref ea) s
theorem bQL {P:Program} {w:World} {K:PySem.W.Frag} {mg:Str → Option Value} {base:Heap} {N:List Str} {qual:Str} {scope:Scope} {f:Addr} {cd:Value} {A:Around} {outer:List Env} {s₀:Shared} {H₀:Hp} {E:XK} :
   cJX (jC (CXr P w) P w K mg base N qual scope f cd A outer s₀ H₀ E) E:=fun _ _ _ _ _ _ _ I he hd h1 c2 hn h0 q => qM I he hd h1 c2 hn h0 q
section
variable {X:Cx} {E:XK} {x:Str} {C:Addr} {bmB:List Value} {B newId initId:String} {e:Expr} {es:List Expr} {ta:TA} {np cpos pos:Pos}
end
abbrev Cx.tr (X:Cx) (pins:List (Addr × Obj)) (xe:Value → Shared → Prop):Cx:={ X with pn:=X.pn ++ pins,xe:=xe }
abbrev Cx.hnd (X:Cx) (pins:List (Addr × Obj)) (ea:Addr):Cx:={ X with A:=X.A.mark (some (.ref ea)),calm:=false,pn:=X.pn ++ pins,xe:=fun _ _ => False }
section
variable {X:Cx} {pins pins':List (Addr × Obj)} {σ:St} {H:Hp} {s:Shared} {xe:Value → Shared → Prop} {ea:Addr}
theorem Inv.tr (I:Inv X pins σ H s) (xe:Value → Shared → Prop):Inv (X.tr pins xe) [] σ H s :=
 ⟨⟨I.ok.mod,I.ok.kind,I.ok.glob,I.ok.blt,I.ok.above,I.ok.inj,I.ok.has,I.ok.cab,I.ok.hd,I.ok.frames,I.ok.stk,I.ok.exf,I.ok.bs,I.ok.bsz,I.ok.noex,I.ok.exfs,I.ok.funs,I.ok.frf⟩,I.os,I.bare,I.base,I.loc,I.cell,I.free,I.freeC,
   fun p hp => I.pin p (by rwa [Bw] at hp),I.hok,I.len⟩
theorem Inv.untr (I:Inv (X.tr pins xe) pins' σ H s):Inv X pins σ H s :=
 ⟨⟨I.ok.mod,I.ok.kind,I.ok.glob,I.ok.blt,I.ok.above,I.ok.inj,I.ok.has,I.ok.cab,I.ok.hd,I.ok.frames,I.ok.stk,I.ok.exf,I.ok.bs,I.ok.bsz,I.ok.noex,I.ok.exfs,I.ok.funs,I.ok.frf⟩,I.os,I.bare,I.base,I.loc,I.cell,I.free,I.freeC,
   fun p hp => I.pin p (Ct _ hp),I.hok,I.len⟩
theorem Inv.hnd (I:Inv X pins σ H s) (ea:Addr):Inv (X.hnd pins ea) [] σ H s :=
 ⟨⟨I.ok.mod,I.ok.kind,I.ok.glob,I.ok.blt,I.ok.above,I.ok.inj,I.ok.has,I.ok.cab,(fun z => nomatch z),I.ok.frames,I.ok.stk,I.ok.exf,I.ok.bs,I.ok.bsz,I.ok.noex,I.ok.exfs,I.ok.funs,I.ok.frf⟩,I.os,I.bare,I.base,I.loc,I.cell,I.free,I.freeC,
   fun p hp => I.pin p (by rwa [Bw] at hp),I.hok,I.len⟩
theorem Inv.unhnd (I:Inv (X.hnd pins ea) pins' σ H s) (ok:X.Ok):Inv X pins σ H s :=
 ⟨ok,I.os,I.bare,I.base,I.loc,I.cell,I.free,I.freeC,fun p hp => I.pin p (Ct _ hp),I.hok,I.len⟩
structure Fre (X:Cx) (pins:List (Addr × Obj)) (a:Addr):Prop where
 s0:X.s₀.heap.get? a = none
 loc:a ≠ X.env.locals
 cell:∀ x c,X.env.cells.lookup x = some c → c ≠ a
 pin:∀ p ∈ X.pn ++ pins,p.1 ≠ a
theorem Inv.adopt {a:Addr} {o:HO} (I:Inv X pins σ H s) (f:Fre X pins a) (hn:H a = none) (new:ObjOk X.prog X.w (upd H a o) s.heap a o):Inv X pins σ (upd H a o) s:=by
 have ne:∀ b u,H b = some u → b ≠ a:=fun b u e => bG e hn
 refine ⟨I.ok,I.os,I.bare,⟨I.base.keep,I.base.slot,fun b u e n hx => ?_,I.base.there,fun b xs e => ?_,fun b u v e => ?_,fun b ps e => ?_⟩,I.loc,I.cell,by rw [aJ f.loc.symm]; exact I.free,fun x c e => by rw [aJ (f.cell x c e)]; exact I.freeC x c e,fun p hp => ?_,fun b u e => ?_,I.len⟩
 · rw [aJ (fun z => by rw [z,f.s0] at e; cases e)]
   exact I.base.free b u e n hx
 · have q:=I.base.tups b xs e
   rw [aJ (ne b _ q)]; exact q
 · have q:=I.base.frzs b u v e
   rw [aJ (ne b _ q)]; exact q
 · obtain ⟨m,q⟩:=I.base.tbls b ps e
   exact ⟨m,by rw [aJ (ne b _ q)]; exact q⟩
 · obtain ⟨h1,h2,h3⟩:=I.pin p hp
   exact ⟨h1,by rw [aJ (f.pin p hp)]; exact h2,h3⟩
 · by_cases hb:b = a
   · subst hb
     rw [aB] at e
     cases e
     exact new
   · rw [aJ hb] at e
     exact (I.hok b u e).stay (fun c v _ q => q) (fun c q => by rw [aJ (ne c _ q)]; exact q) fun c xs q => by rw [aJ (ne c _ q)]; exact q
theorem Inv.unname {i:Nat} {n:Str} {h':Heap} {m:Str → Option Value} {v:Option Value} {t:Nat} (I:Inv X pins σ H s) (hN:X.N.Nodup) (hi:X.N[i]? = some n) (hm:s.heap.Ns X.env.locals m) (hl:X.env.scope.names.lookup n = some .local)
   (hn:h'.Ns X.env.locals (fun x => if x = n then v else m x)) (sb:Heap.SameBut X.env.locals s.heap h'):Inv X pins (σ.set i none) H { s with heap:=h',toks:=t }:=by
 have k:∀ b o,b ≠ X.env.locals → s.heap.get? b = some o → h'.get? b = some o:=fun b o hb e => (sb.2 b hb).trans e
 have nl:∀ b o,X.s₀.heap.get? b = some o → b ≠ X.env.locals:=fun b o e => Bd (Az (An e) I.ok.above)
 have there:∀ b o,s.heap.get? b = some o → ∃ o',h'.get? b = some o':=fun b o e => by
   by_cases hb:b = X.env.locals
   · obtain ⟨o',_,_,q,_⟩:=hn
     exact ⟨o',by rw [hb]; exact q⟩
   · exact ⟨o,k b o hb e⟩
 obtain ⟨m1,hm1,hl1⟩:=id I.loc
 refine ⟨I.ok,I.os,I.bare,⟨fun b o e n hb hx => k b o (nl b o e) (I.base.keep b o e n hb hx),fun b o e n hb hx => ?_,I.base.free,fun b o e hx => ?_,I.base.tups,I.base.frzs,I.base.tbls⟩,⟨_,hn,fun j y u e1 e2 e3 => ?_⟩,fun x c e => ?_,I.free,I.freeC,fun p hp => ?_,fun b u e => ?_,by rw [List.length_set]; exact I.len⟩
 · obtain ⟨sl,q⟩:=I.base.slot b o e n hb hx
   exact ⟨sl,k b _ (nl b o e) q⟩
 · obtain ⟨o',q⟩:=I.base.there b o e hx
   exact there b o' q
 · have hji:j ≠ i:=fun z => by
     subst z
     rw [Fy (by rw [I.len]; exact (Ad.mp hi).1)] at e2
     cases e2
   rw [Fa (Ne.symm hji)] at e2
   have hyn:y ≠ n:=fun z => hji (lS hN e1 (by rw [z]; exact hi))
   obtain ⟨u',r,look⟩:=hl1 j y u e1 e2 e3
   have em:m1 = m:=by
     obtain ⟨o1,es1,ep1,g1,d1,_,f1⟩:=hm1
     obtain ⟨o2,es2,ep2,g2,d2,_,f2⟩:=hm
     rw [g1] at g2; cases g2
     rw [d1] at d2; cases d2
     funext z
     rw [← f1 z,f2 z]
   refine ⟨u',r,?_⟩
   rcases look with ⟨z1,z2⟩ | ⟨z1,c,z2,o,z3,z4⟩
   · exact .inl ⟨z1,by show (if y = n then v else m y) = _; rw [if_neg hyn,← em]; exact z2⟩
   · exact .inr ⟨z1,c,z2,o,k c o (I.cne y c z2) z3,z4⟩
 · obtain ⟨v',o,z1,z2⟩:=I.cell x c e
   exact ⟨v',o,k c o (I.cne x c e) z1,z2⟩
 · obtain ⟨h1,h2,h3,h4⟩:=I.pin p hp
   exact ⟨k _ _ h3 h1,h2,h3,h4⟩
 · refine (I.hok b u e).stay (fun c o hc q => k c o (fun z => ?_) q) (fun _ q => q) fun _ _ q => q
   have fr:=I.free
   rcases hc with z1 | z1
   · rw [← z1,z,fr] at e; cases e
   · rw [z,fr] at z1; cases z1
end
def nT (ea:Addr) (cls:Value) (d:Option Addr):HO:=.ext fun h => ∃ oe vs,h.get? ea = some oe ∧ oe.cls = cls ∧ oe.dict = d ∧ oe.data = .fields vs
theorem Fly.obj {P:Program} {w:World} {B:Heap} {l:List Env} {ea:Addr} {cls fl:Value} {d:Option Addr} {h:Heap} {H:Hp} (F:Fly B l ea cls d fl h):ObjOk P w H h ea (nT ea cls d):=by
 obtain ⟨oe,vs,T,oT,ts,he,hc,hd,_⟩:=F.on
 exact ⟨⟨oe,vs,he,hc.1,hc.2,hd⟩,⟨oe,he⟩,fun h1 h2 ⟨o,ws,g,q⟩ k => ⟨o,ws,k o g,q⟩⟩
def XS (X:Cx) (pins:List (Addr × Obj)) (R:Value → Option Addr → St → Hp → Prop):Value → Shared → Prop:=fun e s1 =>
 ∃ ea cls d B σ1 H1,e = .ref ea ∧ Fly B X.stack ea cls d .none s1.heap ∧ Fre X pins ea ∧ H1 ea = none ∧ (∀ h2,B.StaysIn h2 → s1.heap.UpToSlots h2 → Inv X pins σ1 H1 { s1 with heap:=h2 }) ∧ R cls d σ1 H1
def aQX (CX:CXT) (X:Cx) (Es:St → XK):Prop:=∀ (pins:List (Addr × Obj)) (σ:St) (H:Hp) (s:Shared) (e:Value) (s':Shared),Inv X pins σ H s → CX X.stack H s (Es σ) e s' → X.xe e s'
theorem uK {X:Cx} {pins:List (Addr × Obj)} {R:Value → Option Addr → St → Hp → Prop} (hex:X.ex = []):aQX (CXr X.prog X.w) (X.tr pins (XS X pins R)) (fun σ cls d H1 => R cls d σ H1):=by
 intro pins' σ H s e s1 I' h
 obtain ⟨ea,cls,d,B,H1,rfl,os,bare,F,hok,un,q⟩:=h
 have I:Inv X pins σ H s:=I'.untr
 have F:Fly B X.stack ea cls d .none s1.heap:=F
 have un:UnB (frs X.stack) H H1 s.heap B s1.heap:=un
 have nfs:ea ∉ frs X.stack:=fun hm => by
   obtain ⟨_,o,g,nf⟩:=F.frames.mem hm
   obtain ⟨oe,vs,T,oT,ts,he,hc,hd,_⟩:=F.on
   rw [g] at he; cases he
   exact nf vs hd
 have ne:∀ b o,s.heap.get? b = some o → b ≠ ea:=fun b o g z => by
   subst z
   obtain ⟨o',g'⟩:=un.there b o g nfs
   rw [F.new] at g'
   cases g'
 refine ⟨ea,cls,d,B,σ,H1,rfl,F,⟨?_,?_,fun x c z => ?_,fun p hp => ?_⟩,hok.hole F.new,fun h2 st up => ?_,q⟩
 · cases z:X.s₀.heap.get? ea with
   | none => rfl
   | some o =>
     obtain ⟨o',z'⟩:=I.base.there ea o z (by rw [hex]; simp)
     exact absurd rfl (ne ea o' z')
 · obtain ⟨m,⟨o,_,_,g,_⟩,_⟩:=I.loc
   exact (ne _ o g).symm
 · obtain ⟨v,o,g,_⟩:=I.cell x c z
   exact ne c o g
 · exact ne p.1 p.2 (I.pin p hp).1
 · have slot:∀ b o,s.heap.get? b = some o → b ∈ frs X.stack → ∃ sl,h2.get? b = some { o with slots:=sl }:=fun b o g hb => by
     obtain ⟨sl,g1⟩:=un.slot b o g (I.stkFree b hb) hb
     obtain ⟨_,o2,g2,nf⟩:=I.stack.mem hb
     rw [g] at g2; cases g2
     obtain ⟨sl2,g3⟩:=up b _ g1 nf
     exact ⟨sl2,g3⟩
   refine I.call' (s':={ s1 with heap:=h2 }) (ch:=[]) os ⟨fun b o g n hb _ => st b o (un.keep b o g n hb),fun b o g n hb _ => slot b o g hb,fun b o g n _ => un.free b o g n,fun b o g _ => ?_,un.tups,un.frzs,un.tbls⟩ (hok.kept fun b o g => st b o g) bare fun b hb => absurd hb (by simp)
   by_cases hb:b ∈ frs X.stack
   · obtain ⟨sl,g1⟩:=slot b o g hb
     exact ⟨_,g1⟩
   · obtain ⟨o',g1⟩:=un.there b o g hb
     exact ⟨o',st b o' g1⟩
section
variable {X:Cx} {CX:CXT} {k:Nat} {f:Addr} {fd:FuncData} {ps:List Str} {sp:Sp} {Es:St → XK} {x:Str} {p pos:Pos} {e:Expr} {es:List Expr} {t:TA}
def tM (sp:Sp) (Es:St → XK) (t:TA):TE:=fun σ H Q => t σ H fun vs H1 => sp vs H1 Q (Es σ)
theorem aX4 (F:FnOk X.prog X.w X.K X.mg X.base CX k f fd ps sp) (hr:Room k X.A) (hg:Gl X x) (hm:X.mg x = some (.ref f)) (hk:PySem.W.keepIn X.K (.ref f) = true) (hb:Binds X.K fd ps []) (hx:aQX CX X Es) (ha:PA X (e :: es) t)
   (hdb:(x == ("__debug__" : Str)) = false:=by decide) (he:starEach (e :: es) X.env = (false,eval e X.env) :: starEach es X.env:=by rfl) (hpl:(backTo pos (starEach es X.env)).any (·.1) = false:=by rfl) :
   PE X (.Call (.Name x p) (e :: es) [] pos) (tM sp Es t):=by
 intro pins s σ H Q I h
 refine Ek (gY I hg hm ?_ hdb)
 refine PySem.W.callWith_K (h₀:=X.base) I.ok.mod.kin hk (thn (ha pos pins s σ H _ I h) fun us s1 ⟨vs,H1,I1,r,q⟩ => ⟨I1.kIn,?_⟩) he hpl
 have hl:us.length = ps.length:=by rw [← r.length]; exact F.len _ _ _ _ q
 have hb1:=hb s1 us I1.kIn (by rw [Bw]; exact hl)
 rw [Bw] at hb1
 refine Gh (Fd (F.run X.A X.stack s1 H1 ⟨us,[]⟩ us vs Q (Es σ) hr I1.env0 hb1 r q) fun rs s' hq => ?_)
 cases rs with
 | error e => exact hx pins σ H1 s1 e s' I1 hq
 | ok fl =>
   cases fl with
   | ret u => exact I1.after hq
   | next => exact False.elim hq
   | brk => exact False.elim hq
   | cont => exact False.elim hq
end
def cJZ (K:PySem.W.Frag) (C:Addr) (i:Nat) (mk:(Value → Option Addr → St → Hp → Prop) → TS) (ts:TS):TS:=fun D σ H =>
 mk (fun cls d σ1 H1 => PySem.W.exmOne K cls (.ref C) = some true ∧ ∀ ea,H1 ea = none →
   ts { nx:=fun σ2 H2 => D.nx (σ2.set i none) H2,rt:=D.rt,bk:=fun σ2 H2 => D.bk (σ2.set i none) H2,ct:=fun σ2 H2 => D.ct (σ2.set i none) H2 } (σ1.set i (some (.ref ea))) (upd H1 ea (nT ea cls d))) D σ H
section
variable {X:Cx} {pins:List (Addr × Obj)}
theorem SP.untr {xe:Value → Shared → Prop} {D:Ends} {f:Flow} {s':Shared} (h:SP (X.tr pins xe) [] D f s'):SP X pins D f s':=by
 cases f with
 | next => obtain ⟨σ',H',I,q⟩:=h; exact ⟨σ',H',I.untr,q⟩
 | brk => obtain ⟨σ',H',I,q⟩:=h; exact ⟨σ',H',I.untr,q⟩
 | cont => obtain ⟨σ',H',I,q⟩:=h; exact ⟨σ',H',I.untr,q⟩
 | ret u => obtain ⟨v,σ',H',I,r,q⟩:=h; exact ⟨v,σ',H',I.untr,r,q⟩
theorem cQ1 {body suite:List Stmt} {b0:Stmt} {x n:Str} {np hp pos:Pos} {i:Nat} {C:Addr} {mk:(Value → Option Addr → St → Hp → Prop) → TS} {ts:TS} (hstk:X.stack = X.env :: X.outer) (hfm:X.env.frame = some X.env.locals) (hex:X.ex = [])
   (hN:X.N.Nodup) (hi:X.N[i]? = some n) (hl:X.env.scope.names.lookup n = some .local) (hg:Gl X x) (hm:X.mg x = some (.ref C)) (hb:∀ pins R,PSs (X.tr pins (XS X pins R)) body (mk R)) (hs:∀ pins ea,PSs (X.hnd pins ea) (b0 :: suite) ts)
   (hd:(x == ("__debug__" : Str)) = false:=by decide):PS X (.Try body [.ExceptHandler (some (.Name x np)) (some n) (b0 :: suite) hp] [] [] pos) (cJZ X.K C i mk ts):=by
 intro pins s σ H D I h
 have hfr:X.A.frames = some (X.env :: X.outer):=by rw [← hstk]; exact I.ok.frames
 have hcls:(X.env.scope.kind == .class || (X.env.scope.kind == .module && X.env.locals != X.env.globals)) = false:=by rw [I.ok.kind]; rfl
 refine wpAny_Try_except (Bv (hb pins _ [] s σ H D (I.tr _) h) (fun f s1 q => ?_) fun e s1 q => ?_)
 · cases f with
   | next =>
     obtain ⟨σ',H',I',q⟩:=q.untr
     exact bQ pins s1 σ' H' D I' q
   | brk => exact q.untr
   | cont => exact q.untr
   | ret u => exact q.untr
 · obtain ⟨ea,cls,d,B,σ1,H1,rfl,F,fre,hn,inv,hx,r⟩:=q
   rw [hstk] at F
   refine aZU hfr hfm F fun h2 F2 u2 => iZ (s:={ s1 with heap:=h2 }) F2 fun h3 F3 u3 => ?_
   have I3:=inv h3 F3.stays (u2.trans u3)
   refine wpAny_handleBy_cons (codeAny_handlers_test (gY (I3.hnd ea) hg hm ?_ hd)) (by intro q; cases q)
   obtain ⟨oe,vs,T,oT,tts,he,hc,_⟩:=id F3.on
   refine PySem.W.exm_one I3.kIn (hc.1 ▸ (PySem.W.Looks.ld he).andThen .now) hx _ _ _ _ (fun _ _ q => q) ?_
   refine codeAny_handlers_suite_as (iZ (s:={ s1 with heap:=h3 }) F3 fun h4 F4 u4 => ?_)
   have I4:=(inv h4 F4.stays ((u2.trans u3).trans u4)).adopt (o:=nT ea cls d) fre hn F4.obj
   refine mS I4 hN hi (.inl hl) (v:=.ref ea) rfl (fun s5 I5 => ?_) (.inr hl)
   refine Bv (hs pins ea [] s5 _ _ _ (I5.hnd ea) (r ea hn)) (fun f s6 q => ?_) fun _ _ z => z.elim
   have go:∀ {σ2:St} {H2:Hp} {Q:Unit → Shared → Prop} {E:Value → Shared → Prop},Inv (X.hnd pins ea) [] σ2 H2 s6 → (∀ s7,Inv X pins (σ2.set i none) H2 s7 → Q () s7) →
       wpAny (model X.prog X.w) X.A (do bindName X.env n .none; unbindBehindTheSuite X.env n hp) Q E s6:=fun {σ2 H2 Q E} I6 k => by
     have I6':=I6.unhnd I.ok
     obtain ⟨m,hm6,_⟩:=id I6'.loc
     exact wpAny_nameGoes_keeps hl hm6 hcls fun h7 v hn7 sb => k _ (I6'.unname hN hi hm6 hl hn7 sb)
   cases f with
   | next =>
     obtain ⟨σ2,H2,I6,q⟩:=q
     exact go I6 fun s7 I7 => ⟨_,H2,I7,q⟩
   | brk =>
     obtain ⟨σ2,H2,I6,q⟩:=q
     exact go I6 fun s7 I7 => ⟨_,H2,I7,q⟩
   | cont =>
     obtain ⟨σ2,H2,I6,q⟩:=q
     exact go I6 fun s7 I7 => ⟨_,H2,I7,q⟩
   | ret u =>
     obtain ⟨v,σ2,H2,I6,rv,q⟩:=q
     exact go I6 fun s7 I7 => ⟨v,_,H2,I7,rv,q⟩
theorem SP.unhnd {ea:Addr} {D:Ends} {f:Flow} {s':Shared} (ok:X.Ok) (h:SP (X.hnd pins ea) [] D f s'):SP X pins D f s':=by
 cases f with
 | next => obtain ⟨σ',H',I,q⟩:=h; exact ⟨σ',H',I.unhnd ok,q⟩
 | brk => obtain ⟨σ',H',I,q⟩:=h; exact ⟨σ',H',I.unhnd ok,q⟩
 | cont => obtain ⟨σ',H',I,q⟩:=h; exact ⟨σ',H',I.unhnd ok,q⟩
 | ret u => obtain ⟨v,σ',H',I,r,q⟩:=h; exact ⟨v,σ',H',I.unhnd ok,r,q⟩
end
end L2
set_option maxHeartbeats 4000000
namespace L2
open PySem PySem.Spec PyProof.Rows PySem.W
structure ExK (K:Frag) (D:Addr):Prop where
 cls:hasDictIn K D = true
 ga:findIn K (.ref D) "__getattribute__" = some (some (.builtin "BaseException.__getattribute__"))
 gh:findIn K (.ref D) "__getattr__" = some none
 ca:findIn K (.ref D) "__class__" = some (some (.builtin "object.__class__"))
 cg:specialIn K (.builtin "object.__class__") "__get__" = some (some (.builtin "getset_descriptor.__get__"))
 ct:takesIn K (.builtin "object.__class__") = some true
 mo:mroIn K D (.type "object") = some true
 mb:PySem.W.subIn K (.ref D) (.type "BaseException") = some true
section
variable {prog:Program} {w:World} {A:Around} {E:Value → Shared → Prop} {s:Shared} {K:Frag} {x D:Addr} {ox:Obj} {od:Option Obj}
theorem zV {M:Model} {nm:Value} {Q:Unit → Shared → Prop} (Z:ExK K D) (X:K.In s.heap) (I:InstAt s.heap x ox D od) (hq:Q () s):wpAny M A (checkBuiltinCall "BaseException.__getattribute__" ⟨[.ref x,nm],[]⟩) Q E s:=by
 have hk:builtinKind "BaseException.__getattribute__" = some .slot:=by decide +kernel
 have hs:splitId "BaseException.__getattribute__" = some ("BaseException", "__getattribute__"):=by decide +kernel
 have L0:=I.type (M:=M)
 have L1:=looks_subIn (M:=M) X Z.mb
 have ha:=F.args_bexc_ga (.ref x) nm
 simp only [checkBuiltinCall,hk,hs]
 refine Ac ((L0.andThen L1).at ?_)
 rw [if_neg (show ¬ ((!true) = true) by decide)]
 exact wpAny_of_eq ha hq
end
section
variable {K:PySem.W.Frag} {H:Hp} {Q:VK} {ea D tp:Addr} {c:V} {cs:List V} {cv:Value} {cvs:List Value} {b:Bool}
theorem bX0 {sp:Sp} {Es:St → XK} {t:TA} {σ:St} (h:t σ H fun vs H1 => sp vs H1 Q (Es σ)):tM sp Es t σ H Q:=h
end
def bJ0 (P:Program) (w:World) (K:PySem.W.Frag) (mg:Str → Option Value) (base:Heap) (k:Nat) (x:Str) (ps:List Str) (sp:Sp):Prop :=
 ∃ (f:Addr) (fd:FuncData),FnOk P w K mg base (CXr P w) k f fd ps sp ∧ mg x = some (.ref f) ∧ PySem.W.keepIn K (.ref f) = true ∧ Binds K fd ps []
section
variable {X:Cx} {k k':Nat} {ps:List Str} {sp:Sp} {x:Str} {p pos:Pos} {e:Expr} {es:List Expr} {t:TA} {E:XK} {Es:St → XK}
theorem bQB (c:bJ0 X.prog X.w X.K X.mg X.base k x ps sp) (hx:aQX (CXr X.prog X.w) X Es) (hr:Room k' X.A) (hk:k ≤ k') (hg:Gl X x)
   (ha:PA X (e :: es) t) (hdb:(x == ("__debug__" : Str)) = false:=by decide) (he:starEach (e :: es) X.env = (false,eval e X.env) :: starEach es X.env:=by rfl) (hpl:(backTo pos (starEach es X.env)).any (·.1) = false:=by rfl) :
   PE X (.Call (.Name x p) (e :: es) [] pos) (tM sp Es t):=by
 obtain ⟨f,fd,F,hm,hk',hb⟩:=c
 exact aX4 F (hr.mono hk) hg hm hk' hb hx ha hdb he hpl
theorem PS.nox {st:Stmt} {t:TS} (h:PS X.nox st t):PS X st t:=fun pins s σ H D I hw =>
 Bv (h pins s σ H D (I.wish _) hw) (fun _ _ q => q.unwish) fun _ _ z => False.elim z
end
section
variable {P:Program} {w:World} {K:PySem.W.Frag} {mg:Str → Option Value} {base:Heap}
theorem Fun.okX {x qual:Str} {st:Stmt} {f:Addr} {fd:FuncData} {N ps:List Str} {k:Nat} {sp:Sp} (F:Fun K x qual st f fd) (S:FnScope N ps (aG st)) (len:∀ vs H Q E,sp vs H Q E → vs.length = ps.length)
   (hbody:∀ (cdv:Value) (A:Around) (outer:List Env) (s:Shared) (H:Hp) (vs:List V) (Q:VK) (E:XK),Room k (A.deeper (envOfC qual (aG st) s.heap.objs.size f cdv)) → sp vs H Q E →
     ∃ t,PSs (jC (CXr P w) P w K mg base N qual (aG st) f cdv A outer s H E) (aU st) t ∧ t { nx:=fun _ H' => Q .non H',rt:=Q } (fL N vs) H):FnOk P w K mg base (CXr P w) (k + 1) f fd ps sp:=by
 obtain ⟨oc,od,kV,doc,pm,an,cdv,ct,osl,rfl,lk,hcd⟩:=F.ex
 exact bZN lk hcd S len fun A outer s H vs Q E hr hsp => hbody cdv A outer s H vs Q E hr hsp
end
theorem cZF {K:PySem.W.Frag} {C:Addr} {i:Nat} {mk:(Value → Option Addr → St → Hp → Prop) → TS} {ts:TS} {D:Ends} {σ:St} {H:Hp}
   (h:mk (fun cls d σ1 H1 => PySem.W.exmOne K cls (.ref C) = some true ∧ ∀ ea,H1 ea = none → ts { nx:=fun σ2 H2 => D.nx (σ2.set i none) H2,rt:=D.rt,bk:=fun σ2 H2 => D.bk (σ2.set i none) H2,ct:=fun σ2 H2 => D.ct (σ2.set i none) H2 } (σ1.set i (some (.ref ea))) (upd H1 ea (nT ea cls d))) D σ H):cJZ K C i mk ts D σ H:=h
end L2
set_option maxHeartbeats 4000000
namespace L2
open PySem PySem.Spec PyProof.Rows
def Itz (K:PySem.W.Frag) (a b:Addr):It :=
 ⟨fun i H => ∃ xs ys x y,SqL K H a xs ∧ SqL K H b ys ∧ xs[i]? = some x ∧ ys[i]? = some y,fun i H v H' => ∃ p x y,H p = none ∧ v = .ref p ∧ H' = upd H p (.tup [x,y]) ∧ (∀ xs,SqL K H a xs → xs[i]? = some x) ∧ (∀ ys,SqL K H b ys → ys[i]? = some y),
   fun i H => ∃ xs ys,SqL K H a xs ∧ SqL K H b ys ∧ (xs.length ≤ i ∨ ys.length ≤ i)⟩
structure ZipOf (z TI TO i1 i2:Addr):Prop where
 d1:TI ≠ z
 d2:TO ≠ z
 d3:i1 ≠ z
 d4:i2 ≠ z
 d5:TI ≠ TO
 d6:TI ≠ i1
 d7:TI ≠ i2
 d8:TO ≠ i1
 d9:TO ≠ i2
 d0:i1 ≠ i2
theorem gN {h:Heap} {a b:Addr} {o u:Obj} (ha:h.get? a = some o) (hb:h.get? b = some u) {S T:String} (hs:o.cls = .type S) (ht:u.cls = .type T) (n:S ≠ T):a ≠ b:=fun z => by
 subst z
 rw [ha] at hb; cases hb
 rw [hs] at ht; injection ht with ht; exact n ht
theorem oW {h:Heap} {z TI TO i1 i2 a b:Addr} {f0 p q:Value} {k1 k2:Nat} {xs ys:Array Value} (D:ZipOf z TI TO i1 i2) (hz:IsZip h z TI TO f0) (hO:IsPair h TO p q) (h1:h.IsListIter i1 a k1) (h2:h.IsListIter i2 b k2) (ha:h.IsList a xs) (hb:h.IsList b ys):ZipApart z TI TO i1 i2 a b:=by
 obtain ⟨o1,g1,c1,_⟩:=h1
 obtain ⟨o2,g2,c2,_⟩:=h2
 obtain ⟨oa,ga,ca,_⟩:=ha
 obtain ⟨ob,gb,cb,_⟩:=hb
 exact ⟨D.d1,D.d2,D.d3,D.d4,D.d5,D.d6,D.d7,D.d8,D.d9,D.d0,gN ga hz ca rfl (by decide),gN ga hO ca rfl (by decide),gN ga g1 ca c1 (by decide),gN ga g2 ca c2 (by decide),gN gb hz cb rfl (by decide),gN gb hO cb rfl (by decide),gN gb g1 cb c1 (by decide),gN gb g2 cb c2 (by decide)⟩
theorem aXJ {P:Program} {w:World} {K:PySem.W.Frag} {elts:List Expr} {x1:Nat} {tp:Pos} (a b z TI TO i1 i2:Addr) (D:ZipOf z TI TO i1 i2) :
   Turn P w K (.Tuple elts x1 tp) (Itz K a b) [z,TI,TO,i1,i2] z (fun i h => IsZip h z TI TO .none ∧ IsPair h TI (.ref i1) (.ref i2) ∧ (∃ p q,IsPair h TO p q) ∧ h.IsListIter i1 a i ∧ h.IsListIter i2 b i) where
 mem:=by simp
 obj:=fun i h st c hc => by
   obtain ⟨hz,hI,⟨p,q,hO⟩,⟨o1,g1,_,e1⟩,o2,g2,_,e2⟩:=st
   simp only [List.mem_cons,List.not_mem_nil,or_false] at hc
   rcases hc with z | z | z | z | z <;> subst z
   · exact ⟨_,hz,fun v z => by cases z⟩
   · exact ⟨_,hI,fun v z => by cases z⟩
   · exact ⟨_,hO,fun v z => by cases z⟩
   · exact ⟨o1,g1,fun v z => by rw [e1] at z; cases z⟩
   · exact ⟨o2,g2,fun v z => by rw [e2] at z; cases z⟩
 keep:=fun i h h' st kk => by
   obtain ⟨hz,hI,⟨p,q,hO⟩,g1,g2⟩:=st
   exact ⟨kk z (by simp) _ hz,kk TI (by simp) _ hI,⟨p,q,kk TO (by simp) _ hO⟩,g1.at fun o e => kk i1 (by simp) o e,g2.at fun o e => kk i2 (by simp) o e⟩
 item:=by
   intro X hP hw hK hc i pins s σ H E I hf st hg
   subst hP hw hK
   obtain ⟨xs,ys,x,y,qa,qb,hx,hy⟩:=hg
   obtain ⟨us,ra,pa,_⟩:=I.list qa
   obtain ⟨vs,rb,pb,_⟩:=I.list qb
   obtain ⟨u,hu,ru⟩:=ra.get hx
   obtain ⟨v,hv,rv⟩:=rb.get hy
   obtain ⟨hz,hI,⟨p,q,hO⟩,g1,g2⟩:=st
   have D2:=oW D hz hO g1 g2 pa.isList pb.isList
   have fr:∀ c o,s.heap.get? c = some o → s.heap.objs.size ≠ c:=fun c o e => Fz (An e)
   refine wpAny_pyNext_zip_item D2 hz hI hO g1 g2 pa.isList pb.isList (x:=u) (y:=v) (by simpa using hu) (by simpa using hv) fun h1 a1 a2 a3 a4 a5 a6 kk => ?_
   refine ⟨_,rfl,wpAny_letOwnedTupleGo_zip a1 fun h2 z2 sb => ?_⟩
   have up:∀ c o,c ≠ z → h1.get? c = some o → h2.get? c = some o:=fun c o n e => (sb.2 c n).trans e
   have I2:Inv X pins σ (upd H s.heap.objs.size (.tup [x,y])) { s with heap:=h2 }:=by
     refine I.turnLaid (t':=s.toks) (ch:=[z,TI,TO,i1,i2]) hf (fun c o n e => ?_) (Ai _) ⟨bX (by show 2 ≤ _; omega),[u,v],.cons ru (.cons rv .nil),_,up _ _ (fr z _ hz) a5,rfl,_,rfl⟩
     simp only [List.mem_cons,List.not_mem_nil,or_false,not_or] at n
     exact up c o n.1 (kk c o n.1 n.2.2.1 n.2.2.2.1 n.2.2.2.2 e)
   refine ⟨.ref s.heap.objs.size,_,I2,rfl,⟨_,x,y,I.hok.fresh (Ai _),rfl,rfl,fun zs hq => by rw [I.list_inj hq qa]; exact hx,fun zs hq => by rw [I.list_inj hq qb]; exact hy⟩,
     ⟨z2,up _ _ D.d1 (kk _ _ D.d1 D.d5 D.d6 D.d7 hI),⟨_,_,up _ _ D.d2 a2⟩,a3.at fun o e => up _ o D.d3 e,a4.at fun o e => up _ o D.d4 e⟩,fun c hc => ?_⟩
   have hn:=(hf c hc).1
   rw [aJ]
   · exact hn
   · obtain ⟨o1,e1,_⟩:=g1
     obtain ⟨o2,e2,_⟩:=g2
     simp only [List.mem_cons,List.not_mem_nil,or_false] at hc
     rcases hc with z | z | z | z | z <;> subst z
     · exact (fr _ _ hz).symm
     · exact (fr _ _ hI).symm
     · exact (fr _ _ hO).symm
     · exact (fr _ _ e1).symm
     · exact (fr _ _ e2).symm
 done:=by
   intro X hP hw hK hc i pins s σ H E I hf st hg
   subst hP hw hK
   obtain ⟨xs,ys,qa,qb,hl⟩:=hg
   obtain ⟨us,ra,pa,_⟩:=I.list qa
   obtain ⟨vs,rb,pb,_⟩:=I.list qb
   have e1:=ra.length
   have e2:=rb.length
   obtain ⟨hz,hI,⟨p,q,hO⟩,g1,g2⟩:=st
   refine wpAny_pyNext_zip_end (I.ok.hd hc) (oW D hz hO g1 g2 pa.isList pb.isList) hz hI hO g1 g2 pa.isList pb.isList ?_ fun h' kk => ⟨rfl,?_⟩
   · rcases hl with z | z
     · exact .inl (by simp; omega)
     · exact .inr (by simp; omega)
   · refine I.turnAll (t':=s.toks) (ch:=[z,TI,TO,i1,i2]) hf fun c o n e => ?_
     simp only [List.mem_cons,List.not_mem_nil,or_false,not_or] at n
     exact kk c o n.1 n.2.2.1 n.2.2.2.1 n.2.2.2.2 e
 self:=fun _ _ _ _ _ st h => wpAny_pyIter_zip st.1 h
theorem aXU:bootBuiltins "zip" = some (.type "zip"):=by decide +kernel
section
variable {X:Cx} {l1 l2:Expr} {ta:TA} {elts:List Expr} {x1:Nat} {tp p pos:Pos}
def aZM (R:Addr → Addr → Hp → Prop):List V → Hp → Prop:=fun vs H => match vs with | [.ref i,.ref j] => R i j H | _ => False
theorem bQR {R:Addr → Addr → Hp → Prop} {vs:List V} {H:Hp} (q:aZM R vs H):∃ i j,vs = [.ref i,.ref j] ∧ R i j H:=by
 unfold aZM at q
 split at q
 · exact ⟨_,_,rfl,q⟩
 · exact q.elim
def dQD (K:PySem.W.Frag) (ta:TA):TI:=fun σ H R => ta σ H (aZM fun a b H1 => onL (rdL H1 a) (onL (rdL H1 b) (R (Itz K a b) H1)))
theorem cXM (hg:Gl X "zip") (hm:X.mg "zip" = none) (ha:PA X [l1,l2] ta) (hs:starEach [l1,l2] X.env = [(false,eval l1 X.env),(false,eval l2 X.env)]:=by rfl) (hs2:starEach [l2] X.env = [(false,eval l2 X.env)]:=by rfl) :
   PI X (.Tuple elts x1 tp) (.Call (.Name "zip" p) [l1,l2] [] pos) (dQD X.K ta):=by
 intro pins s σ H R I h
 refine Call_ (gG I hg hm aXU (Co (thn (ha pos pins s σ H _ I h) fun us s1 ⟨vs,H1,I1,r1,q1⟩ => ?_) (by rw [hs,hs2]) (by rw [hs2]; rfl)))
 obtain ⟨a,b,rfl,q⟩:=bQR q1
 obtain ⟨u,u2,rfl,ru,ru2⟩:=oZ r1
 cases ru
 cases ru2
 unfold onL at q
 split at q
 · rename_i xs ex
   split at q
   · rename_i ys ey
     obtain ⟨us,ra,pa,_⟩:=I1.list (aO ex)
     obtain ⟨vs,rb,pb,_⟩:=I1.list (aO ey)
     refine call_zip_2 pa.isList pb.isList fun h' hz hI hO g1 g2 hsz hk => ?_
     refine wpAny_pyIter_zip (s:={ s1 with heap:=h' }) hz ⟨_,[s1.heap.objs.size + 4,s1.heap.objs.size + 2,s1.heap.objs.size + 3,s1.heap.objs.size,s1.heap.objs.size + 1],_,_,H1,rfl,I1.kept (t':=s1.toks) hk,
       aXJ a b _ _ _ _ _ ⟨by simp,by simp,by simp,by simp,by simp,by simp,by simp,by simp,by simp,by simp⟩,⟨hz,hI,⟨_,_,hO⟩,g1,g2⟩,fun c hc => ?_,q⟩
     have z:s1.heap.objs.size ≤ c:=by
       simp only [List.mem_cons,List.not_mem_nil,or_false] at hc
       rcases hc with z | z | z | z | z <;> (rw [z]; first | exact Ai _ | exact Nat.le_add_right _ _)
     exact I1.fpOk z (I1.hok.fresh z)
   · exact q.elim
 · exact q.elim
end
section
variable {K:PySem.W.Frag} {a b:Addr} {xs ys:List V} {g:TG} {tb:TS} {D:Ends} {σ:St} {H:Hp}
theorem bJ4 (Pv:Nat → St → Hp → Prop) (h0:Pv 0 σ H) (hl:∀ i σ H,i ≤ xs.length → i ≤ ys.length → Pv i σ H → rdL H a = some xs ∧ rdL H b = some ys)
   (hs:∀ i x y σ H p,xs[i]? = some x → ys[i]? = some y → Pv i σ H → H p = none → g (.ref p) σ (upd H p (.tup [x,y])) fun σ2 H2 => tb { D with nx:=Pv (i + 1),ct:=Pv (i + 1),bk:=D.nx } σ2 H2)
   (hd:∀ σ H,Pv (min xs.length ys.length) σ H → D.nx σ H):qP (Itz K a b) g tb D σ H:=by
 refine ⟨fun i m σ H => m = min xs.length ys.length - i ∧ i ≤ min xs.length ys.length ∧ Pv i σ H,⟨min xs.length ys.length,by simp,Nat.zero_le _,h0⟩,?_⟩
 rintro i m σ H ⟨rfl,hi,p⟩
 obtain ⟨hr1,hr2⟩:=hl i σ H (by omega) (by omega) p
 by_cases hlt:i < min xs.length ys.length
 · refine .inr ⟨⟨xs,ys,xs[i]'(by omega),ys[i]'(by omega),aO hr1,aO hr2,Aa _,Aa _⟩,Pv (i + 1),fun σ' H' p' => ⟨min xs.length ys.length - (i + 1),by omega,rfl,hlt,p'⟩,fun x H' y => ?_⟩
   obtain ⟨q,x1,y1,hq,rfl,rfl,hx,hy⟩:=y
   exact hs i x1 y1 σ H q (hx xs (aO hr1)) (hy ys (aO hr2)) p hq
 · have e:i = min xs.length ys.length:=by omega
   subst e
   exact .inl ⟨⟨xs,ys,aO hr1,aO hr2,by omega⟩,hd σ H p⟩
theorem bJK {ta:TA} {R:It → Hp → Prop} (h:ta σ H (aZM fun a b H1 => onL (rdL H1 a) (onL (rdL H1 b) (R (Itz K a b) H1)))):dQD K ta σ H R:=h
theorem cQ7 {R:Addr → Addr → Hp → Prop} (h:R a b H):aZM R [.ref a,.ref b] H:=h
end
end L2
set_option maxHeartbeats 4000000
namespace L2
open PySem PySem.Spec PyProof.Rows
section
variable {X:Cx} {o e:Expr} {es:List Expr} {to:TE} {t:TA} {name:Str} {apos cpos:Pos} {T id:String} {r:V → List V → Hp → VK → Prop}
def aX8 (T:String) (r:V → List V → Hp → VK → Prop) (to:TE):TE:=fun σ H Q => to σ H fun x H1 => pS T x H1 (r x [] H1 Q)
theorem mO (pa:PlainAttrs T) (slot:Slot T name id) (hty:typeOf (.builtin id) = pure (.type "method_descriptor")) (hm:MtR X id r) (ho:PE X o to)
   (hbase:attributeBase o name X.env (eval o X.env) = eval o X.env:=by rfl) (hline:(apos.endLine == cpos.line) = true:=by rfl):PE X (.Call (.Attribute o name apos) [] [] cpos) (aX8 T r to):=by
 intro pins s σ H Q I h
 refine wpAny_Call_method0_late hbase hline (thn (ho pins s σ H _ I h) fun v s1 ⟨x,H1,I1,r1,q⟩ => ?_)
 obtain ⟨ty,q1⟩:=sI (K:=X.K) q
 obtain ⟨h1,h2⟩:=aZ4 I1 r1 ty
 exact ⟨T,id,pa,slot,hty,h1,h2,Gb rfl (PySem.evalArgs_none (hm pins s1 σ H1 x [] v [] Q I1 r1 .nil q1))⟩
def bXO:V → List V → Hp → VK → Prop:=fun x vs H Q => match x,vs with
 | .ref l,[.ref b] => (match eT H l,eT H b with | some xs,some zs => xs.length + zs.length ≤ sizeLine ∧ Q .non (upd H l (.lst (xs ++ zs))) | _,_ => False)
 | _,_ => False
theorem aZS:MtR X "list.extend" bXO:=MtR.imp (r:=xK) xT fun _ _ _ _ q => by
 unfold bXO at q
 split at q
 · split at q
   · exact ⟨_,_,_,_,rfl,rfl,hZ (by assumption),hZ (by assumption),q.1,q.2⟩
   · exact q.elim
 · exact q.elim
def dQ5:V → List V → Hp → VK → Prop:=fun x vs H Q => match x,vs with
 | .ref l,[] => (match eT H l with | some xs => (match xs[xs.length - 1]? with | some y => Q y (upd H l (.lst xs.dropLast)) | none => False) | none => False)
 | .ref l,[.int i] => (match eT H l with | some xs => (-(2 ^ 63) ≤ i ∧ i < 2 ^ 63) ∧ (match seqIndex? i xs.length with | some k => (match xs[k]? with | some y => Q y (upd H l (.lst (xs.eraseIdx k))) | none => False) | none => False) | none => False)
 | _,_ => False
def dQ4:V → List V → Hp → VK → Prop:=fun x vs H Q => match x,vs with
 | .ref l,[] => (match eT H l with | some xs => Q .non (upd H l (.lst xs.reverse)) | none => False)
 | _,_ => False
def qB:V → List V → Hp → VK → Prop:=fun x vs H Q => match x,vs with
 | .ref l,[] => (match eT H l with | some _ => Q .non (upd H l (.lst [])) | none => False)
 | _,_ => False
theorem pP:MtR X "list.clear" qB:=MtR.imp (r:=aJJ) aZ2 fun _ _ _ _ q => by
 unfold qB at q
 split at q
 · split at q
   · exact ⟨_,_,rfl,rfl,hZ (by assumption),q⟩
   · exact q.elim
 · exact q.elim
end
section
variable {σ:St} {H:Hp} {Q:VK} {l b:Addr} {xs zs:List V} {y:V} {i:Int} {k:Nat} {to:TE} {T:String} {r:V → List V → Hp → VK → Prop}
theorem bXE (h:to σ H fun x H1 => pS T x H1 (r x [] H1 Q)):aX8 T r to σ H Q:=h
theorem bJB (e:eT H l = some xs) (e':eT H b = some zs) (c:xs.length + zs.length ≤ sizeLine) (h:Q .non (upd H l (.lst (xs ++ zs)))):bXO (.ref l) [.ref b] H Q:=by unfold bXO; simp only [e,e']; exact ⟨c,h⟩
theorem bX8 (e:eT H l = some xs) (h:Q .non (upd H l (.lst []))):qB (.ref l) [] H Q:=by unfold qB; simp only [e]; exact h
end
end L2
set_option maxHeartbeats 4000000
namespace L2
open PySem PySem.Spec PyProof.Rows
theorem vP {H:Hp} {p:Addr} {xs:List V} (h:H p = some (.lst xs)):tyN (.ref p) H = some "list" := by unfold tyN; simp only [h]
theorem bXI {H:Hp} {p:Addr} {xs:List V} (h:H p = some (.tup xs)):tyN (.ref p) H = some "tuple" := by unfold tyN; simp only [h]
theorem vE {t u:TS} {D:Ends} {σ:St} {H:Hp} (Pj:St → Hp → Prop) (hj:∀ σ' H',Pj σ' H' → u D σ' H') (h:∀ N:St → Hp → Prop,(∀ σ' H',Pj σ' H' → N σ' H') → t { D with nx:=N } σ H):cQQ t u D σ H:=h (u D) hj
theorem none_of {H H':Hp} {r:Addr} (s:Same H H') (h:H' r = none):H r = none:=by
 cases e:H r with
 | none => rfl
 | some o => rw [s _ _ e] at h; cases h
theorem bA {H H':Hp} {p:Addr} {o:HO} (hp:H p = none) (s:Same H H'):Same H (upd H' p o):=fun b u q => by rw [aJ (bG q hp)]; exact s b u q
section
variable {g:TG} {tests:TT} {te:TE} {σ0:St} {Q:VK} {H1:Hp}
theorem eS {J:It} {n:Nat} (R:Addr → Nat → List V → Hp → Prop) (hl:n < sizeLine) (h0:∀ D,H1 D = none → R D 0 [] (upd H1 D (.lst [])))
   (hgo:∀ D i ys Hc,H1 D = none → R D i ys Hc → i < n → J.go i Hc) (hst:∀ D ys Hc,H1 D = none → R D n ys Hc → J.stop n Hc)
   (hs:∀ D i ys Hc x H' (A:VK) (B:Hp → Prop),H1 D = none → i < n → R D i ys Hc → Hc D = some (.lst ys) → J.yld i Hc x H' →
     (∀ y H4,H4 D = some (.lst ys) → R D (i + 1) (ys ++ [y]) (upd H4 D (.lst (ys ++ [y]))) → A y H4) → (∀ H3,H3 D = some (.lst ys) → R D (i + 1) ys H3 → B H3) →
     g x σ0 H' fun σ2 H2 => Wk σ0 σ2 ∧ tests σ2 H2 fun b H3 => if b = true then te σ2 H3 A else B H3)
   (fin:∀ D ys Hc,H1 D = none → R D n ys Hc → Hc D = some (.lst ys) → ys.length ≤ n → Q (.ref D) Hc):eM g tests te σ0 Q J H1:=by
 intro D hD
 refine ⟨fun i m Hc => m = n - i ∧ i ≤ n ∧ ∃ ys,ys.length ≤ i ∧ Hc D = some (.lst ys) ∧ R D i ys Hc,⟨n,by simp,Nat.zero_le _,[],Nat.le_refl _,aB,h0 D hD⟩,?_⟩
 rintro i m Hc ⟨rfl,hi,ys,hy,hDc,r⟩
 by_cases hlt:i < n
 · refine .inr ⟨hgo D i ys Hc hD r hlt,fun x H' y => hs D i ys Hc x H' _ _ hD hlt r hDc y (fun z H4 e r4 => ?_) (fun H3 e r3 => ?_)⟩
   · exact ⟨ys,e,by omega,n - (i + 1),by omega,rfl,hlt,ys ++ [z],by rw [Am]; show ys.length + 1 ≤ _; omega,aB,r4⟩
   · exact ⟨n - (i + 1),by omega,rfl,hlt,ys,by omega,e,r3⟩
 · have e:i = n:=by omega
   subst e
   exact .inl ⟨hst D ys Hc hD r,fin D ys Hc hD r hDc hy⟩
def Tups (H1 Hc:Hp) (ps:List Addr) (fs:List (List V)):Prop:=ps.length = fs.length ∧ ∀ (j:Nat) p t,ps[j]? = some p → fs[j]? = some t → H1 p = none ∧ Hc p = some (.tup t)
theorem Tups.keep {H1 Hc Hd:Hp} {ps:List Addr} {fs:List (List V)} (t:Tups H1 Hc ps fs) (s:Same Hc Hd):Tups H1 Hd ps fs:=⟨t.1,fun j p u hp hu => ⟨(t.2 j p u hp hu).1,s _ _ (t.2 j p u hp hu).2⟩⟩
theorem Tups.older {H0 H1 Hc:Hp} {ps:List Addr} {fs:List (List V)} (t:Tups H1 Hc ps fs) (s:Same H0 H1):Tups H0 Hc ps fs:=⟨t.1,fun j p u hp hu => ⟨none_of s (t.2 j p u hp hu).1,(t.2 j p u hp hu).2⟩⟩
theorem Tups.put {H1 Hc:Hp} {ps:List Addr} {fs:List (List V)} {D:Addr} {ys zs:List V} (t:Tups H1 Hc ps fs) (h:Hc D = some (.lst ys)):Tups H1 (upd Hc D (.lst zs)) ps fs:=⟨t.1,fun j p u hp hu => by
 obtain ⟨a,b⟩:=t.2 j p u hp hu
 refine ⟨a,?_⟩
 rw [aJ fun z => by rw [z,h] at b; cases b]
 exact b⟩
theorem Tups.app {H1 Hc:Hp} {ps qs:List Addr} {fs gs:List (List V)} (t:Tups H1 Hc ps fs) (u:Tups H1 Hc qs gs):Tups H1 Hc (ps ++ qs) (fs ++ gs):=by
 refine ⟨by rw [Am,Am,t.1,u.1],fun j p v hp hv => ?_⟩
 by_cases h:j < ps.length
 · rw [Ay h] at hp
   rw [Ay (by rw [← t.1]; exact h)] at hv
   exact t.2 j p v hp hv
 · rw [Bf (by omega)] at hp
   rw [Bf (by rw [← t.1]; omega),← t.1] at hv
   exact u.2 _ p v hp hv
theorem Tups.nil {H1 Hc:Hp}:Tups H1 Hc [] []:=⟨rfl,fun j p u hp => by cases hp⟩
theorem Tups.one {H1 Hc:Hp} {p:Addr} {t:List V} (a:H1 p = none) (b:Hc p = some (.tup t)):Tups H1 Hc [p] [t]:=⟨rfl,fun j q u hq hu => by
 cases j with
 | zero => cases hq; cases hu; exact ⟨a,b⟩
 | succ j => cases hq⟩
theorem zX {n:Nat} {lo:Int} (f:Nat → List V) (hl:n < sizeLine)
   (hs:∀ (i:Nat) Hc (A:VK) (B:Hp → Prop),i < n → Same H1 Hc → (∀ p Hd,Hc p = none → Same Hc Hd → Hd p = some (.tup (f i)) → A (.ref p) Hd) →
     g (.int (lo + i)) σ0 Hc fun σ2 H2 => Wk σ0 σ2 ∧ tests σ2 H2 fun b H3 => if b = true then te σ2 H3 A else B H3)
   (fin:∀ D Hd ps,H1 D = none → Same H1 Hd → Hd D = some (.lst (ps.map V.ref)) → ps.length = n → Tups H1 Hd ps ((List.range n).map f) → Q (.ref D) Hd):eM g tests te σ0 Q (Itr lo n) H1:=by
 refine eS (n:=n) (fun D i ys Hc => Same H1 Hc ∧ ∃ ps,ys = ps.map V.ref ∧ ps.length = i ∧ Tups H1 Hc ps ((List.range i).map f)) hl (fun D hD => ⟨aD hD _,[],rfl,rfl,.nil⟩) (fun D i ys Hc _ r h => h) (fun D ys Hc _ r => Ai n) ?_ ?_
 · rintro D i ys Hc x H' A B hD hi ⟨sm,ps,rfl,hn,tp⟩ hDc ⟨rfl,rfl⟩ ha hb
   refine hs i H' A B hi sm (fun p Hd hp sd hd => ?_)
   refine ha _ _ (sd _ _ hDc) ⟨bA hD (sm.trans sd),ps ++ [p],by rw [Aj]; rfl,by rw [Am,hn]; rfl,?_⟩
   rw [Ck,Aj]
   exact ((tp.keep sd).app (.one (none_of sm hp) hd)).put (sd _ _ hDc)
 · rintro D ys Hc hD ⟨sm,ps,rfl,hn,tp⟩ hDc _
   exact fin D Hc ps hD sm hDc hn tp
end
end L2
set_option maxHeartbeats 4000000
namespace L2
open PySem PySem.Spec PyProof.Rows
def aXB (lo c:Int) (n:Nat):It:=⟨fun i _ => i < n,fun i H x H' => H' = H ∧ x = .int (lo + (i:Int) * c),fun i _ => n ≤ i⟩
theorem qY {P:Program} {w:World} {K:PySem.W.Frag} {tg:Expr} (it:Addr) (lo c:Int) (n:Nat):Turn P w K tg (aXB lo c n) [it] it (fun i h => IsRangeIter h it (lo + (i:Nat) * c) ((n:Int) - (i:Nat)) c) where
 mem:=by simp
 obj:=fun i h st b hb => by
   have e:b = it:=by simpa using hb
   subst e
   exact ⟨_,st,fun v z => by
     have z':Data.fields _ = Data.cell v:=z
     cases z'⟩
 keep:=fun i h h' st k => k it (by simp) _ st
 item:=by
   intro X hP hw hK hc i pins s σ H E I hf st hg
   subst hP hw hK
   obtain ⟨f0,f1,f2,f3,f4,f5⟩:=hf it (by simp)
   have W:=Walks.range (prog:=X.prog) (w:=X.w) (I.ok.hd hc) it lo c n
   refine W.item i s _ _ hg st fun v h' tk hv st' kk => ?_
   obtain ⟨t,rfl⟩:=hv
   have I1:Inv X pins σ H { s with heap:=h',toks:=tk }:=I.turned (fun b o hb e => kk b o (by simpa using hb) e) f0 f1 f3 f4 f5
   exact ⟨_,rfl,mZ (s:={ s with heap:=h',toks:=tk }) (n := "range_iterator") st' rfl rfl (by decide) ⟨.int (lo + i * c),H,I1,⟨t,rfl⟩,⟨rfl,rfl⟩,st',fun b hb => (hf b hb).1⟩⟩
 done:=by
   intro X hP hw hK hc i pins s σ H E I hf st hg
   subst hP hw hK
   obtain ⟨f0,f1,f2,f3,f4,f5⟩:=hf it (by simp)
   exact wpAny_pyNext_range_end (I.ok.hd hc) st (by have:n ≤ i:=hg; omega) fun h' eb => ⟨rfl,I.turned (t':=s.toks) (fun b o hb e => eb b o hb e) f0 f1 f3 f4 f5⟩
 self:=fun _ _ _ _ _ st h => wpAny_pyIter_rangeiter st h
def nW (lo hi c:Int):Nat:=(if lo < hi then (hi - lo - 1) / c + 1 else 0).toNat
theorem bXT {lo hi c:Int} {i:Nat} (hc:0 < c) (h:i < nW lo hi c):lo + (i:Int) * c < hi:=by
 unfold nW at h
 by_cases hl:lo < hi
 · rw [if_pos hl] at h
   have h0:0 ≤ (hi - lo - 1) / c:=Int.ediv_nonneg (by omega) (by omega)
   have h1:(i:Int) ≤ (hi - lo - 1) / c:=by omega
   have h2:(i:Int) * c ≤ (hi - lo - 1) / c * c:=Int.mul_le_mul_of_nonneg_right h1 (by omega)
   have h3:(hi - lo - 1) / c * c ≤ hi - lo - 1:=Int.ediv_mul_le _ (by omega)
   omega
 · rw [if_neg hl] at h
   exact absurd h (by simp)
theorem cZ3 {lo hi c:Int} (hc:0 < c):Builtin.Range.rangeSize lo hi c = ((nW lo hi c:Nat):Int):=by
 unfold Builtin.Range.rangeSize nW
 rw [if_pos hc]
 by_cases hl:lo < hi
 · rw [if_pos hl]
   have h0:0 ≤ (hi - lo - 1) / c:=Int.ediv_nonneg (by omega) (by omega)
   omega
 · rw [if_neg hl]
   rfl
section
variable {X:Cx} {tg a b c:Expr} {p pos:Pos}
def aJB (R:Int → Int → Int → Hp → Prop):List V → Hp → Prop:=fun vs H => match vs with | [.int i,.int j,.int k] => R i j k H | _ => False
theorem bQI {R:Int → Int → Int → Hp → Prop} {vs:List V} {H:Hp} (q:aJB R vs H):∃ i j k,vs = [.int i,.int j,.int k] ∧ R i j k H:=by
 unfold aJB at q
 split at q
 · exact ⟨_,_,_,rfl,q⟩
 · exact q.elim
def bZ9 (ta:TA):TI:=fun σ H R => ta σ H (aJB fun i j k H1 => (-1000000 ≤ i ∧ i ≤ 1000000 ∧ -1000000 ≤ j ∧ j ≤ 1000000 ∧ 0 < k ∧ k ≤ 1000) ∧ R (aXB i k (nW i j k)) H1)
theorem bJ2 {lo hi c:Int} (h1:-1000000 ≤ lo) (h2:lo ≤ 1000000) (h3:-1000000 ≤ hi) (h4:hi ≤ 1000000) (h5:0 < c) (h6:c ≤ 1000):Builtin.Range.small lo hi c = true:=by
 have hs:Builtin.Range.rangeSize lo hi c = (if lo < hi then (hi - lo - 1) / c + 1 else 0):=by unfold Builtin.Range.rangeSize; rw [if_pos h5]
 unfold Builtin.Range.small
 rw [hs]
 have hd:(hi - lo - 1) / c ≤ (if lo < hi then hi - lo - 1 else (hi - lo - 1) / c):=by
   split
   · exact Int.ediv_le_self _ (by omega)
   · exact Gu _
 simp only [Builtin.Range.rangeFitsLong,Bool.and_eq_true,Bool.or_eq_true,decide_eq_true_eq,beq_iff_eq]
 split <;> rename_i hl
 · rw [if_pos hl] at hd
   have hd0:0 ≤ (hi - lo - 1) / c:=Int.ediv_nonneg (by omega) (by omega)
   have hm:((hi - lo - 1) / c) * c ≤ hi - lo - 1:=Int.ediv_mul_le _ (by omega)
   have hm2:((hi - lo - 1) / c + 1) * c ≤ hi - lo - 1 + c:=by rw [Int.add_mul,Int.one_mul]; omega
   have hm3:0 ≤ ((hi - lo - 1) / c + 1) * c:=Int.mul_nonneg (by omega) (by omega)
   refine ⟨by omega,.inr ?_⟩
   rw [Ap (by omega),Ap (by omega)]
   rfl
 · exact ⟨by omega,.inl rfl⟩
theorem xX {pins:List (Addr × Obj)} {σ:St} {H:Hp} {s:Shared} {R:It → Hp → Prop} {E:Value → Shared → Prop} {lo hi c:Int} {t u v:Tok} {tk:Nat} (I:Inv X pins σ H s) (h1:-1000000 ≤ lo) (h2:lo ≤ 1000000) (h3:-1000000 ≤ hi) (h4:hi ≤ 1000000) (h5:0 < c) (h6:c ≤ 1000)
   (q:R (aXB lo c (nW lo hi c)) H):wpAny (model X.prog X.w) X.A (pyIter (.ref s.heap.objs.size)) (PIE X pins σ tg R) E { s with heap:=s.heap.push { cls:=.type "range",data:=.fields #[.int lo t,.int hi u,.int c v] },toks:=tk }:=by
 refine wpAny_pyIter_range (IsRange.new ..) (bJ2 h1 h2 h3 h4 h5 h6) ?_
 have I1:Inv X pins σ H { s with heap:=s.heap.push { cls:=.type "range",data:=.fields #[.int lo t,.int hi u,.int c v] },toks:=tk }:=I.kept fun b o e => Ae _ e
 refine ⟨(s.heap.push { cls:=.type "range",data:=.fields #[.int lo t,.int hi u,.int c v] }).objs.size,[(s.heap.push { cls:=.type "range",data:=.fields #[.int lo t,.int hi u,.int c v] }).objs.size],_,_,H,rfl,
   I1.kept (t':=tk) fun b o e => Ae _ e,qY _ lo c (nW lo hi c),?_,fun b hb => ?_,q⟩
 · have e1:lo + ((0:Nat):Int) * c = lo:=by simp
   have e2:((nW lo hi c:Nat):Int) - ((0:Nat):Int) = Builtin.Range.rangeSize lo hi c:=by rw [cZ3 h5]; simp
   show IsRangeIter _ _ (lo + ((0:Nat):Int) * c) (((nW lo hi c:Nat):Int) - ((0:Nat):Int)) c
   rw [e1,e2]
   exact Ar _ rfl
 · have e:b = (s.heap.push { cls:=.type "range",data:=.fields #[.int lo t,.int hi u,.int c v] }).objs.size:=by simpa using hb
   subst e
   exact I1.fpOk (Ai _) (I1.hok.fresh (Ai _))
theorem yU {ta:TA} (hg:Gl X "range") (hm:X.mg "range" = none) (ha:PA X [a,b,c] ta) (hs:starEach [a,b,c] X.env = [(false,eval a X.env),(false,eval b X.env),(false,eval c X.env)]:=by rfl) (hs2:starEach [b,c] X.env = [(false,eval b X.env),(false,eval c X.env)]:=by rfl) :
   PI X tg (.Call (.Name "range" p) [a,b,c] [] pos) (bZ9 ta):=by
 intro pins s σ H R I h
 refine Call_ (gG I hg hm boot_range (Co (thn (ha pos pins s σ H _ I h) fun us s1 ⟨vs,H1,I1,r1,q1⟩ => ?_) (by rw [hs,hs2]) (by rw [hs2]; rfl)))
 obtain ⟨i,j,k,e,⟨b1,b2,b3,b4,b5,b6⟩,q⟩:=bQI q1
 subst e
 cases r1 with
 | cons r rr =>
   cases rr with
   | cons r' rr =>
     cases rr with
     | cons r'' rr =>
       cases rr
       obtain ⟨t,rfl⟩:=r
       obtain ⟨t',rfl⟩:=r'
       obtain ⟨t'',rfl⟩:=r''
       exact call_range_3 (by omega) (xX I1 b1 b2 b3 b4 b5 b6 q) (Or.inl (PyProof.noPylong_small (by omega)))
end
section
variable {K:PySem.W.Frag} {c:Addr} {xs:List V} {lo st:Int} {n:Nat} {g:TG} {tb:TS} {D:Ends} {σ:St} {H:Hp} {tA:TA} {R:It → Hp → Prop} {i j k:Int}
theorem zB (Pv:Nat → St → Hp → Prop) (h0:Pv 0 σ H)
   (hs:∀ i σ H,i < n → Pv i σ H → g (.int (lo + (i:Int) * st)) σ H fun σ2 H2 => tb { D with nx:=Pv (i + 1),ct:=Pv (i + 1),bk:=D.nx } σ2 H2) (hd:∀ σ H,Pv n σ H → D.nx σ H):qP (aXB lo st n) g tb D σ H:=by
 refine ⟨fun i m σ H => m = n - i ∧ i ≤ n ∧ Pv i σ H,⟨n,by simp,Nat.zero_le _,h0⟩,?_⟩
 rintro i m σ H ⟨rfl,hi,p⟩
 by_cases hlt:i < n
 · refine .inr ⟨hlt,Pv (i + 1),fun σ' H' p' => ⟨n - (i + 1),by omega,rfl,hlt,p'⟩,fun x H' y => ?_⟩
   obtain ⟨e,y⟩:=y
   subst e y
   exact hs i σ _ hlt p
 · have e:i = n:=by omega
   subst e
   exact .inl ⟨Ai _,hd σ H p⟩
theorem bQP (h:tA σ H (aJB fun i j k H1 => (-1000000 ≤ i ∧ i ≤ 1000000 ∧ -1000000 ≤ j ∧ j ≤ 1000000 ∧ 0 < k ∧ k ≤ 1000) ∧ R (aXB i k (nW i j k)) H1)):bZ9 tA σ H R:=h
theorem cQI {R:Int → Int → Int → Hp → Prop} (h:R i j k H):aJB R [.int i,.int j,.int k] H:=h
end
def Alk (H:Hp):Nat → V → V → Prop
 | 0,x,y => x = y ∧ bF x = true
 | n + 1,x,y => (x = y ∧ bF x = true) ∨ ∃ p q xs ys,x = .ref p ∧ y = .ref q ∧ ((rdL H p = some xs ∧ rdL H q = some ys) ∨ (iW H p = some xs ∧ iW H q = some ys)) ∧ xs.length = ys.length ∧ ∀ (j:Nat) x' y',xs[j]? = some x' → ys[j]? = some y' → Alk H n x' y'
theorem Alk.flat {H:Hp} {n:Nat} {x:V} (h:bF x = true):Alk H n x x:=by
 cases n with
 | zero => exact ⟨rfl,h⟩
 | succ n => exact .inl ⟨rfl,h⟩
theorem Alk.lst {H:Hp} {n:Nat} {p q:Addr} {xs ys:List V} (hp:rdL H p = some xs) (hq:rdL H q = some ys) (hl:xs.length = ys.length) (h:∀ (j:Nat) x y,xs[j]? = some x → ys[j]? = some y → Alk H n x y):Alk H (n + 1) (.ref p) (.ref q):=.inr ⟨p,q,xs,ys,rfl,rfl,.inl ⟨hp,hq⟩,hl,h⟩
theorem Alk.tup {H:Hp} {n:Nat} {p q:Addr} {xs ys:List V} (hp:iW H p = some xs) (hq:iW H q = some ys) (hl:xs.length = ys.length) (h:∀ (j:Nat) x y,xs[j]? = some x → ys[j]? = some y → Alk H n x y):Alk H (n + 1) (.ref p) (.ref q):=.inr ⟨p,q,xs,ys,rfl,rfl,.inr ⟨hp,hq⟩,hl,h⟩
theorem Alk.flats {H:Hp} {n:Nat} {xs:List V} (f:xs.all bF = true):∀ (j:Nat) x y,xs[j]? = some x → xs[j]? = some y → Alk H n x y:=fun j x y hx hy => by
 rw [hx] at hy
 cases hy
 exact .flat (Ci.mp f x (Ak hx))
theorem Alk.tups {H H1 H2:Hp} {n:Nat} {ps qs:List Addr} {fs:List (List V)} (tp:Tups H1 H ps fs) (tq:Tups H2 H qs fs) (f:∀ t ∈ fs,t.all bF = true):∀ (j:Nat) x y,(ps.map V.ref)[j]? = some x → (qs.map V.ref)[j]? = some y → Alk H (n + 1) x y:=fun j x y hx hy => by
 rw [Ag] at hx hy
 cases ep:ps[j]? with
 | none => rw [ep] at hx; cases hx
 | some p =>
   cases eq:qs[j]? with
   | none => rw [eq] at hy; cases hy
   | some q =>
     rw [ep] at hx
     rw [eq] at hy
     cases hx
     cases hy
     have hj:j < fs.length:=by rw [← tp.1]; exact (Ad.mp ep).1
     have a:=(tp.2 j p fs[j] ep (Aa hj)).2
     have b:=(tq.2 j q fs[j] eq (Aa hj)).2
     exact .tup (eE a) (eE b) rfl (.flats (f _ (Bx _)))
theorem fJ {x:V} (h:bF x = true):eqV x x = true:=by
 cases x <;> first | rfl | (simp [eqV]; done) | (cases h; done)
section
variable {X:Cx}
end
def Lsts (H1 Hc:Hp) (ps:List Addr) (fs:List (List V)):Prop:=ps.length = fs.length ∧ ∀ (j:Nat) p t,ps[j]? = some p → fs[j]? = some t → H1 p = none ∧ Hc p = some (.lst t)
theorem Lsts.keep {H1 Hc Hd:Hp} {ps:List Addr} {fs:List (List V)} (t:Lsts H1 Hc ps fs) (s:Same Hc Hd):Lsts H1 Hd ps fs:=⟨t.1,fun j p u hp hu => ⟨(t.2 j p u hp hu).1,s _ _ (t.2 j p u hp hu).2⟩⟩
theorem Lsts.older {H0 H1 Hc:Hp} {ps:List Addr} {fs:List (List V)} (t:Lsts H1 Hc ps fs) (s:Same H0 H1):Lsts H0 Hc ps fs:=⟨t.1,fun j p u hp hu => ⟨none_of s (t.2 j p u hp hu).1,(t.2 j p u hp hu).2⟩⟩
theorem Lsts.put {H1 Hc:Hp} {ps:List Addr} {fs:List (List V)} {D:Addr} {o:HO} (t:Lsts H1 Hc ps fs) (h:∀ p ∈ ps,p ≠ D):Lsts H1 (upd Hc D o) ps fs:=⟨t.1,fun j p u hp hu => by
 obtain ⟨a,b⟩:=t.2 j p u hp hu
 refine ⟨a,?_⟩
 rw [aJ (h p (Ak hp))]
 exact b⟩
theorem Lsts.snoc {H1 Hc:Hp} {ps:List Addr} {fs:List (List V)} {q:Addr} {g:List V} (t:Lsts H1 Hc ps fs) (a:H1 q = none) (b:Hc q = some (.lst g)):Lsts H1 Hc (ps ++ [q]) (fs ++ [g]):=by
 refine ⟨by rw [Am,Am,t.1]; rfl,fun j p v hp hv => ?_⟩
 by_cases h:j < ps.length
 · rw [Ay h] at hp
   rw [Ay (by rw [← t.1]; exact h)] at hv
   exact t.2 j p v hp hv
 · rw [Bf (by omega)] at hp
   rw [Bf (by rw [← t.1]; omega),← t.1] at hv
   cases e:j - ps.length with
   | zero => rw [e] at hp hv; cases hp; cases hv; exact ⟨a,b⟩
   | succ n => rw [e] at hp; cases hp
theorem Lsts.nil {H1 Hc:Hp}:Lsts H1 Hc [] []:=⟨rfl,fun j p u hp => by cases hp⟩
theorem Lsts.mem {H1 Hc:Hp} {ps:List Addr} {fs:List (List V)} (t:Lsts H1 Hc ps fs) {p:Addr} (hp:p ∈ ps):∃ g ∈ fs,H1 p = none ∧ Hc p = some (.lst g):=by
 obtain ⟨j,hj⟩:=List.mem_iff_getElem?.mp hp
 have hl:j < fs.length:=by rw [← t.1]; exact (Ad.mp hj).1
 exact ⟨fs[j],Bx _,t.2 j p _ hj (Aa hl)⟩
section
variable {X:Cx}
theorem gW (ns:List Int):∀ n,n ≤ ns.length → preSum (fun i => ns.getD i 0) n = (ns.take n).sum
 | 0,_ => by simp [preSum]
 | n + 1,h => by
   have ih:=gW ns n (by omega)
   have e:ns.take (n + 1) = ns.take n ++ [ns.getD n 0]:=by rw [Bb,Af,Aa (by omega)]; rfl
   rw [e,List.sum_append,← ih]
   simp [preSum]
theorem yP {ns:List Int} (h:∀ n ∈ ns,0 ≤ n ∧ n ≤ 1000000):0 ≤ ns.sum ∧ ns.sum ≤ 1000000 * (ns.length:Int):=by
 induction ns with
 | nil => simp
 | cons n r ih =>
   obtain ⟨a,b⟩:=h n (Aq ..)
   obtain ⟨c,d⟩:=ih fun m hm => h m (Al _ hm)
   rw [Cy,Bn]
   constructor
   · omega
   · push_cast; omega
def cJH:List V → Hp → VK → Prop:=fun xs H Q => ∃ (p:Addr) (ns:List Int),xs = [.ref p] ∧ rdL H p = some (ns.map V.int) ∧ (∀ n ∈ ns,0 ≤ n ∧ n ≤ 1000000) ∧ ns.length ≤ 100000 ∧ Q (.int ns.sum) H
theorem cX9 (hc:X.calm = true):CallR X (.builtin "sum") cJH:=by
 intro pins s σ H xs us Q I r h
 obtain ⟨p,ns,rfl,hp,hb,hn,q⟩:=h
 obtain ⟨u,rfl,ru⟩:=eL r
 cases ru
 obtain ⟨its,rv,pl,hz⟩:=I.list (aO hp)
 have hl:=pl.isList
 have hlt:p < s.heap.objs.size:=by obtain ⟨_,e,_⟩:=hl; exact An e
 have hle:its.length = ns.length:=by have:=rv.length; rw [Ab] at this; omega
 refine call_sum_walk (Gc hl ?_)
 refine ⟨s.heap.objs.size,[s.heap.objs.size,p],[s.heap.objs.size],its.toArray.size,_,_,fun i => ns.getD i 0,rfl,Walks.list (A:=X.A.in1) (I.ok.hd hc) _ p (Bd hlt) its.toArray,
   ⟨⟨_,Ar _ rfl,rfl,rfl⟩,hl.push _⟩,fun b hb => ?_,fun i v hv => ?_,fun j hj => ?_,fun h' tk t' hk => ?_⟩
 · rw [show ({ s with heap:=_ }:Shared).heap = _ from rfl]
   simp only [List.mem_cons,List.not_mem_nil,or_false] at hb
   rcases hb with e | e
   · rw [e]; simp [Heap.push]
   · rw [e]; exact Nat.lt_of_lt_of_le hlt (by simp [Heap.push])
 · have hv':its[i]? = some v:=by simpa using hv
   have hi:i < ns.length:=by rw [← hle]; exact (Ad.mp hv').1
   obtain ⟨u,hu,ru⟩:=rv.get (show (ns.map V.int)[i]? = some (.int ns[i]) by rw [Ag,Aa hi]; rfl)
   rw [hv'] at hu
   cases hu
   obtain ⟨t,rfl⟩:=ru
   exact ⟨t,by show Value.int ns[i] t = Value.int (ns.getD i 0) t; rw [Af,Aa hi]; rfl⟩
 · have hj' : j < ns.length := by have : j < its.length := by simpa using hj
                                  omega
   have e:=gW ns (j + 1) (by omega)
   obtain ⟨a1,a2⟩:=yP (ns:=ns.take (j + 1)) fun m hm => hb m (List.mem_of_mem_take hm)
   rw [Bl] at a2
   have a3:ns.getD j 0 ∈ ns:=by rw [Af,Aa hj']; exact Bx _
   obtain ⟨b1,b2⟩:=hb _ a3
   refine ⟨?_,?_⟩
   · show InLong (ns.getD j 0)
     unfold InLong
     omega
   · rw [e]
     unfold InLong
     omega
 · have e:preSum (fun i => ns.getD i 0) its.toArray.size = ns.sum:=by
     rw [Be,hle,gW ns _ (Ai _),Bo]
   rw [e]
   exact ⟨.int ns.sum,H,I.kept (LSm.kept_iter hk),⟨_,rfl⟩,q⟩
theorem cZI {p:Addr} {ns:List Int} {H:Hp} {Q:VK} (e:rdL H p = some (ns.map V.int)) (hb:∀ n ∈ ns,0 ≤ n ∧ n ≤ 1000000) (hl:ns.length ≤ 100000) (h:Q (.int ns.sum) H):cJH [.ref p] H Q:=⟨p,ns,rfl,e,hb,hl,h⟩
end
end L2
set_option maxHeartbeats 4000000
namespace L2
open PySem PySem.Spec PyProof.Rows
section
variable {κ:Type} [DecidableEq κ]
def bJ (kvs:List (κ × V)) (k:κ):Option V:=(kvs.find? fun kv => decide (kv.1 = k)).map (·.2)
def cY (kvs:List (κ × V)) (k:κ) (v:V):List (κ × V) :=
 if (kvs.any fun kv => decide (kv.1 = k)) = true then kvs.map (fun kv => if kv.1 = k then (kv.1,v) else kv) else kvs ++ [(k,v)]
def bZU (kvs:List (κ × V)) (k:κ):List (κ × V):=kvs.filter fun kv => decide (kv.1 ≠ k)
theorem bT {p:κ × V} {r:List (κ × V)} {k:κ} (e:p.1 = k):bJ (p :: r) k = some p.2:=by simp [bJ,List.find?_cons,e]
theorem bN {p:κ × V} {r:List (κ × V)} {k:κ} (e:¬ p.1 = k):bJ (p :: r) k = bJ r k:=by simp [bJ,List.find?_cons,e]
theorem dL (k:κ):∀ kvs:List (κ × V),(kvs.any fun kv => decide (kv.1 = k)) = (bJ kvs k).isSome
 | [] => rfl
 | p :: r => by
   rw [Gq]
   by_cases e:p.1 = k
   · simp only [bT e,decide_eq_true e,Bool.true_or,Option.isSome_some]
   · rw [bN e,Av e,Eo]; exact dL k r
theorem sX (k j:κ) (y:V):∀ kvs:List (κ × V),bJ (kvs.map fun kv => if kv.1 = k then (kv.1,y) else kv) j = (bJ kvs j).map fun x => if j = k then y else x
 | [] => rfl
 | p :: r => by
   have ih:=sX k j y r
   rw [Aw]
   by_cases h:p.1 = k
   · rw [if_pos h]
     by_cases e:p.1 = j
     · rw [bT (p:=(p.1,y)) e,bT e,Ds,if_pos (e.symm.trans h)]
     · rw [bN (p:=(p.1,y)) e,bN e,ih]
   · rw [if_neg h]
     by_cases e:p.1 = j
     · rw [bT (p:=p) e,bT e,Ds,if_neg (fun z => h (e.trans z))]
     · rw [bN (p:=p) e,bN e,ih]
theorem pL (k j:κ) (y:V):∀ kvs:List (κ × V),bJ kvs k = none → bJ (kvs ++ [(k,y)]) j = if j = k then some y else bJ kvs j
 | [],_ => by
   by_cases e:k = j
   · rw [if_pos e.symm]; exact bT (p:=(k,y)) e
   · rw [if_neg (fun z => e z.symm)]; exact bN (p:=(k,y)) e
 | p :: r,hn => by
   rw [List.cons_append]
   have hk:¬ p.1 = k:=fun z => by rw [bT z] at hn; cases hn
   rw [bN hk] at hn
   have ih:=pL k j y r hn
   by_cases e:p.1 = j
   · rw [bT e,bT e,if_neg (fun z => hk (e.trans z))]
   · rw [bN e,bN e,ih]
theorem aZP (kvs:List (κ × V)) (k j:κ) (y:V):bJ (cY kvs k y) j = if j = k then some y else bJ kvs j:=by
 unfold cY
 by_cases a:(kvs.any fun kv => decide (kv.1 = k)) = true
 · rw [if_pos a,sX]
   rw [dL] at a
   by_cases e:j = k
   · obtain ⟨x,hx⟩:=Ef.mp a
     rw [if_pos e,e,hx,Ds,if_pos rfl]
   · rw [if_neg e]
     cases bJ kvs j with
     | none => rfl
     | some x => rw [Ds,if_neg e]
 · rw [if_neg a]
   refine pL k j y kvs ?_
   rw [dL] at a
   cases q:bJ kvs k with
   | none => rfl
   | some x => rw [q] at a; exact (a rfl).elim
theorem eK (kvs:List (κ × V)) (k:κ) (v:V):(cY kvs k v).length ≤ kvs.length + 1:=by
 unfold cY
 split
 · rw [Ab]; omega
 · rw [Am,Bn,List.length_nil]; omega
theorem fM {kvs:List (κ × V)} {k:κ} (v:V) (h:bJ kvs k = none):cY kvs k v = kvs ++ [(k,v)]:=by
 unfold cY
 rw [dL,h]
 exact if_neg (by decide)
theorem RelO.isSome_eq {o:Option V} {u:Option Value} (r:RelO o u):o.isSome = u.isSome:=by
 cases o with
 | none => cases u with
   | none => rfl
   | some _ => exact (show False from r).elim
 | some _ => cases u with
   | none => exact (show False from r).elim
   | some _ => rfl
theorem RelO.getD {o:Option V} {u:Option Value} {d:V} {d':Value} (r:RelO o u) (rd:RelV d d'):RelV (o.getD d) (u.getD d'):=by
 cases o with
 | none => cases u with
   | none => exact rd
   | some _ => exact (show False from r).elim
 | some _ => cases u with
   | none => exact (show False from r).elim
   | some _ => exact r
theorem KV.val {kvs:List (κ × V)} {vs:List (κ × Value)} (r:KV kvs vs) (k:κ):RelO (bJ kvs k) (valueAt vs k):=by
 unfold KV at r
 induction r with
 | nil => exact True.intro
 | @cons p q ps qs h t ih =>
   obtain ⟨h1,h2⟩:=h
   by_cases e:p.1 = k
   · have e':q.1 = k:=h1.symm.trans e
     have b:valueAt (q :: qs) k = some q.2:=by simp [valueAt,List.find?_cons,e']
     rw [bT e,b]; exact h2
   · have e':¬ q.1 = k:=fun z => e (h1.trans z)
     have b:valueAt (q :: qs) k = valueAt qs k:=by simp [valueAt,List.find?_cons,e']
     rw [bN e,b]; exact ih
theorem KV.any {kvs:List (κ × V)} {vs:List (κ × Value)} (r:KV kvs vs) (k:κ):(kvs.any fun kv => decide (kv.1 = k)) = vs.any fun kv => decide (kv.1 = k):=by
 unfold KV at r
 induction r with
 | nil => rfl
 | cons h t ih => rw [Gq,Gq,ih,h.1]
theorem KV.repl {kvs:List (κ × V)} {vs:List (κ × Value)} (r:KV kvs vs) (k:κ) {y:V} {u:Value} (ry:RelV y u) :
   KV (kvs.map fun kv => if kv.1 = k then (kv.1,y) else kv) (vs.map fun kv => if kv.1 = k then (kv.1,u) else kv):=by
 unfold KV at r ⊢
 induction r with
 | nil => exact .nil
 | @cons p q ps qs h t ih =>
   rw [Aw,Aw]
   refine .cons ?_ ih
   obtain ⟨h1,h2⟩:=h
   by_cases e:p.1 = k
   · rw [if_pos e,if_pos (h1.symm.trans e)]; exact ⟨h1,ry⟩
   · rw [if_neg e,if_neg (fun z => e (h1.trans z))]; exact ⟨h1,h2⟩
theorem KV.put {kvs:List (κ × V)} {vs:List (κ × Value)} (r:KV kvs vs) (k:κ) {y:V} {u:Value} (ry:RelV y u):KV (cY kvs k y) (stored vs k u):=by
 unfold cY stored
 rw [r.any k]
 by_cases e:(vs.any fun kv => decide (kv.1 = k)) = true
 · rw [if_pos e,if_pos e]; exact r.repl k ry
 · rw [if_neg e,if_neg e]; exact Paired.snoc r ⟨rfl,ry⟩
theorem KV.drop {kvs:List (κ × V)} {vs:List (κ × Value)} (r:KV kvs vs) (k:κ):KV (bZU kvs k) (without vs k):=by
 unfold KV at r ⊢
 unfold bZU without
 induction r with
 | nil => exact .nil
 | @cons p q ps qs h t ih =>
   obtain ⟨h1,h2⟩:=h
   rw [Ej,Ej]
   by_cases e:p.1 = k
   · have a:¬ decide (p.1 ≠ k) = true:=by simp [e]
     have b:¬ decide (q.1 ≠ k) = true:=by simp [h1.symm.trans e]
     rw [if_neg a,if_neg b]; exact ih
   · have e':¬ q.1 = k:=fun z => e (h1.trans z)
     have a:decide (p.1 ≠ k) = true:=by simp [e]
     have b:decide (q.1 ≠ k) = true:=by simp [e']
     rw [if_pos a,if_pos b]; exact .cons ⟨h1,h2⟩ ih
theorem KV.keys {kvs:List (κ × V)} {vs:List (κ × Value)} (r:KV kvs vs):kvs.map (·.1) = vs.map (·.1):=by
 unfold KV at r
 induction r with
 | nil => rfl
 | cons h t ih => rw [Aw,Aw,ih,h.1]
theorem KV.length {kvs:List (κ × V)} {vs:List (κ × Value)} (r:KV kvs vs):kvs.length = vs.length:=Paired.length r
end
theorem mT {P:Program} {w:World} {k:Key} {u:Value} (r:RelV (kV k) u):(aS P w).is k u = true:=by
 cases k with
 | inl i => obtain ⟨t,e⟩:=(show ∃ t,u = Value.int i t from r); subst e; exact rB P w i t
 | inr x => obtain ⟨t,e⟩:=(show ∃ t,u = Value.str x t from r); subst e; exact rR P w x t
theorem nZ {P:Program} {w:World}:∀ {ks:List Key} {us:List Value},Vals (ks.map kV) us → ItemsAre (aS P w) ks us
 | [],_,r => by rw [List.map_nil] at r; cases r; exact .nil
 | k :: ks,_,r => by
   rw [Aw] at r
   cases r with
   | cons h t => exact .cons (mT h) (nZ t)
abbrev KT (H:Hp):List (List Key × V) → List (List Key × Addr × Value) → Prop:=Paired fun p q => p.1 = q.1 ∧ H q.2.1 = some (.tup (p.1.map kV)) ∧ RelV p.2 q.2.2
theorem KT.val {H:Hp} {kvs:List (List Key × V)} {xs:List (List Key × Addr × Value)} (r:KT H kvs xs) (k:List Key):RelO (bJ kvs k) ((atKey xs k).map (·.2)):=by
 induction r with
 | nil => exact True.intro
 | @cons p q ps qs h t ih =>
   obtain ⟨h1,_,h2⟩:=h
   by_cases e:p.1 = k
   · have e':q.1 = k:=h1.symm.trans e
     have b:atKey (q :: qs) k = some q.2:=by simp [atKey,List.find?_cons,e']
     rw [bT e,b]; exact h2
   · have e':¬ q.1 = k:=fun z => e (h1.trans z)
     have b:atKey (q :: qs) k = atKey qs k:=by simp [atKey,List.find?_cons,e']
     rw [bN e,b]; exact ih
theorem KT.repl {H:Hp} {kvs:List (List Key × V)} {xs:List (List Key × Addr × Value)} (r:KT H kvs xs) (k:List Key) {y:V} {u:Value} (ry:RelV y u) :
   KT H (kvs.map fun kv => if kv.1 = k then (kv.1,y) else kv) (xs.map (putAt k u)):=by
 induction r with
 | nil => exact .nil
 | @cons p q ps qs h t ih =>
   rw [Aw,Aw]
   refine .cons ?_ ih
   obtain ⟨h1,h2,h3⟩:=h
   unfold putAt
   by_cases e:p.1 = k
   · rw [if_pos e,if_pos (h1.symm.trans e)]; exact ⟨h1,h2,ry⟩
   · rw [if_neg e,if_neg (fun z => e (h1.trans z))]; exact ⟨h1,h2,h3⟩
theorem KT.put {H:Hp} {kvs:List (List Key × V)} {xs:List (List Key × Addr × Value)} (r:KT H kvs xs) (k:List Key) {b:Addr} {y:V} {u:Value} (hb:H b = some (.tup (k.map kV))) (ry:RelV y u) :
   KT H (cY kvs k y) (storedH xs k b u):=by
 have e:(kvs.any fun kv => decide (kv.1 = k)) = (atKey xs k).isSome:=by
   rw [dL,(r.val k).isSome_eq,Option.isSome_map]
 unfold cY storedH
 rw [e]
 by_cases q:(atKey xs k).isSome = true
 · rw [if_pos q,if_pos q]; exact r.repl k ry
 · rw [if_neg q,if_neg q]; exact Paired.snoc r ⟨rfl,hb,ry⟩
theorem KT.keeps {H H':Hp} {kvs:List (List Key × V)} {xs:List (List Key × Addr × Value)} (r:KT H kvs xs) (ht:∀ b ys,H b = some (.tup ys) → H' b = some (.tup ys)):KT H' kvs xs :=
 Paired.mapP r fun _ _ z => ⟨z.1,ht _ _ z.2.1,z.2.2⟩
section
variable {P:Program} {w:World} {H:Hp} {h:Heap} {a:Addr}
theorem bZI {u:HO} (ok:HOk P w H h) (e:Rd H a u):ObjOk P w H h a u:=e.ok ok
theorem eV {kvs:List (Key × V)} (ok:HOk P w H h) (e:Rd H a (.dK kvs)):kvs.length ≤ sizeLine ∧ (a == sysModules) = false ∧ ∃ vs,KV kvs vs ∧ h.DictOf (aS P w) a vs :=
 show ObjOk P w H h a (.dK kvs) from bZI ok e
theorem bZR {kvs:List (Key × V)} (ok:HOk P w H h) (e:H a = some (.dK kvs)):kvs.length ≤ sizeLine ∧ (a == sysModules) = false ∧ ∃ vs,KV kvs vs ∧ h.DictOf (aS P w) a vs:=eV ok (.inl e)
theorem jB {ks:List Key} (ok:HOk P w H h) (e:H a = some (.tup (ks.map kV))):(tupleKind (aS P w)).is h ks a:=by
 obtain ⟨_,its,r,o,h1,h2,n,h3⟩:=(show ObjOk P w H h a (.tup (ks.map kV)) from ok a _ e)
 exact ⟨o,its.toArray,n,h1,h2,h3,by simpa using nZ r⟩
theorem lA {kvs:List (List Key × V)} (ok:HOk P w H h) (e:Rd H a (.dT kvs)):kvs.length ≤ sizeLine ∧ (a == sysModules) = false ∧
   ∃ xs,KT H kvs xs ∧ h.DictOfH (tupleKind (aS P w)) a xs:=by
 obtain ⟨z,y,xs,r,o,es,ep,h1,h2,h3,h4,h5⟩:=(show ObjOk P w H h a (.dT kvs) from bZI ok e)
 refine ⟨z,y,xs,r,o,es,ep,h1,h2,h3,h4,fun x hx => ?_,h5⟩
 have all:∀ {l:List (List Key × V)} {m:List (List Key × Addr × Value)},KT H l m → ∀ x ∈ m,(tupleKind (aS P w)).is h x.1 x.2.1:=by
   intro l m q
   induction q with
   | nil => intro x hx; exact nomatch hx
   | @cons p q ps qs hq t ih =>
     intro x hx
     rcases Bg.mp hx with e | hx
     · subst e
       exact jB ok (by rw [← hq.1]; exact hq.2.1)
     · exact ih x hx
 exact all r x hx
theorem bZP {kvs:List (List Key × V)} (ok:HOk P w H h) (e:H a = some (.dT kvs)):kvs.length ≤ sizeLine ∧ (a == sysModules) = false ∧
   ∃ xs,KT H kvs xs ∧ h.DictOfH (tupleKind (aS P w)) a xs:=lA ok (.inl e)
end
def DGet (H:Hp) (a:Addr) (y:V) (r:Option V):Prop :=
 (∃ kvs k,Rd H a (.dK kvs) ∧ y = kV k ∧ r = bJ kvs k) ∨ ∃ kvs k b,Rd H a (.dT kvs) ∧ y = .ref b ∧ H b = some (.tup (k.map kV)) ∧ r = bJ kvs k
def DPut (H:Hp) (a:Addr) (y v:V) (H':Hp):Prop :=
 (∃ kvs k,H a = some (.dK kvs) ∧ y = kV k ∧ kvs.length < sizeLine ∧ H' = upd H a (.dK (cY kvs k v))) ∨
 ∃ kvs k b,H a = some (.dT kvs) ∧ y = .ref b ∧ H b = some (.tup (k.map kV)) ∧ kvs.length < sizeLine ∧ H' = upd H a (.dT (cY kvs k v))
theorem DGet.k {H:Hp} {a:Addr} {kvs:List (Key × V)} {k:Key} (e:H a = some (.dK kvs)):DGet H a (kV k) (bJ kvs k):=.inl ⟨kvs,k,.inl e,rfl,rfl⟩
theorem DGet.t {H:Hp} {a b:Addr} {kvs:List (List Key × V)} {k:List Key} (e:H a = some (.dT kvs)) (eb:H b = some (.tup (k.map kV))):DGet H a (.ref b) (bJ kvs k):=.inr ⟨kvs,k,b,.inl e,rfl,eb,rfl⟩
theorem DPut.k {H:Hp} {a:Addr} {kvs:List (Key × V)} {k:Key} {v:V} (e:H a = some (.dK kvs)) (hl:kvs.length < sizeLine):DPut H a (kV k) v (upd H a (.dK (cY kvs k v))):=.inl ⟨kvs,k,e,rfl,hl,rfl⟩
theorem DPut.t {H:Hp} {a b:Addr} {kvs:List (List Key × V)} {k:List Key} {v:V} (e:H a = some (.dT kvs)) (eb:H b = some (.tup (k.map kV))) (hl:kvs.length < sizeLine) :
   DPut H a (.ref b) v (upd H a (.dT (cY kvs k v))):=.inr ⟨kvs,k,b,e,rfl,eb,hl,rfl⟩
section
variable {X:Cx} {pins:List (Addr × Obj)} {σ:St} {H:Hp} {s:Shared} {a:Addr} {y v:V} {u r:Value} {o:Option V} {A:Around} {E:Value → Shared → Prop}
theorem Inv.big (I:Inv X pins σ H s):sysModules < s.heap.objs.size:=by
 have h:mainGlobals < s.heap.objs.size:=(I.mod.glob.keeps I.bk).lt
 exact Nat.lt_trans (by decide) h
theorem zG {Q:Value → Shared → Prop} (hu:A.units + 1 < cLine) (I:Inv X pins σ H s) (g:DGet H a y (some v)) (ry:RelV y u) (h:∀ w' s',Inv X pins σ H s' → RelV v w' → Q w' s') :
   wpAny (model X.prog X.w) A (getItem (.ref a) u) Q E s:=by
 rcases g with ⟨kvs,k,e,ey,l⟩ | ⟨kvs,k,b,e,ey,eb,l⟩
 · subst ey
   obtain ⟨z,hd,vs,rel,dd⟩:=eV I.hok e
   obtain ⟨w',hw,rw'⟩:=RelO.some_of (v:=v) (o:=valueAt vs k) (by rw [l]; exact rel.val k)
   exact wpAny_getItem_of (mT ry) dd.mapOf hw (h w' _ (I.tok _) rw')
 · subst ey
   cases (show u = Value.ref b from ry)
   obtain ⟨z,hd,xs,rel,dd⟩:=lA I.hok e
   obtain ⟨w',hw,rw'⟩:=RelO.some_of (v:=v) (o:=(atKey xs k).map (·.2)) (by rw [l]; exact rel.val k)
   obtain ⟨p,hp,hp2⟩:=Option.map_eq_some_iff.mp hw
   refine wpAny_getItem_heap (Ea hu) (jB I.hok eb) dd hp ?_
   rw [hp2]
   exact h w' _ (I.tok _) rw'
theorem cJW {Q:Value → Shared → Prop} (hu:A.units + 1 < cLine) (I:Inv X pins σ H s) (g:DGet H a y o) (ry:RelV y u) (h:∀ s',Inv X pins σ H s' → Q (.bool o.isSome) s') :
   wpAny (model X.prog X.w) A (compareOp .In u (.ref a)) Q E s:=by
 rcases g with ⟨kvs,k,e,ey,l⟩ | ⟨kvs,k,b,e,ey,eb,l⟩
 · subst ey
   obtain ⟨z,hd,vs,rel,dd⟩:=eV I.hok e
   refine wpAny_in_of (mT ry) hd dd.mapOf ?_
   rw [← (rel.val k).isSome_eq,← l]
   exact h _ (I.tok _)
 · subst ey
   cases (show u = Value.ref b from ry)
   obtain ⟨z,hd,xs,rel,dd⟩:=lA I.hok e
   refine wpAny_in_heap (Ea hu) (jB I.hok eb) hd dd ?_
   have q:=(rel.val k).isSome_eq
   rw [Option.isSome_map] at q
   rw [← q,← l]
   exact h _ (I.tok _)
theorem aJ3 {Q:Value → Shared → Prop} (hu:A.units + 1 < cLine) (I:Inv X pins σ H s) (g:DGet H a y o) (ry:RelV y u) (h:∀ s',Inv X pins σ H s' → Q (.bool (!o.isSome)) s') :
   wpAny (model X.prog X.w) A (compareOp .NotIn u (.ref a)) Q E s:=by
 rcases g with ⟨kvs,k,e,ey,l⟩ | ⟨kvs,k,b,e,ey,eb,l⟩
 · subst ey
   obtain ⟨z,hd,vs,rel,dd⟩:=eV I.hok e
   refine wpAny_notIn_of (mT ry) hd dd.mapOf ?_
   rw [← (rel.val k).isSome_eq,← l]
   exact h _ (I.tok _)
 · subst ey
   cases (show u = Value.ref b from ry)
   obtain ⟨z,hd,xs,rel,dd⟩:=lA I.hok e
   refine wpAny_notIn_heap (Ea hu) (jB I.hok eb) hd dd ?_
   have q:=(rel.val k).isSome_eq
   rw [Option.isSome_map] at q
   rw [← q,← l]
   exact h _ (I.tok _)
theorem wW {h':Heap} {t':Nat} {ob:HO} (I:Inv X pins σ H s) (mu:Mut (H a)) (hs:Heap.SameBut a s.heap h') (he:∃ q,h'.get? a = some q) (new:ObjOk X.prog X.w (upd H a ob) h' a ob) :
   Inv X pins σ (upd H a ob) { s with heap:=h',toks:=t' } :=
 I.write (x:=a) (e:=a) mu (.inl rfl) (fun b q hb z => (hs.2 b hb).trans z) he new
theorem aQ9 {P:Program} {w:World} {H':Hp} {h':Heap} {kvs:List (Key × V)} {vs:List (Key × Value)} (z:kvs.length ≤ sizeLine) (hd:(a == sysModules) = false) (rel:KV kvs vs) (dd:h'.DictOf (aS P w) a vs) :
   ObjOk P w H' h' a (.dK kvs):=⟨z,hd,vs,rel,dd⟩
theorem zW {H':Hp} {Q:Unit → Shared → Prop} (hu:A.units + 1 < cLine) (I:Inv X pins σ H s) (g:DPut H a y v H') (ry:RelV y u) (rv:RelV v r) (h:∀ s',Inv X pins σ H' s' → Q () s') :
   wpAny (model X.prog X.w) A (setItem (.ref a) u r) Q E s:=by
 rcases g with ⟨kvs,k,e,ey,l,eH⟩ | ⟨kvs,k,b,e,ey,eb,l,eH⟩
 · subst ey eH
   obtain ⟨z,hd,vs,rel,dd⟩:=bZR I.hok e
   have hz:vs.length ≤ sizeLine:=by rw [← rel.length]; exact z
   have hl:(cY kvs k v).length ≤ sizeLine:=by have:=eK kvs k v; omega
   refine wpAny_setItem_pairs (hsz:=hz) (mT ry) dd fun h' dd' hs => h _ ?_
   have he:∃ q,h'.get? a = some q:=let ⟨q,_,_,hq,_⟩:=dd'; ⟨q,hq⟩
   exact wW I (by rw [e]; exact True.intro) hs he (aQ9 hl hd (rel.put k rv) dd')
 · subst ey eH
   cases (show u = Value.ref b from ry)
   obtain ⟨z,hd,xs,rel,dd⟩:=bZP I.hok e
   have hz:xs.length ≤ sizeLine:=by rw [← Paired.length rel]; exact z
   have hl:(cY kvs k v).length ≤ sizeLine:=by have:=eK kvs k v; omega
   refine wpAny_setItem_heap (hsz:=hz) (Ea hu) (jB I.hok eb) dd fun h' dd' hs => h _ ?_
   obtain ⟨q,es,ep,hq,h2,h3,h4,_,h5⟩:=dd'
   refine wW I (by rw [e]; exact True.intro) hs ⟨q,hq⟩ ⟨hl,hd,_,(rel.put k eb rv).keeps fun c ys ec => ?_,q,es,ep,hq,h2,h3,h4,h5⟩
   rw [aJ (cZH ec e (fun z => nomatch z))]
   exact ec
end
section
variable {X:Cx} {pins:List (Addr × Obj)} {σ:St} {H:Hp} {s:Shared} {a:Addr} {kvs:List (Key × V)} {k:Key} {u:Value} {A:Around} {E:Value → Shared → Prop}
end
def cZZ (i:Expr):Prop:=∀ ov iv,subscripted i false ov iv = operate [ov,iv] (getItem ov iv)
theorem bQ9 {prog:Program} {w:World} {A:Around} {E:Value → Shared → Prop} {s:Shared} {env:Env} {value slice:Expr} {pos:Pos} {T id:String} {Q:Value → Shared → Prop}
   (hl:typeLookup (.type T) "__getitem__" = pure (some (.builtin id))) (hs:cZZ slice)
   (h:wpAny (model prog w) A (eval value env) (fun o s₁ => wpAny (model prog w) A (eval slice env) (fun i s₂ => s₂.TypeIs o T ∧ wpAny (model prog w) A (getItem o i) Q E s₂) E s₁) E s) :
   wpAny (model prog w) A (eval (.Subscript value slice pos) env) Q E s:=by
 refine Subscript_ (Bv h (fun o s₁ h₁ => Bv h₁ (fun i s₂ h₂ => ?_) fun _ _ x => x) fun _ _ x => x)
 obtain ⟨hT,h₂⟩:=h₂
 unfold subscriptTail
 refine Ac ?_
 rw [getitemInPython_of_ne hT.not_modules]
 refine Ac (Fo hT hl ?_)
 have fin:wpAny (model prog w) A (subscripted slice false o i) (fun r s₃ => wpAny (model prog w) A (letTemporaryGo value o r >>= fun _ => pure r) Q E s₃) E s₂:=by
   rw [hs o i]
   exact wpAny_operating (Bv h₂ (fun r s₃ h₃ => Ac (wpAny_letTemporaryGo (Ah h₃))) fun _ _ x => x)
 first
   | exact Ah (Ac fin)
   | exact Ac (Ah (Ac fin))
   | exact Ac fin
theorem rK {X:Cx} {pins:List (Addr × Obj)} {σ:St} {H:Hp} {s:Shared} {a:Addr} {y:V} {o:Option V} (I:Inv X pins σ H s) (g:DGet H a y o):s.TypeIs (.ref a) "dict" := by
 rcases g with ⟨kvs,k,e,_,_⟩ | ⟨kvs,k,b,e,_,_,_⟩
 · obtain ⟨_,_,vs,_,dd⟩:=eV I.hok e
   exact dd.typeIs
 · obtain ⟨_,_,xs,_,dd⟩:=lA I.hok e
   exact dd.typeIs
def bZ5 (td ty:TE):TE:=fun σ H Q => td σ H fun x H1 => ty σ H1 fun y H2 => ∃ a v,x = .ref a ∧ DGet H2 a y (some v) ∧ Q v H2
def bZ2 (td ty tv:TE):TS:=fun D σ H => tv σ H fun v H1 => td σ H1 fun x H2 => ty σ H2 fun y H3 => ∃ a H4,x = .ref a ∧ DPut H3 a y v H4 ∧ D.nx σ H4
section
variable {X:Cx} {o i e value:Expr} {pos pos' tpos:Pos} {td ty tv:TE}
theorem fU (hu:X.A.units + 1 < cLine) (ho:PE X o td) (hi:PE X i ty) (hs:cZZ i):PE X (.Subscript o i pos) (bZ5 td ty):=by
 intro pins s σ H Q I h
 refine bQ9 PySem.F.slot_dict_getitem.lookup hs (thn (ho pins s σ H _ I h) fun u s1 ⟨x,H1,I1,rx,q1⟩ => thn (hi pins s1 σ H1 _ I1 q1) fun iv s2 ⟨y,H2,I2,ry,a,v,ex,g,q2⟩ => ?_)
 subst ex
 obtain rfl:u = Value.ref a:=rx
 exact ⟨rK I2 g,zG hu I2 g ry fun w' s3 I3 rw' => ⟨v,H2,I3,rw',q2⟩⟩
theorem eG (hu:X.A.units + 1 < cLine) (ho:PE X o td) (hi:PE X i ty) (hv:PE X value tv) (hs:swapsWith value (some (.Subscript o i pos')) pos.line X.env = pure false) :
   PS X (.Assign [.Subscript o i pos'] value pos) (bZ2 td ty tv):=by
 intro pins s σ H D I h
 refine wpAny_Assign_Subscript (thn (hv pins s σ H _ I h) fun r s1 ⟨v,H1,I1,rv,q1⟩ => thn (ho pins s1 σ H1 _ I1 q1) fun u s2 ⟨x,H2,I2,rx,q2⟩ => thn (hi pins s2 σ H2 _ I2 q2) fun iv s3 ⟨y,H3,I3,ry,a,H4,ex,g,q3⟩ => ?_) hs
 subst ex
 obtain rfl:u = Value.ref a:=rx
 exact zW hu I3 g ry rv fun s4 I4 => ⟨σ,H4,I4,q3⟩
end
theorem aZ5 {P:Program} {w:World} {H:Hp} (h:Heap) (hb:sysModules < h.objs.size):ObjOk P w H (h.push { cls:=.type "dict",data:=.dict #[] }) h.objs.size (.dK []) :=
 ⟨By _,Dd.mpr (Ne.symm (Bd hb)),[],.nil,Heap.DictOf.new h⟩
theorem aQR {P:Program} {w:World} {H:Hp} (h:Heap) (hb:sysModules < h.objs.size):ObjOk P w H (h.push { cls:=.type "dict",data:=.dict #[] }) h.objs.size (.dT []) :=
 ⟨By _,Dd.mpr (Ne.symm (Bd hb)),[],.nil,_,#[],0,Ar _ rfl,⟨rfl,rfl,rfl⟩,rfl,rfl,List.nodup_nil⟩
def aXV:TE:=fun _ H Q => ∀ p,H p = none → Q (.ref p) (upd H p (.dK []))
def aQJ:TE:=fun _ H Q => ∀ p,H p = none → Q (.ref p) (upd H p (.dT []))
section
variable {X:Cx} {pos:Pos}
theorem mR:PE X (.Dict [] [] pos) aXV:=fun pins s σ H Q I h =>
 wpAny_Dict_empty ⟨.ref s.heap.objs.size,_,I.laid (a:=s.heap.objs.size) (o:=.dK []) (t':=s.toks) (fun _ _ q => Ae _ q) (Ai _) (aZ5 s.heap I.big),rfl,h _ (I.hok.fresh (Ai _))⟩
theorem mQ:PE X (.Dict [] [] pos) aQJ:=fun pins s σ H Q I h =>
 wpAny_Dict_empty ⟨.ref s.heap.objs.size,_,I.laid (a:=s.heap.objs.size) (o:=.dT []) (t':=s.toks) (fun _ _ q => Ae _ q) (Ai _) (aQR s.heap I.big),rfl,h _ (I.hok.fresh (Ai _))⟩
end
def IsD (H:Hp) (a:Addr):Prop:=(∃ kvs,Rd H a (.dK kvs)) ∨ ∃ kvs,Rd H a (.dT kvs)
theorem bJP {X:Cx} {pins:List (Addr × Obj)} {σ:St} {H:Hp} {s:Shared} {a:Addr} (I:Inv X pins σ H s) (d:IsD H a) :
   s.TypeIs (.ref a) "dict" ∧ (∀ b,Value.ref a = .ref b → ∃ ob,s.heap.get? b = some ob ∧ ob.dict = none) ∧ (a == sysModules) = false:=by
 rcases d with ⟨kvs,e⟩ | ⟨kvs,e⟩
 · obtain ⟨_,hd,vs,_,dd⟩:=eV I.hok e
   refine ⟨dd.typeIs,fun b q => ?_,hd⟩
   cases q
   obtain ⟨ob,_,_,h1,h2,_⟩:=dd
   exact ⟨ob,h1,h2.2.1⟩
 · obtain ⟨_,hd,xs,_,dd⟩:=lA I.hok e
   refine ⟨dd.typeIs,fun b q => ?_,hd⟩
   cases q
   obtain ⟨ob,_,_,h1,h2,_⟩:=dd
   exact ⟨ob,h1,h2.2.1⟩
section
variable {X:Cx} {pins:List (Addr × Obj)} {σ:St} {H:Hp} {s:Shared} {a:Addr} {y d:V} {u r:Value} {o:Option V} {A:Around} {E:Value → Shared → Prop}
theorem bJL {Q:Value → Shared → Prop} (hu:A.units + 1 < cLine) (I:Inv X pins σ H s) (g:DGet H a y o) (ry:RelV y u) (h:∀ w' s',Inv X pins σ H s' → RelV (o.getD .non) w' → Q w' s') :
   wpAny (model X.prog X.w) A (call (.builtin "dict.get") [.ref a,u]) Q E s:=by
 rcases g with ⟨kvs,k,e,ey,l⟩ | ⟨kvs,k,b,e,ey,eb,l⟩
 · subst ey
   obtain ⟨z,hd,vs,rel,dd⟩:=eV I.hok e
   refine El Bs dd.typeIs Em (PySem.F.args_dict_get_2 _ _) (meets_dict_get (aS X.prog X.w) a (mT ry) hd) ⟨_,dd.mapOf,h _ _ (I.tok _) ?_⟩
   rw [l]
   exact (rel.val k).getD rfl
 · subst ey
   cases (show u = Value.ref b from ry)
   obtain ⟨z,hd,xs,rel,dd⟩:=lA I.hok e
   refine El Bs dd.typeIs Em (PySem.F.args_dict_get_2 _ _) (meetsH_dict_get (tupleKind (aS X.prog X.w)) a b hd) ⟨Ea hu,k,xs,jB I.hok eb,dd,h _ _ (I.tok _) ?_⟩
   rw [l]
   exact (rel.val k).getD rfl
theorem cXA {Q:Value → Shared → Prop} (hu:A.units + 1 < cLine) (I:Inv X pins σ H s) (g:DGet H a y o) (ry:RelV y u) (rd:RelV d r) (h:∀ w' s',Inv X pins σ H s' → RelV (o.getD d) w' → Q w' s') :
   wpAny (model X.prog X.w) A (call (.builtin "dict.get") [.ref a,u,r]) Q E s:=by
 rcases g with ⟨kvs,k,e,ey,l⟩ | ⟨kvs,k,b,e,ey,eb,l⟩
 · subst ey
   obtain ⟨z,hd,vs,rel,dd⟩:=eV I.hok e
   refine El Bs dd.typeIs Em (PySem.F.args_dict_get_3 _ _ _) (meets_dict_get_default (aS X.prog X.w) a (mT ry) hd r) ⟨_,dd.mapOf,h _ _ (I.tok _) ?_⟩
   rw [l]
   exact (rel.val k).getD rd
 · subst ey
   cases (show u = Value.ref b from ry)
   obtain ⟨z,hd,xs,rel,dd⟩:=lA I.hok e
   refine El Bs dd.typeIs Em (PySem.F.args_dict_get_3 _ _ _) (meetsH_dict_get_default (tupleKind (aS X.prog X.w)) a b hd r) ⟨Ea hu,k,xs,jB I.hok eb,dd,h _ _ (I.tok _) ?_⟩
   rw [l]
   exact (rel.val k).getD rd
end
section
variable {X:Cx} {o e f:Expr} {apos cpos:Pos} {td ty tx:TE}
end
section
variable {X:Cx} {pins:List (Addr × Obj)} {σ:St} {H:Hp} {s:Shared} {a:Addr} {kvs:List (Key × V)} {A:Around} {E:Value → Shared → Prop}
theorem aJG {Q:Value → Shared → Prop} (I:Inv X pins σ H s) (e:Rd H a (.dK kvs)) (h:∀ p s',H p = none → Inv X pins σ (upd H p (.dK kvs)) s' → Q (.ref p) s'):wpAny (model X.prog X.w) A (call (.type "dict") [.ref a]) Q E s:=by
 obtain ⟨z,hd,vs,rel,dd⟩:=eV I.hok e
 refine kt_call_dict hd dd (by rw [← rel.length]; exact z) fun h' dd' hs => ?_
 refine h _ _ (I.hok.fresh (Ai _)) (I.laid (a:=s.heap.objs.size) (o:=.dK kvs) (t':=s.toks) (fun b q hq => ?_) (Ai _) (aQ9 z (Dd.mpr (Ne.symm (Bd I.big))) rel dd'))
 exact (hs.2 b (Bd (An hq))).trans (Ae _ hq)
end
section
variable {X:Cx} {pins:List (Addr × Obj)} {σ:St} {H:Hp} {s:Shared} {a:Addr} {y:V} {u:Value} {A:Around} {E:Value → Shared → Prop}
end
end L2
set_option maxHeartbeats 4000000
namespace L2
open PySem PySem.Spec PyProof.Rows
section
variable {X:Cx} {pins:List (Addr × Obj)} {σ:St} {H:Hp} {s:Shared}
theorem Inv.re {H':Hp} (I:Inv X pins σ H s) (hn:∀ b,H b = none → H' b = none) (tups:∀ b xs,X.H₀ b = some (.tup xs) → H' b = some (.tup xs)) (frzs:∀ b o u,X.H₀ b = some (.frz o u) → H' b = some (.frz o u))
   (tbls:∀ b ps,X.H₀ b = some (.tbl ps) → ∃ more,H' b = some (.tbl (ps ++ more))) (hok:HOk X.prog X.w H' s.heap):Inv X pins σ H' s :=
 ⟨I.ok,I.os,I.bare,⟨I.base.keep,I.base.slot,fun b o e n hx => hn b (I.base.free b o e n hx),I.base.there,tups,frzs,tbls⟩,I.loc,I.cell,hn _ I.free,fun x c e => hn c (I.freeC x c e),fun p hp => by
   obtain ⟨a,b,c,d,e⟩:=I.pin p hp
   exact ⟨a,hn _ b,c,d,e⟩,hok,I.len⟩
def cZ2:HO → Bool
 | .dK _ => true
 | .dT _ => true
 | _ => false
theorem Inv.freeze {a:Addr} {u:HO} {o:Obj} (I:Inv X pins σ H s) (ha:H a = some u) (hu:cZ2 u = true) (ho:s.heap.get? a = some o):Inv X pins σ (upd H a (.frz o u)) s:=by
 have ne:∀ c v,H c = some v → cZ2 v = false → c ≠ a:=fun c v q n z => by rw [z,ha] at q; cases q; rw [n] at hu; cases hu
 have own:∀ c y,H c = some (.own y) → upd H a (.frz o u) c = some (.own y):=fun c y q => by rw [aJ (ne c _ q rfl)]; exact q
 have tup:∀ c xs,H c = some (.tup xs) → upd H a (.frz o u) c = some (.tup xs):=fun c xs q => by rw [aJ (ne c _ q rfl)]; exact q
 refine I.re (fun b q => by rw [aJ (fun z => by rw [z,ha] at q; cases q)]; exact q) (fun b xs q => tup b xs (I.base.tups b xs q)) (fun b o' v q => ?_) (fun b ps q => ?_) (fun b v q => ?_)
 · have:=I.base.frzs b o' v q
   rw [aJ (ne b _ this rfl)]
   exact this
 · obtain ⟨m,e⟩:=I.base.tbls b ps q
   exact ⟨m,by rw [aJ (ne b _ e rfl)]; exact e⟩
 · by_cases hb:b = a
   · subst hb
     rw [aB] at q
     cases q
     exact (show s.heap.get? b = some o ∧ ObjOk X.prog X.w (upd H b (.frz o u)) s.heap b u from ⟨ho,(I.hok b _ ha).stay (fun _ _ _ q => q) (fun c => own c b) tup⟩)
   · rw [aJ hb] at q
     exact (I.hok b v q).stay (fun _ _ _ q => q) (fun c => own c b) tup
def unf (Hs H:Hp):Hp:=fun b => match H b with
 | some (.frz o u) => (match Hs b with | some (.frz _ _) => some (.frz o u) | _ => some u)
 | x => x
theorem dO {Hs H:Hp} {b:Addr} {u:HO} (h:H b = some u) (n:∀ o v,u ≠ .frz o v):unf Hs H b = some u:=by
 unfold unf
 rw [h]
 cases u <;> first | rfl | exact absurd rfl (n _ _)
theorem rU {Hs H:Hp} {b:Addr} (h:H b = none):unf Hs H b = none:=by unfold unf; rw [h]
theorem qV {Hs H:Hp} {b:Addr} {o:Obj} {u:HO} (h:H b = some (.frz o u)) (n:∀ o v,Hs b ≠ some (.frz o v)):unf Hs H b = some u:=by
 unfold unf
 rw [h]
 dsimp only
 split
 · rename_i e
   exact absurd e (n _ _)
 · rfl
theorem jN {Hs H:Hp} {b:Addr} {o o':Obj} {u u':HO} (h:H b = some (.frz o u)) (n:Hs b = some (.frz o' u')):unf Hs H b = some (.frz o u):=by
 unfold unf
 rw [h]
 dsimp only
 rw [n]
theorem Inv.unfreeze {Hs:Hp} (I:Inv X pins σ H s) (h0:∀ b o u,X.H₀ b = some (.frz o u) → Hs b = some (.frz o u)):Inv X pins σ (unf Hs H) s:=by
 have own:∀ c y,H c = some (.own y) → unf Hs H c = some (.own y):=fun c y q => dO q fun _ _ z => by cases z
 have tup:∀ c xs,H c = some (.tup xs) → unf Hs H c = some (.tup xs):=fun c xs q => dO q fun _ _ z => by cases z
 refine I.re (fun b q => rU q) (fun b xs q => tup b xs (I.base.tups b xs q)) (fun b o u q => jN (I.base.frzs b o u q) (h0 b o u q)) (fun b ps q => ?_) (fun b u q => ?_)
 · obtain ⟨m,e⟩:=I.base.tbls b ps q
   exact ⟨m,dO e fun _ _ z => by cases z⟩
 · cases e:H b with
   | none => rw [rU e] at q; cases q
   | some v =>
     have ok:=I.hok b v e
     by_cases hf:∃ o v',v = .frz o v'
     · obtain ⟨o,v',rfl⟩:=hf
       have ok2:s.heap.get? b = some o ∧ ObjOk X.prog X.w H s.heap b v':=ok
       by_cases hs:∃ o' u',Hs b = some (.frz o' u')
       · obtain ⟨o',u',hs⟩:=hs
         rw [jN e hs] at q
         cases q
         exact ok.stay (fun _ _ _ q => q) (fun c => own c b) tup
       · rw [qV e fun o v z => hs ⟨o,v,z⟩] at q
         cases q
         exact ok2.2.stay (fun _ _ _ q => q) (fun c => own c b) tup
     · rw [dO e fun o v' z => hf ⟨o,v',z⟩] at q
       cases q
       exact ok.stay (fun _ _ _ q => q) (fun c => own c b) tup
def aQ1 (Hs:Hp) (D:Ends):Ends:=⟨fun σ H => D.nx σ (unf Hs H),fun v H => D.rt v (unf Hs H),fun σ H => D.bk σ (unf Hs H),fun σ H => D.ct σ (unf Hs H)⟩
end
section
variable {X:Cx} {e:Expr} {st:Stmt}
def dQB (t:TE):TE:=fun σ H Q => t σ H fun v H' => Q v (unf H H')
def bZK (t:TS):TS:=fun D σ H => t (aQ1 H D) σ H
theorem aZA {t:TE} (h:PE X e t):PE X e (dQB t):=fun pins s σ H Q I q => thn (h pins s σ H _ I q) fun v s' ⟨x,H',I',r,q'⟩ => ⟨x,unf H H',I'.unfreeze fun b o u e => I.base.frzs b o u e,r,q'⟩
theorem tU {t:TS} (h:PS X st t):PS X st (bZK t):=fun pins s σ H D I q => thn (h pins s σ H _ I q) fun f s' q' => by
 cases f with
 | next => obtain ⟨σ',H',I',r⟩:=q'; exact ⟨σ',unf H H',I'.unfreeze fun b o u e => I.base.frzs b o u e,r⟩
 | brk => obtain ⟨σ',H',I',r⟩:=q'; exact ⟨σ',unf H H',I'.unfreeze fun b o u e => I.base.frzs b o u e,r⟩
 | cont => obtain ⟨σ',H',I',r⟩:=q'; exact ⟨σ',unf H H',I'.unfreeze fun b o u e => I.base.frzs b o u e,r⟩
 | ret u => obtain ⟨v,σ',H',I',rv,r⟩:=q'; exact ⟨v,σ',unf H H',I'.unfreeze fun b o u e => I.base.frzs b o u e,rv,r⟩
theorem cZD {t:TE} {σ:St} {H:Hp} {Q:VK} (h:t σ H fun v H' => Q v (unf H H')):dQB t σ H Q:=h
theorem cQL {t:TS} {D:Ends} {σ:St} {H:Hp} (h:t (aQ1 H D) σ H):bZK t D σ H:=h
end
theorem lX {Hs H:Hp} {a:Addr} {o:Obj} {u:HO} (ha:Hs a = some u) (hu:∀ o v,u ≠ .frz o v) (h:Same (upd Hs a (.frz o u)) H):Same Hs (unf Hs H):=fun b v q => by
 by_cases e:b = a
 · subst e
   rw [ha] at q
   cases q
   exact qV (h _ _ aB) fun o v z => by rw [ha] at z; cases z; exact hu _ _ rfl
 · have:=h b v (by rw [aJ e]; exact q)
   by_cases hf:∃ o v',v = .frz o v'
   · obtain ⟨o',v',rfl⟩:=hf
     exact jN this q
   · exact dO this fun o v' z => hf ⟨o,v',z⟩
theorem yA {Hs H:Hp} (h:Same Hs H):Same Hs (unf Hs H):=fun b v q => by
 have:=h b v q
 by_cases hf:∃ o v',v = .frz o v'
 · obtain ⟨o',v',rfl⟩:=hf
   exact jN this q
 · exact dO this fun o v' z => hf ⟨o,v',z⟩
theorem nI {α β:Type} {R:α → β → Prop} {xs:List α} {ys:List β} (r:Paired R xs ys):∀ {i:Nat} {x:α},xs[i]? = some x → ∃ y,ys[i]? = some y ∧ R x y:=by
 induction r with
 | nil => intro i x h; cases h
 | cons h t ih =>
   intro i x hx
   cases i with
   | zero => cases hx; exact ⟨_,rfl,h⟩
   | succ i => exact ih (i:=i) hx
theorem aZ7 {P:Program} {w:World} {k:Key} {u:Value} (h:(aS P w).is k u = true):RelV (kV k) u:=by
 rcases bI h with ⟨i,t,rfl,rfl⟩ | ⟨x,t,rfl,rfl⟩
 · exact ⟨t,rfl⟩
 · exact ⟨t,rfl⟩
def Itd (a:Addr) (o:Obj) (kvs:List (Key × V)):It:=⟨fun i H => H a = some (.frz o (.dK kvs)) ∧ i < kvs.length,fun i H x H' => H' = H ∧ ∃ kv,kvs[i]? = some kv ∧ x = kV kv.1,fun i H => H a = some (.frz o (.dK kvs)) ∧ kvs.length = i⟩
theorem vJ {X:Cx} {pins:List (Addr × Obj)} {σ:St} {H:Hp} {s:Shared} {a:Addr} {o:Obj} {kvs:List (Key × V)} {ep:Nat} (I:Inv X pins σ H s) (ha:H a = some (.frz o (.dK kvs))) (hep:∃ es,o.data = .dict es ep) :
   kvs.length ≤ sizeLine ∧ (a == sysModules) = false ∧ ∃ vs,KV kvs vs ∧ s.heap.DictAt (aS X.prog X.w) a vs ep:=by
 have ok:s.heap.get? a = some o ∧ (kvs.length ≤ sizeLine ∧ (a == sysModules) = false ∧ ∃ vs,KV kvs vs ∧ s.heap.DictOf (aS X.prog X.w) a vs):=I.hok a _ ha
 obtain ⟨e,z,hd,vs,rel,o',es',ep',ho',hx,hdat,r⟩:=ok
 rw [e] at ho'
 cases ho'
 obtain ⟨es,hes⟩:=hep
 have q:=hdat
 rw [hes] at q
 cases q
 exact ⟨z,hd,vs,rel,o,_,e,hx,hdat,r⟩
theorem zA {P:Program} {w:World} {K:PySem.W.Frag} {tg:Expr} (a it:Addr) (o:Obj) (kvs:List (Key × V)) (ep:Nat) (hep:∃ es,o.data = .dict es ep):Turn P w K tg (Itd a o kvs) [it] it (fun i h => h.IsKeyIter it a i kvs.length ep) where
 mem:=by simp
 obj:=fun i h st b hb => by
   have e:b = it:=by simpa using hb
   subst e
   obtain ⟨o,e,c,d⟩:=st
   exact ⟨o,e,fun v z => by rw [d] at z; cases z⟩
 keep:=fun i h h' st k => let ⟨o,ho,r⟩:=st; ⟨o,k it (by simp) o ho,r⟩
 item:=by
   intro X hP hw hK hc i pins s σ H E I hf st hg
   subst hP hw hK
   obtain ⟨ha,hi⟩:=hg
   obtain ⟨z,hd,vs,rel,dd⟩:=vJ I ha hep
   have hlv:=rel.length
   obtain ⟨f0,f1,f2,f3,f4,f5⟩:=hf it (by simp)
   obtain ⟨⟨k,v⟩,hx,hk1,_⟩:=nI rel (Aa hi)
   refine wpAny_pyNext_dict_item (knd:=aS X.prog X.w) (by rw [← hlv]; exact st) dd hx fun key h' hk st' sb => ?_
   have I1:Inv X pins σ H { s with heap:=h' }:=I.turned (t':=s.toks) (fun b o hb e => (sb.2 b hb).trans e) f0 f1 f3 f4 f5
   obtain ⟨oi,e,c,d⟩:=id st'
   refine ⟨key,rfl,mZ (s:={ s with heap:=h' }) e c d (by decide) ⟨kV k,H,I1,aZ7 hk,⟨rfl,kvs[i],Aa hi,by rw [hk1]⟩,?_,fun b hb => (hf b hb).1⟩⟩
   rw [hlv]
   exact st'
 done:=by
   intro X hP hw hK hc i pins s σ H E I hf st hg
   subst hP hw hK
   obtain ⟨ha,hi⟩:=hg
   obtain ⟨z,hd,vs,rel,dd⟩:=vJ I ha hep
   have hlv:=rel.length
   obtain ⟨f0,f1,f2,f3,f4,f5⟩:=hf it (by simp)
   exact wpAny_pyNext_dict_end (knd:=aS X.prog X.w) (I.ok.hd hc) (by rw [← hlv]; exact st) dd (Er (by omega)) fun h' eb => ⟨rfl,I.turned (t':=s.toks) (fun b o hb e => eb b o hb e) f0 f1 f3 f4 f5⟩
 self:=fun _ _ _ _ _ st h => wpAny_pyIter_keyiter st h
section
variable {X:Cx} {tg:Expr}
theorem aX9 {pins:List (Addr × Obj)} {σ:St} {H:Hp} {s:Shared} {a:Addr} {kvs:List (Key × V)} (I:Inv X pins σ H s) (ha:H a = some (.dK kvs)):∃ o es ep,s.heap.get? a = some o ∧ o.data = .dict es ep:=by
 obtain ⟨_,_,vs,_,o,es,ep,ho,_,hd,_⟩:=bZR I.hok ha
 exact ⟨o,es,ep,ho,hd⟩
theorem bXH {pins:List (Addr × Obj)} {σ:St} {H:Hp} {s:Shared} {a:Addr} {o:Obj} {kvs:List (Key × V)} (I:Inv X pins σ H s) (ha:H a = some (.frz o (.dK kvs))):∃ ep,∃ es,o.data = .dict es ep:=by
 have ok:s.heap.get? a = some o ∧ (kvs.length ≤ sizeLine ∧ (a == sysModules) = false ∧ ∃ vs,KV kvs vs ∧ s.heap.DictOf (aS X.prog X.w) a vs):=I.hok a _ ha
 obtain ⟨e,_,_,vs,_,o',es,ep,ho,_,hd,_⟩:=ok
 rw [e] at ho
 cases ho
 exact ⟨ep,es,hd⟩
def qW (H:Hp) (a:Addr) (R:Obj → List (Key × V) → Hp → Prop):Prop:=(∃ kvs,H a = some (.dK kvs) ∧ ∀ o,R o kvs (upd H a (.frz o (.dK kvs)))) ∨ ∃ o kvs,H a = some (.frz o (.dK kvs)) ∧ R o kvs H
theorem walk_at {pins:List (Addr × Obj)} {σ:St} {H:Hp} {s:Shared} {a:Addr} {R:Obj → List (Key × V) → Hp → Prop} (I:Inv X pins σ H s) (h:qW H a R) :
   ∃ o kvs H' ep,Inv X pins σ H' s ∧ H' a = some (.frz o (.dK kvs)) ∧ (∃ es,o.data = .dict es ep) ∧ R o kvs H':=by
 rcases h with ⟨kvs,ha,q⟩ | ⟨o,kvs,ha,q⟩
 · obtain ⟨o,es,ep,ho,hd⟩:=aX9 I ha
   exact ⟨o,kvs,_,ep,I.freeze ha rfl ho,aB,⟨es,hd⟩,q o⟩
 · obtain ⟨ep,es,hd⟩:=bXH I ha
   exact ⟨o,kvs,H,ep,I,ha,⟨es,hd⟩,q⟩
def bZO (tl:TE):TI:=fun σ H R => tl σ H (eY fun a H1 => qW H1 a fun o kvs H2 => R (Itd a o kvs) H2)
theorem bQF {l:Expr} {tl:TE} (hl:PE X l tl):PI X tg l (bZO tl):=by
 intro pins s σ H R I h
 refine thn (hl pins s σ H _ I h) fun v s1 ⟨x,H1,I1,r1,q1⟩ => ?_
 unfold eY at q1
 split at q1
 · cases r1
   rename_i a0 _
   obtain ⟨o,kvs,H2,ep,I2,ha,hep,q⟩:=walk_at I1 q1
   obtain ⟨z,hd,vs,rel,dd⟩:=vJ I2 ha hep
   refine wpAny_pyIter_dict (knd:=aS X.prog X.w) hd dd ?_
   refine ⟨s1.heap.objs.size,[s1.heap.objs.size],_,_,H2,rfl,I2.kept (t':=s1.toks) fun b o e => Ae _ e,zA a0 _ o kvs ep hep,⟨_,Ar _ rfl,rfl,by rw [rel.length]; rfl⟩,fun b hb => ?_,q⟩
   have e:b = s1.heap.objs.size:=by simpa using hb
   subst e
   exact I2.fpOk (Ai _) (I2.hok.fresh (Ai _))
 · exact q1.elim
def isD (H:Hp) (p:Addr):Bool:=match H p with
 | some (.dK _) => true
 | some (.dT _) => true
 | some (.frz _ (.dK _)) => true
 | some (.frz _ (.dT _)) => true
 | _ => false
theorem bJE {H:Hp} {p:Addr} (h:isD H p = true):IsD H p:=by
 unfold isD at h
 split at h
 · exact .inl ⟨_,.inl (by assumption)⟩
 · exact .inr ⟨_,.inl (by assumption)⟩
 · exact .inl ⟨_,.inr ⟨_,by assumption⟩⟩
 · exact .inr ⟨_,.inr ⟨_,by assumption⟩⟩
 · cases h
theorem jZ {H:Hp} {p:Addr} {kvs:List (Key × V)} (h:H p = some (.dK kvs)):isD H p = true:=by unfold isD; rw [h]
theorem aZ1 {H:Hp} {p:Addr} {o:Obj} {kvs:List (Key × V)} (h:H p = some (.frz o (.dK kvs))):isD H p = true:=by unfold isD; rw [h]
end
section
variable {a:Addr} {o:Obj} {kvs:List (Key × V)} {g:TG} {tb:TS} {D:Ends} {σ:St} {H:Hp} {R:It → Hp → Prop} {tl:TE}
theorem bXX (h:tl σ H (eY fun a H1 => qW H1 a fun o kvs H2 => R (Itd a o kvs) H2)):bZO tl σ H R:=h
theorem cQG {Rw:Obj → List (Key × V) → Hp → Prop} (e:H a = some (.dK kvs)) (h:∀ o,Rw o kvs (upd H a (.frz o (.dK kvs)))):qW H a Rw:=.inl ⟨kvs,e,h⟩
end
section
variable {X:Cx} {o e:Expr} {es:List Expr} {to:TE} {t:TA} {name:Str} {apos cpos:Pos} {id:String} {r:V → List V → Hp → VK → Prop}
def aJC (r:V → List V → Hp → VK → Prop) (to:TE) (t:TA):TE:=fun σ H Q => to σ H (eY fun p H1 => isD H1 p = true ∧ t σ H1 fun xs H2 => r (.ref p) xs H2 Q)
theorem fK (slot:Slot "dict" name id) (hty:typeOf (.builtin id) = pure (.type "method_descriptor")) (hm:MtR X id r) (ho:PE X o to) (ha:PA X (e :: es) t)
   (hbase:attributeBase o name X.env (eval o X.env) = eval o X.env:=by rfl)
   (hfew:((backTo cpos (starEach (e :: es) X.env)).all (fun x => !x.1) && (backToKw cpos (keywordEach [] X.env)).all (fun x => x.1.isSome)
     && decide ((e :: es).length + ([]:List Keyword).length + (if ([]:List Keyword).isEmpty then 0 else 1) < 30)) = true:=by rfl)
   (hline:(apos.endLine == cpos.line) = true:=by rfl) (hs:starEach (e :: es) X.env = (false,eval e X.env) :: starEach es X.env:=by rfl) (hplain:(backTo cpos (starEach es X.env)).any (·.1) = false:=by rfl) :
   PE X (.Call (.Attribute o name apos) (e :: es) [] cpos) (aJC r to t):=by
 intro pins s σ H Q I h
 refine wpAny_Call_method_late hbase hfew hline rfl (thn (ho pins s σ H _ I h) fun v s1 ⟨x,H1,I1,r1,q⟩ => ?_)
 unfold eY at q
 split at q
 · obtain ⟨hd,q1⟩:=q
   obtain ⟨h1,h2,_⟩:=bJP I1 (bJE hd)
   cases _root_.id r1
   refine ⟨"dict",_,PySem.F.plainAttrs_dict,slot,hty,h1,h2,?_⟩
   have hA:=ha cpos pins s1 σ H1 _ I1 q1
   rw [hs] at hA ⊢
   refine Gb (by show (false || (backTo cpos (starEach es X.env)).any (·.1)) = false; rw [hplain] <;> rfl) (Calls.evalArgs_plain ?_)
   exact thn hA fun us s2 ⟨vs,H2,I2,r2,q2⟩ => hm pins s2 σ H2 _ vs _ us Q I2 r1 r2 q2
 · exact q.elim
def cZ4:V → List V → Hp → VK → Prop:=fun x vs H Q => ∃ a y z o,x = .ref a ∧ vs = [y,z] ∧ DGet H a y o ∧ Q (o.getD z) H
theorem wX (hu:X.A.units + 1 < cLine):MtR X "dict.get" cZ4:=by
 intro pins s σ H x vs v us Q I rx rv h
 obtain ⟨a,y,z,ov,rfl,rfl,g,q⟩:=h
 cases rx
 obtain ⟨u,w',rfl,ru,rw'⟩:=oZ rv
 exact cXA hu I g ru rw' fun w1 s1 I1 r1 => ⟨_,H,I1,r1,q⟩
def vW:List V → Hp → VK → Prop:=fun xs H Q => ∃ a kvs,xs = [.ref a] ∧ Rd H a (.dK kvs) ∧ ∀ p,H p = none → Q (.ref p) (upd H p (.dK kvs))
theorem aXX:CallR X (.type "dict") vW:=by
 intro pins s σ H xs us Q I r h
 obtain ⟨a,kvs,rfl,ha,q⟩:=h
 obtain ⟨u,rfl,ru⟩:=eL r
 cases ru
 exact aJG I ha fun p s1 hp I1 => ⟨.ref p,_,I1,rfl,q p hp⟩
def cQM (x y:V) (H:Hp) (Q:VK):Prop:=∃ a v,x = .ref a ∧ DGet H a y (some v) ∧ Q v H
def aZF (D:Ends) (σ:St) (x y v:V) (H:Hp):Prop:=∃ a H4,x = .ref a ∧ DPut H a y v H4 ∧ D.nx σ H4
end
section
variable {σ:St} {H:Hp} {Q:VK} {D:Ends} {a:Addr} {kvs:List (Key × V)} {z:Str} {v w:V} {to td ty tv:TE} {t:TA} {r:V → List V → Hp → VK → Prop}
theorem bXD (h:to σ H (eY fun p H1 => isD H1 p = true ∧ t σ H1 fun xs H2 => r (.ref p) xs H2 Q)):aJC r to t σ H Q:=h
theorem dQE {P:Prop} (e:isD H a = true) (h:P):isD H a = true ∧ P:=⟨e,h⟩
theorem xG (e:Rd H a (.dK kvs)) (h:Q ((bJ kvs (Sum.inr z)).getD w) H):cZ4 (.ref a) [.str z,w] H Q:=⟨a,.str z,w,_,rfl,rfl,.inl ⟨kvs,.inr z,e,rfl,rfl⟩,h⟩
theorem aZJ (e:Rd H a (.dK kvs)) (h:∀ p,H p = none → Q (.ref p) (upd H p (.dK kvs))):vW [.ref a] H Q:=⟨a,kvs,rfl,e,h⟩
theorem cQ3 (h:∀ p,H p = none → Q (.ref p) (upd H p (.dK []))):aXV σ H Q:=h
theorem cJ4 (h:td σ H fun x H1 => ty σ H1 fun y H2 => cQM x y H2 Q):bZ5 td ty σ H Q:=h
theorem pV (e:Rd H a (.dK kvs)) (l:bJ kvs (Sum.inr z) = some v) (h:Q v H):cQM (.ref a) (.str z) H Q:=⟨a,v,rfl,.inl ⟨kvs,.inr z,e,rfl,l.symm⟩,h⟩
theorem bJ6 (h:tv σ H fun v H1 => td σ H1 fun x H2 => ty σ H2 fun y H3 => aZF D σ x y v H3):bZ2 td ty tv D σ H:=h
theorem fP (e:H a = some (.dK kvs)) (l:kvs.length < sizeLine) (h:D.nx σ (upd H a (.dK (cY kvs (Sum.inr z) v)))):aZF D σ (.ref a) (.str z) v H:=⟨a,_,rfl,.inl ⟨kvs,.inr z,e,rfl,l,rfl⟩,h⟩
end
end L2
set_option maxHeartbeats 4000000
namespace L2
open PySem PySem.Spec PyProof.Rows
open PySem.AutoSeq1 (wpAny_loadPart')
open PySem.MeetsSeq PySem.MeetsSeq2 PySem.MeetsSeq3
def EqW (P:Program) (w:World) (A:Around) (s:Shared) (u v:Value):Prop:=∀ (E:Value → Shared → Prop) (Q:Bool → Shared → Prop),Q true s → wpAny (model P w) A (eqBool u v) Q E s
theorem zY {P:Program} {w:World} (l b:Addr) (xs ys:Array Value) (n n2:Nat) (dd dd2:Option Addr) (sl sl2:Array (Option Value)) (hsz:xs.size = ys.size) (k:Nat) :
   ∀ i:Nat,xs.size - i = k → MeetsIn P w (Builtin.«list.__eq__.loop» ⟨[.ref l,.ref b,rawInt i,rawInt 2],[]⟩)
     (fun A R s => s.heap.get? l = some ⟨.type "list",dd,.seq xs n,sl⟩ ∧ s.heap.get? b = some ⟨.type "list",dd2,.seq ys n2,sl2⟩ ∧ (∀ j (h1:j < xs.size) (h2:j < ys.size),EqW P w A.in1 s xs[j] ys[j]) ∧ R (.ok (.ret (.bool true))) s):=by
 induction k with
 | zero =>
   intro i hk A R s h
   obtain ⟨hp,g,d,tk,os⟩:=s
   obtain ⟨ha,hq,he,h⟩:=h
   wp_walk using (Au ha),(Au hq)
   have n1:xs[((i:Nat):Int).toNat]? = none:=by simp; omega
   have n2':ys[((i:Nat):Int).toNat]? = none:=by simp; omega
   rw [n1,n2']
   wp_walk using (Au ha),(Au hq)
   show R (.ok (.ret (.bool (xs.size == ys.size)))) _
   rw [hsz,Gi]
   exact h
 | succ k ih =>
   intro i hk A R s h
   obtain ⟨hp,g,d,tk,os⟩:=s
   obtain ⟨ha,hq,he,h⟩:=h
   wp_walk using (Au ha),(Au hq)
   have l1:i < xs.size:=by omega
   have l2:i < ys.size:=by omega
   have n1:xs[((i:Nat):Int).toNat]? = some xs[i]:=by simp [l1]
   have n2':ys[((i:Nat):Int).toNat]? = some ys[i]:=by simp [l2]
   have hc:((i:Int) + 1) = ((i + 1:Nat):Int):=by push_cast; rfl
   rw [n1,n2']
   refine Ac (he i l1 l2 _ _ ?_)
   wp_walk
   rw [hc]
   refine ⟨Ep plain_eq_loop _,Dt entry_eq_loop ?_⟩
   rw [Cv plain_eq_loop _]
   exact ih (i + 1) (by omega) A R _ ⟨ha,hq,he,h⟩
theorem zE {P:Program} {w:World} (l b:Addr) (xs ys:Array Value) (n n2:Nat) (dd dd2:Option Addr) (sl sl2:Array (Option Value)) (hsz:xs.size = ys.size) (k:Nat) :
   ∀ i:Nat,xs.size - i = k → MeetsIn P w (Builtin.«list.__eq__.loop» ⟨[.ref l,.ref b,rawInt i,rawInt 3],[]⟩)
     (fun A R s => s.heap.get? l = some ⟨.type "list",dd,.seq xs n,sl⟩ ∧ s.heap.get? b = some ⟨.type "list",dd2,.seq ys n2,sl2⟩ ∧ (∀ j (h1:j < xs.size) (h2:j < ys.size),EqW P w A.in1 s xs[j] ys[j]) ∧ R (.ok (.ret (.bool false))) s):=by
 induction k with
 | zero =>
   intro i hk A R s h
   obtain ⟨hp,g,d,tk,os⟩:=s
   obtain ⟨ha,hq,he,h⟩:=h
   wp_walk using (Au ha),(Au hq)
   have n1:xs[((i:Nat):Int).toNat]? = none:=by simp; omega
   have n2':ys[((i:Nat):Int).toNat]? = none:=by simp; omega
   rw [n1,n2']
   wp_walk using (Au ha),(Au hq)
   show R (.ok (.ret (.bool (xs.size != ys.size)))) _
   rw [hsz,bne_self_eq_false]
   exact h
 | succ k ih =>
   intro i hk A R s h
   obtain ⟨hp,g,d,tk,os⟩:=s
   obtain ⟨ha,hq,he,h⟩:=h
   wp_walk using (Au ha),(Au hq)
   have l1:i < xs.size:=by omega
   have l2:i < ys.size:=by omega
   have n1:xs[((i:Nat):Int).toNat]? = some xs[i]:=by simp [l1]
   have n2':ys[((i:Nat):Int).toNat]? = some ys[i]:=by simp [l2]
   have hc:((i:Int) + 1) = ((i + 1:Nat):Int):=by push_cast; rfl
   rw [n1,n2']
   refine Ac (he i l1 l2 _ _ ?_)
   wp_walk
   rw [hc]
   refine ⟨Ep plain_eq_loop _,Dt entry_eq_loop ?_⟩
   rw [Cv plain_eq_loop _]
   exact ih (i + 1) (by omega) A R _ ⟨ha,hq,he,h⟩
section
variable {P:Program} {w:World} {A:Around} {E:Value → Shared → Prop} {s:Shared} {l b:Addr} {xs ys:Array Value}
theorem aZE {Q:Value → Shared → Prop} (hl:s.heap.IsList l xs) (hb:s.heap.IsList b ys) (hsz:xs.size = ys.size) (hu:A.units < cLine) (he:∀ j (h1:j < xs.size) (h2:j < ys.size),EqW P w A.in1 s xs[j] ys[j]) (h:Q (.bool true) s) :
   wpAny (model P w) A (richCompare .Eq (.ref l) (.ref b)) Q E s:=by
 obtain ⟨⟨cls,dd,data,sl⟩,ho,hc,n,hd⟩:=id hl
 obtain ⟨⟨cls2,dd2,data2,sl2⟩,ho2,hc2,n2,hd2⟩:=id hb
 obtain rfl:cls = .type "list" := hc
 obtain rfl:data = .seq xs n:=hd
 obtain rfl:cls2 = .type "list" := hc2
 obtain rfl:data2 = .seq ys n2:=hd2
 have g:MeetsIn P w (Builtin.«list.__eq__» ⟨[.ref l,.ref b],[]⟩) (fun A R s => s.heap.get? l = some ⟨.type "list",dd,.seq xs n,sl⟩ ∧ s.heap.get? b = some ⟨.type "list",dd2,.seq ys n2,sl2⟩ ∧ (∀ j (h1:j < xs.size) (h2:j < ys.size),EqW P w A.in1 s xs[j] ys[j]) ∧ R (.ok (.ret (.bool true))) s):=by
   intro A R s h
   obtain ⟨hp,g,d,tk,os⟩:=s
   obtain ⟨ha,hq,he,h⟩:=h
   have f3:=Ge
   have hne:¬ (xs.size != ys.size) = true:=by simp [hsz]
   wp_walk using (Au ha),(Au hq)
   refine ⟨Ep plain_eq_loop _,Dt entry_eq_loop ?_⟩
   rw [Cv plain_eq_loop _]
   exact zY l b xs ys n n2 dd dd2 sl sl2 hsz _ 0 rfl A R _ ⟨ha,hq,he,h⟩
 exact Dv (op:=.Eq) ⟨_,ho,rfl⟩ ⟨_,ho2,rfl⟩ PySem.F.slot_list_eq (El PySem.F.slot_list_eq ⟨_,ho,rfl⟩ PySem.F.entry_list_eq (PySem.F.args_list_eq_2 _ _) g ⟨ho,ho2,he,show Value.bool true ≠ Value.notImplemented ∧ Q (.bool true) s from ⟨(fun x => nomatch x),h⟩⟩) hu
theorem cXW {Q:Value → Shared → Prop} (hl:s.heap.IsList l xs) (hb:s.heap.IsList b ys) (hsz:xs.size = ys.size) (hu:A.units < cLine) (he:∀ j (h1:j < xs.size) (h2:j < ys.size),EqW P w A.in1 s xs[j] ys[j]) (h:Q (.bool false) s) :
   wpAny (model P w) A (richCompare .NotEq (.ref l) (.ref b)) Q E s:=by
 obtain ⟨⟨cls,dd,data,sl⟩,ho,hc,n,hd⟩:=id hl
 obtain ⟨⟨cls2,dd2,data2,sl2⟩,ho2,hc2,n2,hd2⟩:=id hb
 obtain rfl:cls = .type "list" := hc
 obtain rfl:data = .seq xs n:=hd
 obtain rfl:cls2 = .type "list" := hc2
 obtain rfl:data2 = .seq ys n2:=hd2
 have g:MeetsIn P w (Builtin.«list.__ne__» ⟨[.ref l,.ref b],[]⟩) (fun A R s => s.heap.get? l = some ⟨.type "list",dd,.seq xs n,sl⟩ ∧ s.heap.get? b = some ⟨.type "list",dd2,.seq ys n2,sl2⟩ ∧ (∀ j (h1:j < xs.size) (h2:j < ys.size),EqW P w A.in1 s xs[j] ys[j]) ∧ R (.ok (.ret (.bool false))) s):=by
   intro A R s h
   obtain ⟨hp,g,d,tk,os⟩:=s
   obtain ⟨ha,hq,he,h⟩:=h
   have f3:=Ge
   have hne:¬ (xs.size != ys.size) = true:=by simp [hsz]
   wp_walk using (Au ha),(Au hq)
   refine ⟨Ep plain_eq_loop _,Dt entry_eq_loop ?_⟩
   rw [Cv plain_eq_loop _]
   exact zE l b xs ys n n2 dd dd2 sl sl2 hsz _ 0 rfl A R _ ⟨ha,hq,he,h⟩
 exact Dv (op:=.NotEq) ⟨_,ho,rfl⟩ ⟨_,ho2,rfl⟩ PySem.F.slot_list_ne (El PySem.F.slot_list_ne ⟨_,ho,rfl⟩ PySem.F.entry_list_ne (PySem.F.args_list_ne_2 _ _) g ⟨ho,ho2,he,show Value.bool false ≠ Value.notImplemented ∧ Q (.bool false) s from ⟨(fun x => nomatch x),h⟩⟩) hu
theorem EqW.same (u:Value):EqW P w A s u u:=fun E Q hq => SeqAt.EqAt.same u P w E Q hq
theorem EqW.refs (hne:l ≠ b) (h:∀ (E:Value → Shared → Prop) (Q:Value → Shared → Prop),Q (.bool true) s → wpAny (model P w) A (richCompare .Eq (.ref l) (.ref b)) Q E s):EqW P w A s (.ref l) (.ref b):=fun E Q hq => by
 unfold eqBool
 refine Bu (wpAny_ite_split (fun hab => absurd (by have:=Gw hab; injection this) hne) (fun _ => ?_))
 exact Ac (h E _ (Eu hq))
end
def DEq (kvs kws:List (Key × V)):Prop:=kvs.length = kws.length ∧ ∀ kv ∈ kvs,bF kv.2 = true ∧ bJ kws kv.1 = some kv.2
theorem wD {A:Around} {s:Shared} {kws:List (Key × V)} {ws:List (Key × Value)} (rw':KV kws ws) {kvs:List (Key × V)} {vs:List (Key × Value)} (r:KV kvs vs) (h:∀ kv ∈ kvs,bF kv.2 = true ∧ bJ kws kv.1 = some kv.2):PySem.W.KeqHits A s ws vs true:=by
 unfold KV at r
 induction r with
 | nil => exact .nil
 | @cons kv vv _ _ hk t ih =>
   obtain ⟨k,v⟩:=kv
   obtain ⟨k',u⟩:=vv
   obtain ⟨e,ru⟩:=hk
   cases e
   obtain ⟨f,hv⟩:=h (k,v) (Aq ..)
   have ro:=rw'.val k
   rw [hv] at ro
   cases ey:valueAt ws k with
   | none => rw [ey] at ro; exact (show False from ro).elim
   | some y =>
     rw [ey] at ro
     have eq:=iU (A:=A) (s:=s) ru (show RelV v y from ro) f f
     rw [fJ f] at eq
     exact .hit (e:=true) (b:=true) ey eq (ih fun kv hkv => h kv (Al _ hkv))
theorem bXY {X:Cx} {pins:List (Addr × Obj)} {σ:St} {H:Hp} {s:Shared} (I:Inv X pins σ H s) {A:Around} {p q:Addr} {kvs kws:List (Key × V)} (hp:Rd H p (.dK kvs)) (hq:Rd H q (.dK kws)) (d:DEq kvs kws) (hu:A.units < cLine) (E:Value → Shared → Prop) (Q:Value → Shared → Prop) :
   (Q (.bool true) s → wpAny (model X.prog X.w) A (richCompare .Eq (.ref p) (.ref q)) Q E s) ∧ (Q (.bool false) s → wpAny (model X.prog X.w) A (richCompare .NotEq (.ref p) (.ref q)) Q E s):=by
 obtain ⟨z1,d1,vs,r1,dd1⟩:=eV I.hok hp
 obtain ⟨z2,d2,ws,r2,dd2⟩:=eV I.hok hq
 have hl:(vs.length == ws.length) = true:=beq_iff_eq.mpr (by rw [← r1.length,← r2.length]; exact d.1)
 refine ⟨fun h => PySem.W.keq_eq (r:=true) d1 d2 dd1 dd2 hu (fun _ => wD r2 r1 d.2) (by rw [hl]; exact h),fun h => PySem.W.keq_ne (r:=true) d1 d2 dd1 dd2 hu (fun _ => wD r2 r1 d.2) (by rw [hl]; exact h)⟩
def Alw (H:Hp):Nat → V → V → Prop
 | 0,x,y => x = y ∧ bF x = true
 | n + 1,x,y => (x = y ∧ bF x = true) ∨ ∃ p q,x = .ref p ∧ y = .ref q ∧ ((∃ xs ys,rdL H p = some xs ∧ rdL H q = some ys ∧ xs.length = ys.length ∧ ∀ (j:Nat) x' y',xs[j]? = some x' → ys[j]? = some y' → Alw H n x' y') ∨ ∃ kvs kws,Rd H p (.dK kvs) ∧ Rd H q (.dK kws) ∧ DEq kvs kws)
theorem Alw.flat {H:Hp} {n:Nat} {x:V} (h:bF x = true):Alw H n x x:=by
 cases n with
 | zero => exact ⟨rfl,h⟩
 | succ n => exact .inl ⟨rfl,h⟩
theorem Alw.lst {H:Hp} {n:Nat} {p q:Addr} {xs ys:List V} (hp:rdL H p = some xs) (hq:rdL H q = some ys) (hl:xs.length = ys.length) (h:∀ (j:Nat) x y,xs[j]? = some x → ys[j]? = some y → Alw H n x y):Alw H (n + 1) (.ref p) (.ref q):=.inr ⟨p,q,rfl,rfl,.inl ⟨xs,ys,hp,hq,hl,h⟩⟩
theorem Alw.flats {H:Hp} {n:Nat} {xs:List V} (f:xs.all bF = true):∀ (j:Nat) x y,xs[j]? = some x → xs[j]? = some y → Alw H n x y:=fun j x y hx hy => by
 rw [hx] at hy
 cases hy
 exact .flat (Ci.mp f x (Ak hx))
section
variable {X:Cx}
end
section
variable {X:Cx} {e:Expr} {te:TE} {p2 pos pu pc:Pos} {j:Nat}
end
theorem Room.u1 {k:Nat} {A:Around} (r:Room k A):A.units + 1 < cLine:=by have:=r.un; omega
section
variable {X:Cx} {pu pc:Pos} {j:Nat}
end
end L2
set_option maxHeartbeats 4000000
namespace L2
open PySem PySem.Spec PyProof.Rows
open PySem.AutoSeq1 (wpAny_loadPart')
section
variable {prog:Program} {w:World} {A:Around} {E:Value → Shared → Prop} {s:Shared}
end
section
variable {X:Cx}
def aXC:List V → Hp → VK → Prop:=fun xs H Q => ∃ (a:Addr) (kvs:List (Key × V)) (ss:List Str),xs = [.ref a] ∧ Rd H a (.dK kvs) ∧ kvs.map (·.1) = ss.map Sum.inr ∧ kvs.length < 64 ∧ ∀ r (ss':List Str),H r = none → ss'.Perm ss → Q (.ref r) (upd H r (.lst (ss'.map V.str)))
theorem zS:∀ {vs:List Value} {ss:List Str},StrsAre vs ss → Vals (ss.map V.str) vs:=by
 intro vs ss h
 induction h with
 | nil => exact .nil
 | cons x t _ ih => exact .cons ⟨t,rfl⟩ ih
theorem vX:∀ {vs:List Value} {ss:List Str},vs.length = ss.length → (∀ (j:Nat) v x,vs[j]? = some v → ss[j]? = some x → ∃ t,v = .str x t) → StrsAre vs ss
 | [],[],_,_ => .nil
 | v :: r,x :: y,hl,h => by
   obtain ⟨t,e⟩:=h 0 v x rfl rfl
   subst e
   exact .cons x t (vX (by simpa using hl) fun j v' x' a b => h (j + 1) v' x' (by simpa using a) (by simpa using b))
 | [],_ :: _,hl,_ => absurd hl (by simp)
 | _ :: _,[],hl,_ => absurd hl (by simp)
theorem cX2 (hc:X.calm = true):CallR X (.builtin "sorted") aXC:=by
 intro pins s σ H xs us Q I r h
 obtain ⟨a,kvs,ss,rfl,ha,hk,h64,q⟩:=h
 obtain ⟨u,rfl,ru⟩:=eL r
 cases ru
 obtain ⟨z,hd,vs,rel,dd⟩:=eV I.hok ha
 obtain ⟨ep,hat⟩:=dd.dictAt
 have hlv:=rel.length
 refine Fe kind_sorted plain_sorted entry_sorted (args_sorted1 _) ?_
 unfold Builtin.«sorted»
 refine Ac (m:=checkCount "sorted" 1 1 _) (Ah (Ac (PySem.W.kdu_collect (A:=X.A.in1) (PySem.W.kdl_dict (knd:=aS X.prog X.w) (kvs:=vs) (ep:=ep) hd) (I.ok.hd hc) hat (by omega) fun h' tk acc hk' hacc => ?_)))
 have hl:acc.toList.length = vs.length:=by rw [Bt]; exact hacc.1
 have I1:Inv X pins σ H { s with heap:=h',toks:=tk }:=I.kept hk'
 have hsl:ss.length = kvs.length:=by have:=Cp List.length hk; rw [Ab,Ab] at this; exact this.symm
 have hS:StrsAre acc.toList ss:=vX (by omega) fun j v x hv hx => by
   obtain ⟨k,y,e1,e2⟩:=hacc.2 j v (by rw [← Cc]; exact hv)
   have hk2:(kvs.map (·.1))[j]? = some k:=by rw [rel.keys,Ag,e1]; rfl
   rw [hk,Ag,hx] at hk2
   cases hk2
   exact aZ7 e2
 refine Ac (Gr ?_ (by rw [hl]; omega))
 have hoL:(h'.push { cls:=.type "list",data:=.seq acc.toList.toArray }).get? h'.objs.size = some (seqObj "list" acc.toList.toArray 0):=Ar _ rfl
 refine Ac (Bu (Cu PyProof.Rows.slot_list_sort ⟨_,hoL,rfl⟩ PyProof.Rows.entry_list_sort (list_sort_treeK strKind_oneLt hoL hS.keysOf (fun v1 v2 rest e => keyKind_strs (by rw [← e]; exact hS)) (by omega) fun st' a1 a2 => ⟨_,rfl,?_⟩) (PyProof.Rows.args_list_sort _)))
 obtain ⟨ss',b1,b2,_⟩:=sorted_out_str hS a1 a2
 obtain ⟨c,hcc⟩:=sortedHeap_at (vs:=acc.toList) (out:=(arrOf st').map (·.2)) hoL
 refine Ah ⟨_,rfl,.ref h'.objs.size,upd H h'.objs.size (.lst (ss'.map V.str)),I1.laid (a:=h'.objs.size) (o:=.lst (ss'.map V.str)) (t':=tk) (fun b o e => ?_) (Ai _) ?_,rfl,q _ ss' (I1.hok.fresh (Ai _)) b2⟩
 · have hlt:=An e
   refine (sortedHeap_old (Bd hlt) (An (Ae _ e))).trans (Ae _ e)
 · have:=b2.length_eq
   refine ⟨by rw [Ab]; exact Cz (aT (by omega)),_,c,zS b1,?_⟩
   rw [hcc]
def aXK:List V → Hp → VK → Prop:=fun xs H Q => ∃ (a:Addr) (kvs:List (Key × V)),xs = [.ref a] ∧ Rd H a (.dK kvs) ∧ ∀ r,H r = none → Q (.ref r) (upd H r (.lst (kvs.map fun kv => kV kv.1)))
theorem pN:∀ {xs:List V} {us:List Value},us.length = xs.length → (∀ (j:Nat) x u,xs[j]? = some x → us[j]? = some u → RelV x u) → Vals xs us
 | [],[],_,_ => .nil
 | x :: r,u :: t,hl,h => .cons (h 0 x u rfl rfl) (pN (by simpa using hl) fun j x' u' a b => h (j + 1) x' u' (by simpa using a) (by simpa using b))
 | [],_ :: _,hl,_ => absurd hl (by simp)
 | _ :: _,[],hl,_ => absurd hl (by simp)
theorem bQG (hc:X.calm = true):CallR X (.type "list") aXK:=by
 intro pins s σ H xs us Q I r h
 obtain ⟨a,kvs,rfl,ha,q⟩:=h
 obtain ⟨u,rfl,ru⟩:=eL r
 cases ru
 obtain ⟨z,hd,vs,rel,dd⟩:=eV I.hok ha
 obtain ⟨ep,hat⟩:=dd.dictAt
 have hlv:=rel.length
 refine PySem.W.kdl_call (A:=X.A) (PySem.W.kdl_dict (knd:=aS X.prog X.w) (kvs:=vs) (ep:=ep) hd) (I.ok.hd hc) hat (by omega) fun h' tk acc c hk hD hacc => ?_
 refine ⟨.ref s.heap.objs.size,_,I.laid (a:=s.heap.objs.size) (o:=.lst (kvs.map fun kv => kV kv.1)) (t':=tk) hk (Ai _) ⟨by rw [Ab]; exact z,acc.toList,c,?_,by rw [hD]⟩,rfl,q _ (I.hok.fresh (Ai _))⟩
 refine pN (by rw [Ab,Bt,hacc.1]; omega) fun j x u hx hu => ?_
 obtain ⟨k,y,e1,e2⟩:=hacc.2 j u (by rw [← Cc]; exact hu)
 have hk2:(kvs.map (·.1))[j]? = some k:=by rw [rel.keys,Ag,e1]; rfl
 rw [Ag] at hx hk2
 cases e3:kvs[j]? with
 | none => rw [e3] at hx; cases hx
 | some kv =>
   rw [e3] at hx hk2
   cases hx
   cases hk2
   exact aZ7 e2
theorem bQ5 {a:Addr} {kvs:List (Key × V)} {H:Hp} {Q:VK} (ha:Rd H a (.dK kvs)) (h:∀ r,H r = none → Q (.ref r) (upd H r (.lst (kvs.map fun kv => kV kv.1)))):aXK [.ref a] H Q:=⟨a,kvs,rfl,ha,h⟩
end
end L2
set_option maxHeartbeats 4000000
namespace L2
open PySem PySem.Spec PyProof.Rows PySem.W
section
variable {prog:Program} {w:World} {A:Around} {E:Value → Shared → Prop} {s:Shared} {K:Frag} {x D:Addr} {ox:Obj} {od:Option Obj}
theorem bQ4 {name:Str} {v:Value} {expr:Bool} {Q:Value → Shared → Prop} (Z:ExK K D) (X:K.In s.heap) (I:InstAt s.heap x ox D od) (hf:findObj K D od name = some (.value v)) (hh:handedIn v = true) (h:Q v { s with toks:=s.toks + 1 }) :
   wpAny (model prog w) A (getAttr (.ref x) name expr) Q E s:=by
 obtain ⟨hp,g,d,t,os⟩:=s
 have L0:=I.type (M:=model prog w)
 have L1:=looks_findIn (M:=model prog w) X Z.ga
 have L2:=looks_findIn (M:=model prog w) X Z.gh
 have L3:=looks_find (M:=model prog w) X I hf
 unfold getAttr getAttrBy
 refine Ac (wpAny_mkText (Bu (Ac (L0.at (Ac (L1.at ?_))))))
 have ne:(Value.builtin "BaseException.__getattribute__" == Value.builtin "object.__getattribute__") = false:=by decide +kernel
 have fb:=F.excAttr_ValueError.ga.bind (.ref x)
 dsimp only
 rw [ne,Bool.and_false,if_neg Ao]
 unfold getAttrByItsOwn hookBefore
 rw [if_pos (show onTheHeap (Value.ref D) = true from rfl)]
 refine Ac (L2.at (Ac (wpAny_attempt (Bu ?_))))
 unfold callGetattribute boundAndCalled
 rw [if_neg (by rw [show onTheHeap (Value.builtin "BaseException.__getattribute__") = false from rfl,Bool.and_false]; exact Ao)]
 refine Ac (wpAny_of_eq fb ?_)
 refine Gh (Fb F.excAttr_ValueError.ga.plain F.entry_bexc_ga (zV Z X I ?_))
 unfold Builtin.«object.__getattribute__»
 refine Ac (Ah (Ac (Ah (Ac (L0.at (Ac (L3.at ?_)))))))
 refine Ah ?_
 exact handed_on hh h
theorem aXR {e t0:Addr} {oe:Obj} {vs:Array Value} {rest:List Value} {Q:Value → Shared → Prop} (Z:ExK K D) (X:K.In s.heap) (I:InstAt s.heap e oe D od) (hb:PySem.W.subIn K (.ref D) (.type "ValueError") = some true) (hd:oe.data = .fields vs) (h0:vs[0]? = some (.ref t0)) (hr:rest.length ≤ sizeLine)
   (h:Q .none { s with heap:=(s.heap.push { cls:=.type "tuple",data:=.seq rest.toArray }).update e (Obj.mapFields (·.setIfInBounds 0 (.ref s.heap.objs.size))) }) :
   wpAny (model prog w) A (call (.builtin "ValueError.__init__") (.ref e :: rest)) Q E s:=by
 have he:=I.at_
 obtain ⟨cd,hc,_⟩:=any_some Z.cls
 have FB:=PySem.F.excBase_ValueError
 have L0:=I.type (M:=model prog w)
 have L1:=looks_subIn (M:=model prog w) X hb
 refine Gh (Fb FB.init.plain FB.initEntry ?_)
 have ck:∀ (Q:Unit → Shared → Prop) (E:Value → Shared → Prop) (B:Around),Q () s → wpAny (model prog w) B (checkBuiltinCall "ValueError.__init__" ⟨.ref e :: rest,[]⟩) Q E s:=fun Q E B hq => by
   simp only [checkBuiltinCall,FB.initKind,FB.initSplit,FB.initRow]
   refine Ac ((L0.andThen L1).at ?_)
   have hst:=FB.noStar
   have sg:∀ (a b:String) (n:Nat),Bind.check ⟨.positional, "*", "ValueError",.self,[⟨"args",.varPos,false⟩]⟩ a b n (List.map (fun x => x.fst) ({ pos:=Value.ref e :: rest }:Args).kw) = pure ():=fun a b n => check_star_args _ _ _ _ _ _
   repeat (first | wp_step)
   rw [I.cls]
   refine Ac ((looks_clsIn X hc).at (Ah ?_))
   repeat (first | wp_step)
   refine wpAny_onRaise ?_
   rw [sg]
   exact Ah hq
 refine ck _ _ _ ?_
 have hs0:0 < vs.size:=(Cj.mp h0).1
 have hg:=Ae (h:=s.heap) { cls:=.type "tuple",data:=.seq rest.toArray } he
 unfold Builtin.«BaseException.__init__» newTuple Builtin.BaseException.bexcPut
 dsimp only
 rw [if_neg (by simp)]
 refine Ac (Da (Ac (Ac (Df hg hd h0 (Ac (Gd hg hd hs0 (wpAny_letGo (Ah h))))))) (by show rest.toArray.size ≤ sizeLine; rw [Be]; exact hr))
def uH (K:Frag) (D:Addr):Option (List Value):=(clsIn K D).map (·.mro)
theorem sC {T dx:Addr} {name:Str} {v:Value} {h1:Heap} {m:Str → Option Value} {ns:List Str} {Q:Unit → Shared → Prop} (Z:ExK K D) (X:K.In s.heap) (I:InstAt s.heap x ox D od)
   (hs:findIn K (.ref D) "__setattr__" = some (some (.builtin "object.__setattr__"))) (hm:uH K D = some [.ref D,.ref T,.type "ValueError",.type "Exception",.type "BaseException",.type "object"]) (hna:findIn K (.ref D) name = some none)
   (hi:∀ (B:Around) (Q':Option Addr → Shared → Prop) (E':Value → Shared → Prop),Q' (some dx) { s with heap:=h1,toks:=s.toks + 1 } → wpAny (model prog w) B (instanceDict x true) Q' E' { s with toks:=s.toks + 1 })
   (hn:h1.Ns1 dx m) (hw:Within m ns) (hz:ns.length < sizeLine)
   (h:∀ h' tk',h'.Ns1 dx (fun y => if y = name then some v else m y) → Heap.SameBut dx h1 h' → Q () { s with heap:=h',toks:=tk' }) :
   wpAny (model prog w) A (setAttr (.ref x) name v) Q E s:=by
 obtain ⟨cd,hc,hd'⟩:=any_some Z.cls
 have hmr:cd.mro = [.ref D,.ref T,.type "ValueError",.type "Exception",.type "BaseException",.type "object"]:=by
   unfold uH at hm
   rw [hc] at hm
   exact Bi hm
 have SF:=PySem.F.store_ValueError
 have sub:Looks (model prog w) s.heap (isInstance (.ref x) (.type "object")) true:=I.type.andThen (looks_mroIn X Z.mo)
 have hmm:Looks (model prog w) s.heap (mroOf (.ref D)) cd.mro:=(looks_clsIn X hc).andThen .now
 have hx:=I.at_
 refine set_plain X I hs ?_
 refine Fb SF.slot.plain SF.entry (@check_slot (model prog w) _ _ { s with toks:=s.toks + 1 } "object.__setattr__" "object" "__setattr__" (.ref x) [.str name s.toks,v] [] _ SF.kind SF.split sub (SF.args (.ref x) (.str name s.toks) v) ?_)
 rw [osa_eq,refuse_eq]
 refine Ac (Ac (I.type.here (s:={ s with toks:=s.toks + 1 }) (Ac (hmm.here (s:={ s with toks:=s.toks + 1 }) ?_))))
 rw [hmr,refuseLoop_ref,refuseLoop_ref,SF.passes]
 refine Ah (Ac (I.type.here (s:={ s with toks:=s.toks + 1 }) (Ac ((looks_findIn X hna).here (s:={ s with toks:=s.toks + 1 }) (Ac (Ah ?_))))))
 show wpAny (model prog w) A.in1 (Builtin.ObjectAttr.storeInOwnDict (Value.ref x) (Value.ref D) (Value.str name s.toks) name v false) _ _ _
 unfold Builtin.ObjectAttr.storeInOwnDict
 refine Ac (Ah ?_)
 rw [if_neg (show ¬ ((Value.ref D == Value.type "module") = true) by simp)]
 unfold Builtin.ObjectAttr.ownDictForStores
 refine Ac (hi _ _ _ ?_)
 show wpAny (model prog w) A.in1 (Builtin.ObjectAttr.storeInDict dx (Value.str name s.toks) name v) _ _ _
 unfold Builtin.ObjectAttr.storeInDict Builtin.ObjectAttr.newKeyGuard
 refine Ac (Ah (Ac (wpAny_nsSet1 hn fun h' hn' sb => ?_)))
 obtain ⟨oD,esD,epD,hoD,hdD,hcD⟩:=hn'.count (Within.cons name v hw)
 refine Ac (wpAny_lookBehind hoD (by rw [hdD]; exact pastItsLine_dict (Ax hcD (by rw [Bn]; omega))) ?_)
 exact Ah (h h' _ hn' sb)
theorem aXE {T:Addr} {name:Str} {v:Value} {vs:Array Value} {Q:Unit → Shared → Prop} (Z:ExK K D) (X:K.In s.heap) (I:InstAt s.heap x ox D none) (hda:ox.data = .fields vs) (hdn:ox.dict = none)
   (hs:findIn K (.ref D) "__setattr__" = some (some (.builtin "object.__setattr__"))) (hm:uH K D = some [.ref D,.ref T,.type "ValueError",.type "Exception",.type "BaseException",.type "object"]) (hna:findIn K (.ref D) name = some none)
   (h:∀ h' tk',h'.get? x = some { ox with dict:=some s.heap.objs.size } → h'.Ns1 s.heap.objs.size (fun y => if y = name then some v else none) → (∀ b o,b ≠ x → s.heap.get? b = some o → h'.get? b = some o) → Q () { s with heap:=h',toks:=tk' }) :
   wpAny (model prog w) A (setAttr (.ref x) name v) Q E s:=by
 obtain ⟨cd,hc,hd'⟩:=any_some Z.cls
 have hx:=I.at_
 have hx1:(s.heap.push { cls:=.type "dict",data:=.dict #[] }).get? x = some ox:=Ae _ hx
 have hxs:x ≠ s.heap.objs.size:=Bd (An hx)
 have hgd:((s.heap.push { cls:=.type "dict",data:=.dict #[] }).update x fun o => { o with dict:=some s.heap.objs.size }).get? s.heap.objs.size = some { cls:=.type "dict",data:=.dict #[] } :=
   (Heap.get?_update_ne _ _ _ _ hxs.symm).trans (Heap.get?_push_at rfl rfl)
 have hnd:((s.heap.push { cls:=.type "dict",data:=.dict #[] }).update x fun o => { o with dict:=some s.heap.objs.size }).Ns s.heap.objs.size (fun _ => none) :=
   ⟨_,#[],_,hgd,rfl,fun e he => absurd he (by simp),fun _ => rfl⟩
 have hxu:((s.heap.push { cls:=.type "dict",data:=.dict #[] }).update x fun o => { o with dict:=some s.heap.objs.size }).get? x = some { ox with dict:=some s.heap.objs.size }:=by
   refine Heap.get?_update_self _ hx1 ?_
   obtain ⟨a,b,c,d⟩:=ox
   cases hda
   rfl
 refine sC Z X I hs hm hna (fun B Q' E' q => ?_) (Heap.Ns1.of_empty hnd) Within.nil (by rw [List.length_nil,sizeLine_eq]; omega) fun h' tk' n sb => h h' tk' ((sb.2 x hxs).trans hxu) n fun b o hb e =>
   (sb.2 b (Bd (An e))).trans ((Heap.get?_update_ne _ _ _ _ hb).trans (Ae _ e))
 unfold instanceDict
 refine Ac (wpAny_loadPart hx ?_)
 rw [I.cls]
 refine Ac ((looks_clsIn X hc).here (s:={ s with toks:=s.toks + 1 }) ?_)
 rw [hd',hdn,hda,if_neg (show ¬ ((!true) = true) by decide)]
 dsimp only
 rw [if_neg (show ¬ ((!true || !typeHasDict (Value.ref D)) = true) by simp [typeHasDict])]
 exact Ac (wpAny_alloc' (Ac (wpAny_update' hx1 (Ah q))))
theorem aZW {T dx:Addr} {name:Str} {v:Value} {m:Str → Option Value} {ns:List Str} {odx:Obj} {Q:Unit → Shared → Prop} (Z:ExK K D) (X:K.In s.heap) (I:InstAt s.heap x ox D (some odx)) (hdn:ox.dict = some dx)
   (hs:findIn K (.ref D) "__setattr__" = some (some (.builtin "object.__setattr__"))) (hm:uH K D = some [.ref D,.ref T,.type "ValueError",.type "Exception",.type "BaseException",.type "object"]) (hna:findIn K (.ref D) name = some none)
   (hn:s.heap.Ns1 dx m) (hw:Within m ns) (hz:ns.length < sizeLine)
   (h:∀ h' tk',h'.Ns1 dx (fun y => if y = name then some v else m y) → Heap.SameBut dx s.heap h' → Q () { s with heap:=h',toks:=tk' }) :
   wpAny (model prog w) A (setAttr (.ref x) name v) Q E s:=by
 obtain ⟨cd,hc,hd'⟩:=any_some Z.cls
 refine sC Z X I hs hm hna (fun B Q' E' q => ?_) hn hw hz h
 unfold instanceDict
 refine Ac (wpAny_loadPart I.at_ ?_)
 rw [I.cls]
 refine Ac ((looks_clsIn X hc).here (s:={ s with toks:=s.toks + 1 }) ?_)
 rw [hd',hdn,if_neg (show ¬ ((!true) = true) by decide)]
 exact Ah q
end
end L2
set_option maxHeartbeats 4000000
namespace L2
open PySem PySem.Spec PyProof.Rows PySem.W
def dW (ea C:Addr) (d:Option Addr):HO:=.ext fun h => ∃ oe vs t0,h.get? ea = some oe ∧ oe.cls = .ref C ∧ oe.dict = d ∧ oe.data = .fields vs ∧ vs[1]? = some .none ∧ vs[0]? = some (.ref t0) ∧ vs[2]? = some .none
def xdO (dx:Addr) (fs:List (Str × V)):HO:=.ext fun h => ∃ mA,h.Ns1 dx mA ∧ (∀ f,RelO (fs.lookup f) (mA f)) ∧ Within mA (fs.map (·.1))
theorem qJ {P:Program} {w:World} {H:Hp} {h:Heap} {ea C:Addr} {d:Option Addr} {oe:Obj} {vs:Array Value} {t0:Addr} (g:h.get? ea = some oe) (c:oe.cls = .ref C) (di:oe.dict = d) (da:oe.data = .fields vs) (h1:vs[1]? = some .none) (h0:vs[0]? = some (.ref t0)) (c2:vs[2]? = some .none) :
   ObjOk P w H h ea (dW ea C d):=⟨⟨oe,vs,t0,g,c,di,da,h1,h0,c2⟩,⟨oe,g⟩,fun _ _ ⟨o,ws,t,g,q⟩ k => ⟨o,ws,t,k o g,q⟩⟩
theorem aJN {P:Program} {w:World} {H:Hp} {h:Heap} {dx:Addr} {fs:List (Str × V)} {mA:Str → Option Value} (n:h.Ns1 dx mA) (r:∀ f,RelO (fs.lookup f) (mA f)) (wi:Within mA (fs.map (·.1))):ObjOk P w H h dx (xdO dx fs):=by
 refine ⟨⟨mA,n,r,wi⟩,?_,fun _ _ ⟨m,⟨o,es,ep,g,q⟩,r⟩ k => ⟨m,⟨o,es,ep,k o g,q⟩,r⟩⟩
 obtain ⟨o,es,ep,g,_⟩:=n
 exact ⟨o,g⟩
structure XcK (K:Frag) (C T:Addr):Prop where
 ex:ExK K C
 sa:findIn K (.ref C) "__setattr__" = some (some (.builtin "object.__setattr__"))
 mro:uH K C = some [.ref C,.ref T,.type "ValueError",.type "Exception",.type "BaseException",.type "object"]
 vb:PySem.W.subIn K (.ref C) (.type "ValueError") = some true
def cQW (K:Frag) (C T:Addr):Bool:=(clsIn K C).any fun c => match c.mro with
 | [.ref a,.ref b,.type x,.type y,.type z,.type u] => a == C && b == T && x == "ValueError" && y == "Exception" && z == "BaseException" && u == "object"
 | _ => false
theorem aJY {K:Frag} {C T:Addr} (h:cQW K C T = true):uH K C = some [.ref C,.ref T,.type "ValueError",.type "Exception",.type "BaseException",.type "object"]:=by
 obtain ⟨c,hc,h⟩:=any_some h
 unfold uH
 rw [hc]
 split at h
 · rename_i hm
   simp only [Bool.and_eq_true,beq_iff_eq] at h
   obtain ⟨⟨⟨⟨⟨rfl,rfl⟩,rfl⟩,rfl⟩,rfl⟩,rfl⟩:=h
   exact Cp some hm
 · cases h
theorem gZ {P:Program} {w:World} {H:Hp} {h:Heap} {ea D:Addr} {d:Option Addr} {oe:Obj} {vs:Array Value} (hok:HOk P w H h) (g:h.get? ea = some oe) (hc:oe.cls = .ref D) (hdi:oe.dict = d) (hda:oe.data = .fields vs) (hd:∀ dx,d = some dx → ∃ o,H dx = some o) :
   ∃ od,InstAt h ea oe D od:=by
 have no:notCls oe = true:=by
   obtain ⟨c,di,da,sl⟩:=oe
   cases hda
   rfl
 cases d with
 | none => exact ⟨none,g,hc,no,by rw [hdi]; trivial⟩
 | some dx =>
   obtain ⟨o,z⟩:=hd dx rfl
   obtain ⟨ob,g2⟩:=(hok dx o z).get
   exact ⟨some ob,g,hc,no,by rw [hdi]; exact g2⟩
theorem cQ4 {H:Hp} {a:Addr} {o:HO} (e:H a = some o):upd H a o = H:=by
 funext b
 unfold upd
 split
 · rename_i z; rw [z,e]
 · rfl
def uU (K:Frag):List V → Hp → VK → Prop:=fun vs H Q => ∃ ea rest C T d,vs = .ref ea :: rest ∧ rest.length ≤ sizeLine ∧ H ea = some (dW ea C d) ∧ (∀ dx,d = some dx → ∃ o,H dx = some o) ∧ XcK K C T ∧ Q .non H
def aXL (K:Frag) (t:TA):TE:=fun σ H Q => t σ H fun vs H1 => uU K vs H1 Q
theorem bZA {X:Cx}:CallR X (.builtin "ValueError.__init__") (uU X.K):=by
 intro pins s σ H xs us Q I r h
 obtain ⟨ea,rest,C,T,d,rfl,hl,he,hd,Z,q⟩:=h
 cases r with
 | @cons _ _ _ l2 r0 rr =>
   cases r0
   obtain ⟨oe,vs,t0,g,hc,hdi,hda,h1,h0,c2⟩:=(I.hok ea _ he).1
   obtain ⟨od,hI⟩:=gZ I.hok g hc hdi hda hd
   refine aXR Z.ex I.kIn hI Z.vb hda h0 (by rw [← rr.length]; exact hl) ?_
   have g2:=Ae (h:=s.heap) { cls:=.type "tuple",data:=.seq l2.toArray } g
   have hs0:0 < vs.size:=(Cj.mp h0).1
   have dm:=Ft hda (·.setIfInBounds 0 (Value.ref s.heap.objs.size))
   refine ⟨.non,H,?_,rfl,q⟩
   have I2:=I.write (x:=ea) (e:=ea) (o:=dW ea C d) (t':=s.toks) (by rw [he]; exact True.intro) (.inl rfl) (fun b u hb z => (Br _ (Obj.mapFields (·.setIfInBounds 0 (Value.ref s.heap.objs.size))) (Ne.symm hb)).trans (Ae _ z))
     ⟨_,Heap.get?_update_self _ g2 (Obj.isFreed_of_fields dm)⟩ (qJ (Heap.get?_update_self _ g2 (Obj.isFreed_of_fields dm)) (by rw [Obj.cls_mapFields]; exact hc) (by rw [sQ]; exact hdi) dm (by rw [Array.getElem?_setIfInBounds]; simp [h1]) (t0:=s.heap.objs.size) (by simp [hs0]) ((Array.getElem?_setIfInBounds_ne (by decide)).trans c2))
   rw [cQ4 he] at I2
   exact I2
section
variable {X:Cx} {x:Str} {T:Addr} {mc:Value} {e:Expr} {es:List Expr} {t:TA} {np apos pos:Pos}
theorem aJQ {pl:Sem Bool} (hg:Gl X x) (hm:X.mg x = some (.ref T)) (h1:specialIn X.K (.ref T) "__getattribute__" = some (some (.builtin "type.__getattribute__"))) (h2:readsIn X.K T mc = true)
   (h3:findCls X.K (.ref T) mc "__init__" = some (.val (.builtin "ValueError.__init__"))) (ha:PA X (e :: es) t) (hdb:(x == ("__debug__" : Str)) = false:=by decide)
   (hst:starEach (e :: es) X.env = (false,eval e X.env) :: starEach es X.env:=by rfl) (hpl:(backTo pos (starEach es X.env)).any (·.1) = false:=by rfl)
   (ht:eval (.Call (.Attribute (.Name x np) "__init__" apos) (e :: es) [] pos) X.env = (do
     let ov ← eval (.Name x np) X.env
     standAt apos.atName
     let (f,first) ← holding [ov] (getMethod ov "__init__" pl)
     callWith pos f first (backTo pos (starEach (e :: es) X.env)) (backToKw pos (keywordEach [] X.env))):=by rfl) :
   PE X (.Call (.Attribute (.Name x np) "__init__" apos) (e :: es) [] pos) (aXL X.K t):=by
 intro pins s σ H Q I h
 refine PySem.W.methodCall_KW (pl:=pl) (gY I hg hm ?_ hdb) ht
 refine method_cls I.kIn h1 (cls_value I.kIn h2 h3 rfl ?_)
 exact PyProof.Rows.callWith_builtin1 (thn (ha pos pins _ σ H _ (I.tok _) h) fun us s1 ⟨vs,H1,I1,r1,q1⟩ => bZA pins s1 σ H1 vs us Q I1 r1 q1) hst hpl
end
theorem Inv.freAt {X:Cx} {pins:List (Addr × Obj)} {σ:St} {H:Hp} {s:Shared} {a:Addr} (I:Inv X pins σ H s) (h:s.heap.objs.size ≤ a):Fre X pins a where
 s0:=Ez (Ax I.sz h)
 loc:=fun z => absurd (Az I.lt h) (by rw [z]; exact Dn _)
 cell:=fun x c e z => by
   obtain ⟨_,o,g,_⟩:=I.cell x c e
   exact absurd (Az (An g) h) (by rw [z]; exact Dn _)
 pin:=fun p hp z => absurd (Az (An (I.pin p hp).1) h) (by rw [z]; exact Dn _)
def bZY (K:Frag) (ta tv:TE) (f:Str):TS:=fun D σ H => tv σ H fun y H1 => ta σ H1 fun x H2 => ∃ ea C T,x = .ref ea ∧ XcK K C T ∧ findIn K (.ref C) f = some none ∧
 ((H2 ea = some (dW ea C none) ∧ ∀ dx,H2 dx = none → D.nx σ (upd (upd H2 ea (dW ea C (some dx))) dx (xdO dx [(f,y)]))) ∨
  (∃ dx fs,H2 ea = some (dW ea C (some dx)) ∧ H2 dx = some (xdO dx fs) ∧ fs.length < 100 ∧ D.nx σ (upd H2 dx (xdO dx ((f,y) :: fs)))))
theorem pD {f g:Str} {y:V} {fs:List (Str × V)}:List.lookup g ((f,y) :: fs) = if g = f then some y else fs.lookup g:=by
 rw [Dj]
 by_cases z:g = f
 · rw [if_pos z,z]; simp
 · rw [if_neg z]
   have:(g == f) = false:=by simpa using z
   rw [this]
theorem vK {X:Cx} {o value:Expr} {f:Str} {pos pos':Pos} {ta tv:TE} (ha:PE X o ta) (hv:PE X value tv) (hs:swapsWith value (some (.Attribute o f pos')) pos.line X.env = pure false):PS X (.Assign [.Attribute o f pos'] value pos) (bZY X.K ta tv f):=by
 intro pins s σ H D I h
 refine plainObj_wpAny_Assign_Attribute (thn (hv pins s σ H _ I h) fun u s1 ⟨y,H1,I1,ry,q⟩ => thn (ha pins s1 σ H1 _ I1 q) fun ov s2 ⟨x,H2,I2,rx,ea,C,T,ex,Z,hn,q2⟩ => ?_) hs
 subst ex
 obtain rfl:ov = Value.ref ea:=rx
 rcases q2 with ⟨he,q3⟩ | ⟨dx,fs,he,hdx,hl,q3⟩
 · obtain ⟨oe,vs,t0,g,hc,hdi,hda,h1,h0,c2⟩:=(I2.hok ea _ he).1
   obtain ⟨od,hI⟩:=gZ I2.hok g hc hdi hda (fun _ z => nomatch z)
   have hod:od = none:=by
     have z:=hI.dict
     rw [hdi] at z
     cases od with
     | none => rfl
     | some o => exact z.elim
   subst hod
   refine aXE Z.ex I2.kIn hI hda hdi Z.sa Z.mro hn fun h' tk' gx ns kp => ?_
   have fr:=I2.freAt (Ai _)
   have hfree:H2 s2.heap.objs.size = none:=I2.hok.fresh (Ai _)
   have ne:s2.heap.objs.size ≠ ea:=fun z => by rw [z,he] at hfree; cases hfree
   have I3:=I2.write (x:=ea) (e:=ea) (o:=dW ea C (some s2.heap.objs.size)) (h':=h') (t':=tk') (by rw [he]; exact True.intro) (.inl rfl) kp ⟨_,gx⟩ (qJ gx hc rfl hda h1 h0 c2)
   have I4:=I3.adopt (a:=s2.heap.objs.size) (o:=xdO s2.heap.objs.size [(f,y)]) fr (by rw [aJ ne]; exact hfree) (aJN ns (fun g => by
     rw [pD]
     split
     · exact ry
     · exact True.intro) (fun g hg => by
     by_cases z:g = f
     · rw [z]; exact As.mpr rfl
     · exact absurd (show (if g = f then some u else none) = none by rw [if_neg z]) hg))
   exact ⟨σ,_,I4,q3 _ hfree⟩
 · obtain ⟨oe,vs,t0,g,hc,hdi,hda,h1,h0,c2⟩:=(I2.hok ea _ he).1
   obtain ⟨mA,n,r,wi⟩:=(I2.hok dx _ hdx).1
   obtain ⟨od,hI⟩:=gZ I2.hok g hc hdi hda (fun z e => by cases e; exact ⟨_,hdx⟩)
   have hod:∃ o,od = some o:=by
     have z:=hI.dict
     rw [hdi] at z
     cases od with
     | none => exact z.elim
     | some o => exact ⟨o,rfl⟩
   obtain ⟨o,rfl⟩:=hod
   refine aZW Z.ex I2.kIn hI hdi Z.sa Z.mro hn n wi (by rw [Ab,sizeLine_eq]; omega) fun h' tk' ns sb => ?_
   have hd':∃ o,h'.get? dx = some o:=let ⟨o,_,_,e',_⟩:=ns; ⟨o,e'⟩
   have I3:=I2.write (x:=dx) (e:=dx) (o:=xdO dx ((f,y) :: fs)) (h':=h') (t':=tk') (by rw [hdx]; exact True.intro) (.inl rfl) (fun b q hb z => (sb.2 b hb).trans z) hd' (aJN ns (fun g => by
     rw [pD]
     split
     · exact ry
     · exact r g) (fun g hg => by
     by_cases z:g = f
     · rw [z]; exact Aq
     · refine Al _ (wi g fun z2 => hg ?_)
       show (if g = f then some u else mA g) = none
       rw [if_neg z]; exact z2))
   exact ⟨σ,_,I3,q3⟩
def aQP (K:Frag) (ta:TE) (f:Str):TE:=fun σ H Q => ta σ H fun x H1 => ∃ ea C dx fs v,x = .ref ea ∧ (H1 ea = some (nT ea (.ref C) (some dx)) ∨ H1 ea = some (dW ea C (some dx))) ∧ H1 dx = some (xdO dx fs) ∧ ExK K C ∧ findIn K (.ref C) f = some none ∧ fs.lookup f = some v ∧ Q v H1
theorem aX0 {v:V} {u:Value} (r:RelV v u):handedIn u = true:=by
 cases v <;> first | (obtain ⟨_,rfl⟩:=(show ∃ t,u = _ from r); rfl) | (cases r; rfl)
theorem bQO {X:Cx} {e:Expr} {f:Str} {pos:Pos} {ta:TE} (he:PE X e ta) (hb:attributeBase e f X.env (eval e X.env) = eval e X.env):PE X (.Attribute e f pos) (aQP X.K ta f):=by
 intro pins s σ H Q I h
 refine bX2 hb (thn (he pins s σ H _ I h) fun u s1 ⟨x,H1,I1,rx,ea,C,dx,fs,v,ex,e1,e2,Z,n,l,q⟩ => ?_)
 subst ex
 obtain rfl:u = Value.ref ea:=rx
 obtain ⟨oe,vs,g,hc,hdi,hda⟩:∃ oe vs,s1.heap.get? ea = some oe ∧ oe.cls = .ref C ∧ oe.dict = some dx ∧ oe.data = .fields vs:=by
   rcases e1 with e1 | e1
   · exact (I1.hok ea _ e1).1
   · obtain ⟨oe,vs,t0,g,hc,hdi,hda,_⟩:=(I1.hok ea _ e1).1
     exact ⟨oe,vs,g,hc,hdi,hda⟩
 obtain ⟨⟨mA,ns,r,wi⟩,_⟩:=I1.hok dx _ e2
 obtain ⟨od,hI⟩:=gZ I1.hok g hc hdi hda (fun z e => by cases e; exact ⟨_,e2⟩)
 obtain ⟨o,go,lo⟩:=pH ns
 have hod:od = some o:=by
   have z:=hI.dict
   rw [hdi] at z
   cases od with
   | none => exact z.elim
   | some o' =>
     have z:s1.heap.get? dx = some o':=z
     rw [go] at z
     exact z.symm
 subst hod
 have rl:=r f
 rw [l] at rl
 cases hu:mA f with
 | none => rw [hu] at rl; exact rl.elim
 | some u =>
   rw [hu] at rl
   exact bQ4 Z I1.kIn hI (findObj_own Z.cls n rfl (by rw [lo,hu])) (aX0 rl) ⟨v,H1,I1.tok _,rl,q⟩
end L2
set_option maxHeartbeats 4000000
namespace L2
open PySem PySem.Spec PyProof.Rows PySem.W
def uE (K:Frag) (C:Addr) (bmB:List Value) (newId:String):Bool :=
 match K.lookup C with
 | some ⟨.type t,_,.cls c,sl⟩ => t == "type" && !c.hasDel && nsOkIn K c.ns &&
   (match c.mro with | .ref C1 :: bm => C1 == C && tailIn K bmB bm | _ => false) && (match sl.toList with | [_,_,_,_,some (.builtin n),_] => n == newId | _ => false)
 | _ => false
theorem cQD {K:Frag} {h:Heap} {C:Addr} {bmB:List Value} {newId:String} (X:K.In h) (q:uE K C bmB newId = true) :
   ∃ bm N nm qn bs hd sn sub ab col dd k0 k1 k2 k3 k5,h.get? C = some (excClassObj nm qn C N bs bm hd sn sub ab col dd k0 k1 k2 k3 k5 newId) ∧ OwnTail h bmB bm:=by
 unfold uE at q
 split at q
 · rename_i t dd c sl ho
   simp only [Bool.and_eq_true,beq_iff_eq,Bool.not_eq_true'] at q
   obtain ⟨⟨⟨⟨rfl,q1⟩,q2⟩,q3⟩,q4⟩:=q
   split at q3
   · rename_i C1 bm hm
     obtain ⟨rfl,q5⟩:C1 = C ∧ tailIn K bmB bm = true:=by simpa only [Bool.and_eq_true,beq_iff_eq] using q3
     split at q4
     · rename_i k0 k1 k2 k3 n k5 hs
       obtain rfl:n = newId:=by simpa using q4
       obtain ⟨nm,bs,mro,ns,qn,hd,sn,sub,ab,col,del⟩:=c
       dsimp only at hm q1 q2
       subst hm q1
       obtain ⟨l⟩:=sl
       cases (show l = _ from hs)
       exact ⟨bm,ns,nm,qn,bs,hd,sn,sub,ab,col,dd,k0,k1,k2,k3,k5,X _ _ ho,tail_of_in X q5⟩
     · cases q4
   · cases q3
 · cases q
section
variable {prog:Program} {w:World} {A:Around} {E:Value → Shared → Prop} {s:Shared} {K:Frag} {C f:Addr} {bmB:List Value} {B newId initId:String}
theorem aQF {rest:List Value} {Q:Fin → Shared → Prop} (FB:ExcBaseFacts B newId initId bmB) (X:K.In s.heap) (hx:uE K C bmB newId = true) (hi:findIn K (.ref C) "__init__" = some (some (.ref f))) (hf:typeIn K (.ref f) = some (.type "function")) (hr:rest.length ≤ sizeLine)
   (hq:∀ h' e,Heap.MadeExcOf s.heap h' e (.ref C) rest → wpAny (model prog w) A (call (.ref f) (.ref e :: rest)) (fun r s' => r = .none ∧ Q (.done (.ret (.ref e))) s') E { s with heap:=h' }) :
   wpAny (model prog w) A (Builtin.«type.__call__» ⟨.ref C :: rest,[]⟩) Q E s:=by
 obtain ⟨h,g,d,t,os⟩:=s
 obtain ⟨bm,N,nm,qn,bs,hd,sn,sub,ab,col,dd,k0,k1,k2,k3,k5,hC,Tl⟩:=cQD X hx
 repeat (first | with_reducible refine wpAny_madeBy_exc hC ?_ | with_reducible refine Ew hC ?_ | wp_step)
 refine codeAny_call_builtin_code (Code.quiet_builtin _ FB.quiet) (wpAny_check_new_subT FB Tl hC (codeAny_exc_new_subT FB Tl hC ?_ hr))
 show wpAny _ _ _ _ _ _
 generalize hh1:(h.push { cls:=.type "tuple",data:=.seq rest.toArray }).push { cls:=.ref C,data:=.fields #[.ref h.objs.size,.none,.none,.none,.bool false,.none] } = h1
 have kp:∀ b o,h.get? b = some o → h1.get? b = some o:=fun b o e => by rw [← hh1]; exact Ae _ (Ae _ e)
 have cT:h1.get? (h.objs.size + 1) = some { cls:=.ref C,data:=.fields #[.ref h.objs.size,.none,.none,.none,.bool false,.none] }:=by rw [← hh1]; heap_get
 have X1:=X.keeps kp
 have hC1:=kp _ _ hC
 have hcC:(Value.ref C :: bm).contains (.ref C) = true:=by simp
 unfold isInstance
 repeat (first | (with_reducible refine wpAny_isSubtype_exc hC1 ?_; rw [hcC]) | with_reducible refine Ew cT ?_ | wp_step)
 show wpAny _ _ (typeLookup (.ref C) _) _ _ _
 refine (looks_findIn X1 hi).here (s:=⟨h1,g,d,t,os⟩) (Bu (Ac ?_))
 unfold bindSpecial
 refine Ac ((looks_typeIn X1 hf).here (s:=⟨h1,g,d,t,os⟩) ?_)
 rw [if_pos (by decide)]
 refine Ah (Ac (Bv (hq h1 (h.objs.size + 1) ⟨kp,Ez (Fv _),h.objs.size,cT,Ez (Ai _),?_⟩) (fun r s' hr => ?_) fun _ _ z => z))
 · rw [← hh1]
   exact Ae _ (Heap.get?_push_at rfl rfl)
 · obtain ⟨rfl,z⟩:=hr
   wp_walk
   exact z
theorem aXH {rest:List Value} {Q:Value → Shared → Prop} (FB:ExcBaseFacts B newId initId bmB) (X:K.In s.heap) (hx:uE K C bmB newId = true) (hi:findIn K (.ref C) "__init__" = some (some (.ref f))) (hf:typeIn K (.ref f) = some (.type "function")) (hr:rest.length ≤ sizeLine)
   (hq:∀ h' e,Heap.MadeExcOf s.heap h' e (.ref C) rest → wpAny (model prog w) (A.under (.builtin "type.__call__" ⟨.ref C :: rest,[]⟩)) (call (.ref f) (.ref e :: rest)) (fun r s' => r = .none ∧ Q (.ref e) s') E { s with heap:=h' }) :
   wpAny (model prog w) A (call (.ref C) rest) Q E s:=by
 have X0:=X
 obtain ⟨h,g,d,t,os⟩:=s
 obtain ⟨bm,N,nm,qn,bs,hd,sn,sub,ab,col,dd,k0,k1,k2,k3,k5,hC,Tl⟩:=cQD X hx
 have c1:=tc_lookup
 have c2:=tc_bind (.ref C)
 have c3:(⟨h,g,d,t,os⟩:Shared).TypeIs (.ref C) "type" := ⟨_,hC,rfl⟩
 refine Gh (codeAny_of_tree ?_)
 show wpAny _ _ (callAny (.ref C) _) _ _ _
 repeat (any_goals (first | with_reducible refine Ew hC ?_ | assumption | wp_step))
 exact ⟨rfl,codeAny_call_builtin_at (Code.quiet_builtin _ (by decide +kernel)) entry_typeCall (wpAny_check_type_call_sub hC (aQF FB X0 hx hi hf hr fun h' e hm => hq h' e hm))⟩
theorem yM {env:Env} {x:Sem Value} {Q:Flow → Shared → Prop} (hh:A.handled = none)
   (h:wpAny (model prog w) A x (fun v s1 => ∃ e oe vs bm N nm qn bs hd sn sub ab col dd k0 k1 k2 k3 k5,v = .ref e ∧ s1.heap.get? C = some (excClassObj nm qn C N bs bm hd sn sub ab col dd k0 k1 k2 k3 k5 newId) ∧ bm.contains (.type "BaseException") = true ∧
     s1.heap.get? e = some oe ∧ oe.cls = .ref C ∧ oe.data = .fields vs ∧ vs[1]? = some .none ∧ E (.ref e) s1) E s):wpAny (model prog w) A (raiseStmt env (some x) none) Q E s:=by
 unfold raiseStmt
 refine Ac (Bv h (fun v s1 q => ?_) fun _ _ z => z)
 obtain ⟨e,oe,vs,bm,N,nm,qn,bs,hd,sn,sub,ab,col,dd,k0,k1,k2,k3,k5,rfl,hC,hb,he,hc,hda,h1,hE⟩:=q
 obtain ⟨hp,g,d,tk,os⟩:=s1
 obtain ⟨oc,odi,oda,osl⟩:=oe
 dsimp only at hc hda
 subst hc hda
 have hcB:(Value.ref C :: bm).contains (.type "BaseException") = true:=by rw [List.contains_cons,hb,Bool.or_true]
 repeat (first | with_reducible refine Ew hC ?_ | with_reducible refine Ew he ?_ | (with_reducible refine wpAny_isSubtype_exc hC ?_; rw [hcB]) | wp_step)
 rw [h1]
 refine Ah ?_
 rw [if_neg (show ¬ ((Value.none != Value.none) = true) by decide)]
 exact Ah (wpAny_raiseNew_none hh hE)
end
def del (H:Hp) (a:Addr):Hp:=fun b => if b = a then none else H b
theorem eZ {H:Hp} {a b:Addr} (h:b ≠ a):del H a b = H b:=if_neg h
theorem rT {H:Hp} {a:Addr}:del H a a = none:=if_pos rfl
section
variable {X:Cx} {pins:List (Addr × Obj)} {σ:St} {H:Hp} {s:Shared}
theorem Inv.drop {ea:Addr} {φ:Heap → Prop} (I:Inv X pins σ H s) (e:H ea = some (.ext φ)):Inv X pins σ (del H ea) s:=by
 have ne:∀ b u,H b = some u → (∀ ψ,u ≠ .ext ψ) → b ≠ ea:=fun b u q n z => by
   rw [z,e] at q
   cases q
   exact n φ rfl
 refine I.re (fun b n => ?_) (fun b xs q => ?_) (fun b o u q => ?_) (fun b ps q => ?_) fun b o q => ?_
 · unfold del
   split
   · rfl
   · exact n
 · have q1:=I.base.tups b xs q
   rw [eZ (ne b _ q1 fun _ z => nomatch z)]
   exact q1
 · have q1:=I.base.frzs b o u q
   rw [eZ (ne b _ q1 fun _ z => nomatch z)]
   exact q1
 · obtain ⟨m,q1⟩:=I.base.tbls b ps q
   exact ⟨m,by rw [eZ (ne b _ q1 fun _ z => nomatch z)]; exact q1⟩
 · have hb:b ≠ ea:=fun z => by rw [z,rT] at q; cases q
   rw [eZ hb] at q
   exact (I.hok b o q).stay (fun _ _ _ z => z) (fun c z => by rw [eZ (ne c _ z fun _ z => nomatch z)]; exact z) fun c xs z => by rw [eZ (ne c _ z fun _ z => nomatch z)]; exact z
theorem Inv.freNew {a:Addr} (I:Inv X pins σ H s) (hex:X.ex = []) (h:s.heap.get? a = none):Fre X pins a where
 s0:=by
   cases z:X.s₀.heap.get? a with
   | none => rfl
   | some o =>
     obtain ⟨o',z'⟩:=I.base.there a o z (by rw [hex]; simp)
     rw [h] at z'
     cases z'
 loc:=fun z => by
   obtain ⟨m,⟨o,_,_,g,_⟩,_⟩:=I.loc
   rw [← z,h] at g
   cases g
 cell:=fun x c e z => by
   obtain ⟨_,o,g,_⟩:=I.cell x c e
   rw [z,h] at g
   cases g
 pin:=fun p hp z => by
   have g:=(I.pin p hp).1
   rw [z,h] at g
   cases g
end
def bXP (P:Program) (w:World) (K:PySem.W.Frag) (mg:Str → Option Value) (base:Heap) (k:Nat) (C:Addr) (ps:List Str) (sp:Sp):Prop :=
 ∃ (f:Addr) (fd:FuncData),FnOk P w K mg base CX0 k f fd ps sp ∧ findIn K (.ref C) "__init__" = some (some (.ref f)) ∧ typeIn K (.ref f) = some (.type "function") ∧ Binds K fd ps []
structure XmK (K:Frag) (C:Addr):Prop where
 obj:uE K C [.type "ValueError",.type "Exception",.type "BaseException",.type "object"] "ValueError.__new__" = true
 kp:keepIn K (.ref C) = true
def xL (C:Addr) (sp:Sp) (E:XK) (ta:TA):TS:=fun _ σ H => ta σ H fun vs H1 => vs.length ≤ sizeLine ∧ ∀ ea,H1 ea = none → sp (.ref ea :: vs) (upd H1 ea (dW ea C none)) (fun v H2 => v = .non ∧ ∃ d,H2 ea = some (dW ea C d) ∧ E (.ref C) d (del H2 ea)) E0
section
variable {X:Cx} {E:XK} {x:Str} {C:Addr} {e:Expr} {es:List Expr} {ta:TA} {np cpos pos:Pos} {k:Nat} {ps:List Str} {sp:Sp}
theorem aQB {pins:List (Addr × Obj)} {σ:St} {H1:Hp} {s1:Shared} {vs:List V} {us:List Value} {G:Addr → VK} {R:Value → Shared → Prop} (hex:X.ex = []) (M:XmK X.K C) (c:bXP X.prog X.w X.K X.mg X.base k C ps sp) (hr:Room (k + 1) X.A) (I1:Inv X pins σ H1 s1) (r:Vals vs us)
   (hl:vs.length ≤ sizeLine) (q:∀ ea,H1 ea = none → sp (.ref ea :: vs) (upd H1 ea (dW ea C none)) (G ea) E0)
   (hR:∀ ea H2 s2,X.s₀.heap.get? ea = none → Inv X pins σ H2 s2 → (G ea) .non H2 → R (.ref ea) s2) (hG:∀ ea v H2,G ea v H2 → v = .non):wpAny (model X.prog X.w) X.A (call (.ref C) us) R X.xe s1:=by
 obtain ⟨f,fd,F,hi,hf,hb⟩:=c
 refine aXH PySem.F.excBase_ValueError I1.kIn M.obj hi hf (by rw [← r.length]; exact hl) fun h' ea hm => ?_
 obtain ⟨t,g,_,_⟩:=hm.there
 have hole:H1 ea = none:=I1.hok.hole hm.new
 have fr:=I1.freNew hex hm.new
 have I2:=(I1.kept (t':=s1.toks) hm.keeps).adopt (o:=dW ea C none) fr hole (qJ g rfl rfl rfl rfl rfl rfl)
 have r2:Vals (V.ref ea :: vs) (Value.ref ea :: us):=.cons rfl r
 have hq:=q ea hole
 have hl2:((Value.ref ea :: us) ++ []).length = ps.length:=by rw [Bw,← r2.length]; exact F.len _ _ _ _ hq
 have hbb:=hb { s1 with heap:=h' } (Value.ref ea :: us) I2.kIn hl2
 rw [Bw] at hbb
 refine Gh (Fd (F.run _ X.stack { s1 with heap:=h' } _ ⟨Value.ref ea :: us,[]⟩ (Value.ref ea :: us) (V.ref ea :: vs) _ E0 (hr.make C us []) (I2.env0.make C us []) hbb r2 hq) fun rr s' hq' => ?_)
 cases rr with
 | error e => exact False.elim hq'
 | ok fl =>
   cases fl with
   | ret u =>
     obtain ⟨v,H',I3,rv,q3⟩:=I2.after hq'
     have ev:=hG ea v H' q3
     subst ev
     exact ⟨rv,hR ea H' s' fr.s0 I3 q3⟩
   | next => exact False.elim hq'
   | brk => exact False.elim hq'
   | cont => exact False.elim hq'
theorem zF {k':Nat} (hR:cJX X E) (hex:X.ex = []) (hc:X.calm = true) (hg:Gl X x) (hm:X.mg x = some (.ref C)) (M:XmK X.K C) (c:bXP X.prog X.w X.K X.mg X.base k C ps sp) (hr:Room k' X.A) (hkk:k + 1 ≤ k') (ha:PA X (e :: es) ta)
   (hd:(x == ("__debug__" : Str)) = false:=by decide) (he:starEach (e :: es) X.env = (false,eval e X.env) :: starEach es X.env:=by rfl) (hpl:(backTo cpos (starEach es X.env)).any (·.1) = false:=by rfl) :
   PS X (.Raise (some (.Call (.Name x np) (e :: es) [] cpos)) none pos) (xL C sp E ta):=by
 intro pins s σ H D I h
 rw [arm_exec_Raise]
 simp only [evalOpt,Option.map]
 refine Ac (wpAny_standAt (yM (C:=C) (newId := "ValueError.__new__") (I.ok.hd hc) ?_))
 refine Ac (Bv (Q:=fun v s1 => ∃ e oe vs bm N nm qn bs hd sn sub ab col dd k0 k1 k2 k3 k5,v = .ref e ∧ s1.heap.get? C = some (excClassObj nm qn C N bs bm hd sn sub ab col dd k0 k1 k2 k3 k5 "ValueError.__new__") ∧ bm.contains (.type "BaseException") = true ∧
     s1.heap.get? e = some oe ∧ oe.cls = .ref C ∧ oe.data = .fields vs ∧ vs[1]? = some .none ∧ X.xe (.ref e) s1) ?_ (fun v s3 h3 => Ac (wpAny_standAt (Ah h3))) fun _ _ z => z)
 refine Ek (gY I hg hm ?_ hd)
 refine PySem.W.callWith_K (h₀:=X.base) I.ok.mod.kin M.kp (thn (ha cpos pins s σ H _ I h) fun us s1 ⟨vs,H1,I1,r,hl,q⟩ => ⟨I1.kIn,?_⟩) he hpl
 refine aQB hex M c (hr.mono hkk) I1 r hl q (fun ea H' s' s0 I3 q3 => ?_) fun ea v H2 z => z.1
 obtain ⟨_,d,e2,q3⟩:=q3
 obtain ⟨oe,ws,t0,g2,hc2,hdi,hda,h1,h0,c2⟩:=(I3.hok ea _ e2).1
 obtain ⟨bm,N,nm,qn,bs,hdct,sn,sub,ab,col,dd,k0,k1,k2,k3,k5,hC,Tl⟩:=cQD I3.kIn M.obj
 refine ⟨ea,oe,ws,bm,N,nm,qn,bs,hdct,sn,sub,ab,col,dd,k0,k1,k2,k3,k5,rfl,hC,Tl.hasType PySem.F.excBase_ValueError.hasBase,g2,hc2,hda,h1,?_⟩
 exact hR pins σ (del H' ea) s' ea oe ws (I3.drop e2) g2 hda h1 c2 rT s0 (by rw [hc2,hdi]; exact q3)
end
def cZQ (st:Stmt) (j:Nat):Stmt :=
 match st with
 | .ClassDef _ _ _ body _ _ _ _ _ _ _ => body.getD j (.Pass ⟨0,0,0,0⟩)
 | s => s
section
variable {g:TG} {tests:TT} {te:TE} {σ0:St} {Q:VK} {H1:Hp}
theorem aJI {K:PySem.W.Frag} {a:Addr} {xs:List V} (Pd:V → Prop) (ha:rdL H1 a = some xs) (hl:xs.length < sizeLine)
   (hs:∀ (i:Nat) x Hc (A:VK) (B:Hp → Prop),xs[i]? = some x → Same H1 Hc → (∀ y Hd,Same Hc Hd → Pd y → A y Hd) → (∀ Hd,Same Hc Hd → B Hd) →
     g x σ0 Hc fun σ2 H2 => Wk σ0 σ2 ∧ tests σ2 H2 fun b H3 => if b = true then te σ2 H3 A else B H3)
   (fin:∀ D Hd ys,H1 D = none → Same H1 Hd → Hd D = some (.lst ys) → ys.length ≤ xs.length → (∀ y ∈ ys,Pd y) → Q (.ref D) Hd):eM g tests te σ0 Q (Itl K a) H1:=by
 refine eS (n:=xs.length) (fun D i ys Hc => Same H1 Hc ∧ ys.length ≤ i ∧ ∀ y ∈ ys,Pd y) hl (fun D hD => ⟨aD hD _,Ai _,fun y hy => nomatch hy⟩)
   (fun D i ys Hc _ r h => ⟨xs,xs[i],aO (aH r.1 ha),by simp [h]⟩) (fun D ys Hc _ r => ⟨xs,aO (aH r.1 ha),Nat.le_refl _⟩) ?_ ?_
 · rintro D i ys Hc x H' A B hD hi ⟨sm,hn,hp⟩ hDc ⟨rfl,hz⟩ ha' hb
   refine hs i x H' A B (hz xs (aO (aH sm ha))) sm (fun y Hd sd py => ?_) (fun Hd sd => ?_)
   · refine ha' _ _ (sd _ _ hDc) ⟨bA hD (sm.trans sd),by rw [Am]; show _ + 1 ≤ _; omega,fun w hw => ?_⟩
     rcases Bk.mp hw with e | e
     · exact hp w e
     · rw [As.mp e]; exact py
   · exact hb _ (sd _ _ hDc) ⟨sm.trans sd,by omega,hp⟩
 · rintro D ys Hc hD ⟨sm,hn,hp⟩ hDc _
   exact fin D Hc ys hD sm hDc hn hp
end
section
variable {K:PySem.W.Frag} {H:Hp} {Q:VK} {ea C D T dx tp:Addr} {c:V} {cs:List V} {cv:Value} {cvs:List Value} {b:Bool} {d:Option Addr} {σ:St} {D':Ends} {sp:Sp} {E:XK} {ta:TA} {te tv:TE} {f:Str}
theorem bXF (h:ta σ H fun vs H1 => uU K vs H1 Q):aXL K ta σ H Q:=h
theorem aX7 (h:ta σ H fun vs H1 => vs.length ≤ sizeLine ∧ ∀ ea,H1 ea = none → sp (.ref ea :: vs) (upd H1 ea (dW ea C none)) (fun v H2 => v = .non ∧ ∃ d,H2 ea = some (dW ea C d) ∧ E (.ref C) d (del H2 ea)) E0):xL C sp E ta D' σ H:=h
theorem cQN (h:te σ H fun x H1 => ∃ ea C dx fs v,x = .ref ea ∧ (H1 ea = some (nT ea (.ref C) (some dx)) ∨ H1 ea = some (dW ea C (some dx))) ∧ H1 dx = some (xdO dx fs) ∧ ExK K C ∧ PySem.W.findIn K (.ref C) f = some none ∧ fs.lookup f = some v ∧ Q v H1):aQP K te f σ H Q:=h
theorem cQF (h:tv σ H fun y H1 => te σ H1 fun x H2 => ∃ ea C T,x = .ref ea ∧ XcK K C T ∧ PySem.W.findIn K (.ref C) f = some none ∧
 ((H2 ea = some (dW ea C none) ∧ ∀ dx,H2 dx = none → D'.nx σ (upd (upd H2 ea (dW ea C (some dx))) dx (xdO dx [(f,y)]))) ∨
  (∃ dx fs,H2 ea = some (dW ea C (some dx)) ∧ H2 dx = some (xdO dx fs) ∧ fs.length < 100 ∧ D'.nx σ (upd H2 dx (xdO dx ((f,y) :: fs)))))):bZY K te tv f D' σ H:=h
end
end L2
set_option maxHeartbeats 4000000
namespace L2
open PySem PySem.Spec PyProof.Rows
section
variable {P:Program} {w:World} {K:PySem.W.Frag} {mg:Str → Option Value} {base:Heap}
end
section
variable {X:Cx} {pn:List (Addr × Obj)} {ea:Addr} {k k':Nat} {ps:List Str} {sp:Sp} {x:Str} {p pos:Pos} {e:Expr} {es:List Expr} {t:TA}
end
theorem tB {X:Cx} {K:PySem.W.Frag} {e:Expr} {f:Str} {pos:Pos} {ta:TE} (h:X.K = K) (he:PE X e ta) (hb:attributeBase e f X.env (eval e X.env) = eval e X.env):PE X (.Attribute e f pos) (aQP K ta f):=by
 subst h
 exact bQO he hb
end L2
set_option maxHeartbeats 4000000
namespace L2
open PySem PySem.Spec PyProof.Rows
section
variable {prog:Program} {w:World} {A:Around} {E:Value → Shared → Prop}
theorem rW {it l:Addr} {items:Array Value} (hne:l ≠ it):∀ (n i:Nat) (s:Shared) (Q:List Value → Shared → Prop),s.heap.IsListIter it l i → s.heap.IsList l items → i + n ≤ items.size →
   (∀ h',h'.IsListIter it l (i + n) → Heap.SameBut it s.heap h' → Q ((items.toList.drop i).take n) { s with heap:=h' }) → wpAny (model prog w) A (draw (.ref it) n) Q E s
 | 0,i,s,Q,hit,_,_,k => by
   refine Ah (M:=model prog w) ?_
   simpa using k s.heap hit (Heap.SameBut.refl ..)
 | n + 1,i,s,Q,hit,hl,hle,k => by
   have lt:i < items.size:=by omega
   show wpAny _ _ (pyNext (.ref it) >>= _) Q E s
   refine wpAny_bind (wpAny_pyNext_list_item hit hl (x:=items[i]) (by simp [lt]) fun g1 it1 sb1 => ?_)
   refine Ac (Bu (rW hne n (i + 1) _ _ it1 (hl.extBut sb1.extBut hne) (by omega) fun g2 it2 sb2 => Ah ?_))
   have e:items.toList.drop i = items[i] :: items.toList.drop (i + 1):=by simp [List.drop_eq_getElem_cons,lt]
   have z:=k g2 (by rw [show i + (n + 1) = i + 1 + n by omega]; exact it2) (sb1.trans sb2)
   rw [e,List.take_succ_cons] at z
   exact z
theorem tW {s:Shared} {l:Addr} {items:Array Value} {targets:List (Bool × (Value → Sem Unit))} {Q:Unit → Shared → Prop} (hh:A.handled = none) (hl:s.heap.IsList l items)
   (hn:targets.length = items.size) (hs:targets.findIdx? (·.1) = none)
   (k:∀ h',Heap.ExtBut s.heap.objs.size s.heap h' → wpAny (model prog w) A (assignInOrder (targets.map (·.2)) items.toList) Q E { s with heap:=h' }) :
   wpAny (model prog w) A (unpack (.ref l) targets) Q E s:=by
 have hlt:l ≠ s.heap.objs.size:=by obtain ⟨o,ho,_⟩:=hl; exact Bd (An ho)
 unfold unpack
 rw [hn,hs]
 refine Ac (Bu ?_)
 unfold unpackItems notIterableAtAll
 refine Ac (Ac (Fo hl.typeIs slot_list_iter.lookup (Ah ?_)))
 rw [if_neg (by simp)]
 refine Ac (Bu (Gc hl ?_))
 refine Ac (Bu (rW hlt items.size 0 _ _ ⟨_,Ar _ rfl,rfl,rfl⟩ (hl.push _) (by omega) fun g1 it1 sb1 => ?_))
 have al:List.take items.size (List.drop 0 items.toList) = items.toList:=by rw [List.drop_zero]; exact List.take_of_length_le (by simp)
 rw [al,if_neg (by simp)]
 refine wpAny_bind (wpAny_holding (wpAny_pyNext_list_end hh it1 ((hl.push _).extBut sb1.extBut hlt) (by simp) fun g2 eb => ?_))
 simp only [Option.isSome_none,Bool.false_eq_true,if_false]
 exact Ah (k g2 fun b o hb e => eb b o hb (sb1.extBut b o hb (Ae _ e)))
end
def cX4 (n:Nat) (t:TGs):TG:=fun v σ H Q => ∃ a xs,v = .ref a ∧ rdL H a = some xs ∧ xs.length = n ∧ t xs σ H Q
theorem cXT {X:Cx} {es:List Expr} {k:Nat} {t:TGs} {n:Nat} {pos:Pos} (hc:X.calm = true) (h:PGs X es t)
   (hn:(assignEach es X.env).length = n:=by rfl) (hst:(assignEach es X.env).findIdx? (·.1) = none:=by rfl):PG X (.Tuple es k pos) (cX4 n t):=by
 intro pins s σ H v u Q I r hw
 obtain ⟨a,xs,e1,hq,hl,hw⟩:=hw
 subst e1
 cases r
 obtain ⟨its,rv,⟨o,nn,ho,hcl,_,hda⟩,hz⟩:=I.list (aO hq)
 rw [assign_Tuple]
 refine wpAny_bind (wpAny_standAt (tW (I.ok.hd hc) ⟨o,ho,hcl,nn,hda⟩ (by simp [hn,← hl,rv.length]) hst fun h' hx => ?_))
 have I1:Inv X pins σ H { s with heap:=h' }:=I.kept (t':=s.toks) fun b o e => hx b o (Bd (An e)) e
 exact h pins _ σ H xs _ Q I1 (by simpa using rv) hw
theorem bJV {n:Nat} {t:TGs} {a:Addr} {xs:List V} {σ:St} {H:Hp} {Q:St → Hp → Prop} (e:rdL H a = some xs) (hn:xs.length = n) (h:t xs σ H Q):cX4 n t (.ref a) σ H Q:=⟨a,xs,rfl,e,hn,h⟩
def hid (H:Hp) (ps:List Addr):Hp:=fun b => if b ∈ ps then none else H b
end L2
set_option maxHeartbeats 4000000
namespace L2
open PySem PySem.Spec PyProof.Rows
open PySem.AutoSeq1 (wpAny_loadPart')
section
variable {prog:Program} {w:World} {A:Around} {E:Value → Shared → Prop} {s:Shared}
end
section
variable {X:Cx} {l:Expr} {ta tk:TA} {kws:List Keyword} {elts:List Expr} {x1:Nat} {tp p pos kp:Pos}
end
section
variable {K:PySem.W.Frag} {a:Addr} {k:Nat} {xs:List V} {g:TG} {tb:TS} {D:Ends} {σ σ0:St} {H H1:Hp} {tests:TT} {te:TE} {Q:VK} {z:Str} {ta tk:TA}
end
end L2
set_option maxHeartbeats 4000000
namespace L2
open PySem PySem.Spec PyProof.Rows
section
variable {X:Cx} {a b:Expr} {ta tb:TE} {pos:Pos} {rest:List Expr}
section
variable {σ:St} {H:Hp} {Q:VK} {p:Addr} {xs:List V} {z:Str} {j:Nat}
theorem wG {g:TG} {tests:TT} {te:TE} {σ0:St} {H1:Hp} (f:Nat → Option V) (hl:z.length < sizeLine)
   (hs:∀ (i:Nat) c Hc (A:VK) (B:Hp → Prop),z.cps.toList[i]? = some c → Same H1 Hc → (∀ Hd,Same Hc Hd → match f c with | some y => A y Hd | none => B Hd) →
     g (.str ⟨#[c]⟩) σ0 Hc fun σ2 H2 => Wk σ0 σ2 ∧ tests σ2 H2 fun b H3 => if b = true then te σ2 H3 A else B H3)
   (fin:∀ D Hd,H1 D = none → Same H1 Hd → Hd D = some (.lst (z.cps.toList.filterMap f)) → Q (.ref D) Hd):eM g tests te σ0 Q (Its z) H1:=by
 intro D hD
 have hzz:z.cps.size = z.length:=rfl
 have hz2:z.cps.toList.length = z.length:=by simp [Str.length]
 refine ⟨fun i m Hc => m = z.length - i ∧ i ≤ z.length ∧ Same H1 Hc ∧ Hc D = some (.lst ((z.cps.toList.take i).filterMap f)),⟨z.length,by simp,Nat.zero_le _,aD hD _,by rw [aB]; rfl⟩,?_⟩
 rintro i m Hc ⟨rfl,hi,sm,hDc⟩
 by_cases hlt:i < z.length
 · refine .inr ⟨hlt,fun v H' y => ?_⟩
   obtain ⟨rfl,c,hz,rfl⟩:=y
   have hx:z.cps.toList[i]? = some c:=by rw [Cc]; exact hz
   refine hs i c H' _ _ hx sm fun Hd sd => ?_
   have hDd:Hd D = some (.lst ((z.cps.toList.take i).filterMap f)):=sd _ _ hDc
   have sH:Same H1 Hd:=sm.trans sd
   cases e:f c with
   | some y =>
     refine ⟨_,hDd,?_,z.length - (i + 1),by omega,rfl,hlt,fun b o hb => ?_,?_⟩
     · have:=Do f (z.cps.toList.take i)
       rw [Bl] at this
       omega
     · rw [aJ (bG hb hD)]; exact sH b o hb
     · rw [aB,Bb,hx,Cm]
       show some (HO.lst (_ ++ [y])) = some (HO.lst (_ ++ [c].filterMap f))
       rw [Fj e,Eb]
   | none =>
     refine ⟨z.length - (i + 1),by omega,rfl,hlt,sH,?_⟩
     rw [hDd,Bb,hx,Cm]
     show some (HO.lst _) = some (HO.lst (_ ++ [c].filterMap f))
     rw [Fk e,Eb,Bw]
 · have e:i = z.length:=by omega
   subst e
   refine .inl ⟨Ai _,fin D Hc hD sm ?_⟩
   rw [hDc,Dw (by omega)]
end
end
end L2
set_option maxHeartbeats 4000000
namespace L2
open PySem PySem.Spec PyProof.Rows
section
variable {X:Cx}
def bX7 (neg:Bool):R2:=fun x y H Q => ∃ a ov,y = .ref a ∧ DGet H a x ov ∧ Q (.bl (if neg then !ov.isSome else ov.isSome)) H
theorem bJA (hu:X.A.units + 1 < cLine):OpR X (compareOp .In) (bX7 false):=by
 intro pins s σ H x y v u Q I rx ry h
 obtain ⟨a,ov,rfl,g,q⟩:=h
 cases ry
 exact cJW hu I g rx fun s3 I3 => ⟨.bl ov.isSome,H,I3,rfl,q⟩
theorem aQI (hu:X.A.units + 1 < cLine):OpR X (compareOp .NotIn) (bX7 true):=by
 intro pins s σ H x y v u Q I rx ry h
 obtain ⟨a,ov,rfl,g,q⟩:=h
 cases ry
 exact aJ3 hu I g rx fun s3 I3 => ⟨.bl (!ov.isSome),H,I3,rfl,q⟩
section
variable {H:Hp} {Q:VK} {a:Addr} {kvs:List (Key × V)} {z:Str}
theorem bZ0 {neg:Bool} (e:Rd H a (.dK kvs)) (h:Q (.bl (if neg then !(bJ kvs (Sum.inr z)).isSome else (bJ kvs (Sum.inr z)).isSome)) H):bX7 neg (.str z) (.ref a) H Q:=⟨a,_,rfl,.inl ⟨kvs,.inr z,e,rfl,rfl⟩,h⟩
end
end
end L2
set_option maxHeartbeats 4000000
namespace L2
open PySem PySem.Spec PyProof.Rows PySem.Builtin PySem.Builtin.Str
section
variable {X:Cx}
end
end L2
set_option maxHeartbeats 1000000
namespace L2
open PySem PySem.Spec PyProof.Rows
section
variable {X:Cx}
end
end L2
namespace L2
open PySem PySem.Spec PyProof.Rows
section
variable {prog:Program} {w:World} {A:Around} {R:Result → Shared → Prop} {J:Addr} {us ws:List Addr} {n:Nat} {P:Nat → Value → Prop} {St:Nat → Heap → Prop} {d:Value}
end
section
variable {prog:Program} {w:World} {A:Around} {E:Value → Shared → Prop} {s:Shared}
end
section
variable {X:Cx} {l:Expr} {ta:TA} {tk:TA} {p pos kp:Pos}
end
end L2
namespace L2
open PySem PySem.Spec PyProof.Rows
section
variable {X:Cx} {tg a b c:Expr} {p pos:Pos}
end
end L2
set_option maxHeartbeats 4000000
namespace L2
open PySem PySem.Spec PyProof.Rows
section
variable {g:TG} {tests:TT} {te:TE} {σ0:St} {Q:VK} {H1:Hp}
theorem fA {f:Nat → Option V} {i:Nat} {y:V} (h:f i = some y):(List.range (i + 1)).filterMap f = (List.range i).filterMap f ++ [y]:=by
 rw [Ck,Cm,Fj h,Eb]
theorem nR {f:Nat → Option V} {i:Nat} (h:f i = none):(List.range (i + 1)).filterMap f = (List.range i).filterMap f:=by
 rw [Ck,Cm,Fk h,Eb,Bw]
theorem lY {K:PySem.W.Frag} {a:Addr} {xs:List V} (f:Nat → Option V) (ha:rdL H1 a = some xs) (hl:xs.length < sizeLine)
   (hs:∀ (i:Nat) x Hc (A:VK) (B:Hp → Prop),xs[i]? = some x → Same H1 Hc → (∀ y,f i = some y → ∀ Hd,Same Hc Hd → A y Hd) → (f i = none → ∀ Hd,Same Hc Hd → B Hd) →
     g x σ0 Hc fun σ2 H2 => Wk σ0 σ2 ∧ tests σ2 H2 fun b H3 => if b = true then te σ2 H3 A else B H3)
   (fin:∀ D Hd,H1 D = none → Same H1 Hd → Hd D = some (.lst ((List.range xs.length).filterMap f)) → Q (.ref D) Hd):eM g tests te σ0 Q (Itl K a) H1:=by
 refine eS (n:=xs.length) (fun D i ys Hc => Same H1 Hc ∧ ys = (List.range i).filterMap f) hl (fun D hD => ⟨aD hD _,rfl⟩)
   (fun D i ys Hc _ r h => ⟨xs,xs[i],aO (aH r.1 ha),by simp [h]⟩) (fun D ys Hc _ r => ⟨xs,aO (aH r.1 ha),Nat.le_refl _⟩) ?_ ?_
 · rintro D i ys Hc x H' A B hD hi ⟨sm,rfl⟩ hDc ⟨rfl,hz⟩ ha' hb
   refine hs i x H' A B (hz xs (aO (aH sm ha))) sm (fun y hy Hd sd => ?_) (fun hn Hd sd => ?_)
   · exact ha' _ _ (sd _ _ hDc) ⟨bA hD (sm.trans sd),(fA hy).symm⟩
   · exact hb _ (sd _ _ hDc) ⟨sm.trans sd,(nR hn).symm⟩
 · rintro D ys Hc hD ⟨sm,rfl⟩ hDc _
   exact fin D Hc hD sm hDc
end
section
variable {X:Cx} {e:Expr} {te:TE} {p2 pos pu pc:Pos} {j:Nat}
end
end L2
set_option maxHeartbeats 4000000
namespace L2
open PySem PySem.Spec PyProof.Rows
section
variable {X:Cx}
end
end L2
set_option maxHeartbeats 4000000
namespace L2
open PySem PySem.Spec PyProof.Rows PySem.Builtin PySem.Builtin.Str
section
variable {X:Cx}
end
end L2
set_option maxHeartbeats 4000000
namespace L2
open PySem PySem.Spec PyProof.Rows
section
variable {prog:Program} {w:World} {A:Around} {E:Value → Shared → Prop} {s:Shared} {jt dq:Addr} {n0 ep:Nat} {en:Array DictEntry} {od:Obj}
theorem aXD {Q:Option Value → Shared → Prop} (hit:s.heap.IsKeyIter jt dq n0 en.size ep) (hod:s.heap.get? dq = some od) (hdd:od.data = .dict en ep) (hi:n0 < en.size)
   (hq:∀ h',h'.IsKeyIter jt dq (n0 + 1) en.size ep → Heap.SameBut jt s.heap h' → Q (some en[n0].key) { s with heap:=h' }):wpAny (model prog w) A (pyNext (.ref jt)) Q E s:=by
 obtain ⟨oi,hoi,ci,di⟩:=id hit
 have ow:Builtin.Dict_items.ownsTuple "dict_keyiterator" = false:=by decide
 have tI:=hit.typeIs
 unfold pyNext
 refine Ac (wpAny_attempt (wpAny_callSpecial?_slot (name:=Str.ofString "__next__") tI Du (Cu Du tI F.entry_dict_keyiterator_next ?_ (F.args_dict_keyiterator_next_1 _))))
 refine Ac (Ah (Ac (Ac ?_)))
 refine Ac (Dp tI (Ah (Ac (wpAny_fieldsOf hoi di ?_))))
 simp only [ow,Bool.false_eq_true,if_false]
 show wpAny _ _ (if (Value.ref dq == Value.none) = true then _ else _) _ _ s
 rw [if_neg (by exact Ao)]
 refine Ac (Ah (Ac (wpAny_dictEntries hod hdd ?_)))
 rw [if_neg (by simp)]
 refine Ac (Ah (Ac (wpAny_dictEpoch hod hdd ?_)))
 rw [if_neg (by simp)]
 refine Ah ?_
 simp only [show ¬ ((n0:Int) < 0) by omega,if_false,Int.toNat_natCast,Array.getElem?_eq_getElem hi]
 refine Ac (Ac (Dp tI (Ah ?_)))
 refine Ac (wpAny_isOneOf_keyiter tI ?_)
 show wpAny _ _ (setField (.ref jt) 1 (rawInt ((n0:Int) + 1)) >>= _) _ _ s
 have nx:(s.heap.update jt (Obj.mapFields (·.setIfInBounds 1 (rawInt ((n0:Int) + 1))))).IsKeyIter jt dq (n0 + 1) en.size ep :=
   ⟨_,Heap.get?_update_self _ hoi (Obj.isFreed_of_fields (Obj.data_mapFields di _)),(Obj.cls_mapFields ..).trans ci,by rw [Obj.data_mapFields di]; simp [rawInt]⟩
 refine wpAny_bind (wpAny_setField hoi di (by simp) (wpAny_bind (wpAny_holding (wpAny_bind (wpAny_isOneOf_keyiter (s:={ s with heap:=s.heap.update jt (Obj.mapFields (·.setIfInBounds 1 (rawInt ((n0:Int) + 1)))) }) nx.typeIs ?_)))))
 show wpAny _ _ (pure en[n0].key) _ _ _
 exact Ah (Ah ⟨_,rfl,Ah (hq _ nx (Fh ..))⟩)
theorem xP {Q:Option Value → Shared → Prop} (hh:A.handled = none) (hit:s.heap.IsKeyIter jt dq en.size en.size ep) (hod:s.heap.get? dq = some od) (hdd:od.data = .dict en ep)
   (hq:∀ h',Heap.ExtBut jt s.heap h' → Q none { s with heap:=h' }):wpAny (model prog w) A (pyNext (.ref jt)) Q E s:=by
 obtain ⟨oi,hoi,ci,di⟩:=id hit
 have ow:Builtin.Dict_items.ownsTuple "dict_keyiterator" = false:=by decide
 have tI:=hit.typeIs
 unfold pyNext
 refine Ac (wpAny_attempt (wpAny_callSpecial?_slot (name:=Str.ofString "__next__") tI Du (Cu Du tI F.entry_dict_keyiterator_next ?_ (F.args_dict_keyiterator_next_1 _))))
 refine Ac (Ah (Ac (Ac ?_)))
 refine Ac (Dp tI (Ah (Ac (wpAny_fieldsOf hoi di ?_))))
 simp only [ow,Bool.false_eq_true,if_false]
 show wpAny _ _ (if (Value.ref dq == Value.none) = true then _ else _) _ _ s
 rw [if_neg (by exact Ao)]
 refine Ac (Ah (Ac (wpAny_dictEntries hod hdd ?_)))
 rw [if_neg (by simp)]
 refine Ac (Ah (Ac (wpAny_dictEpoch hod hdd ?_)))
 rw [if_neg (by simp)]
 refine Ah ?_
 simp only [show ¬ ((en.size:Int) < 0) by omega,if_false,Int.toNat_natCast,Array.getElem?_eq_none (Nat.le_refl en.size)]
 refine Ac (Ac (Dp tI (Ah ?_)))
 show wpAny _ _ (setField (.ref jt) 0 .none >>= _) _ _ s
 refine wpAny_bind (wpAny_setField hoi di (by simp) ?_)
 show wpAny _ _ (newExc (Value.type "StopIteration") [] >>= _) _ _ _
 refine Ac ?_
 simp only [newTuple,newExc]
 refine wpAny_bind (wpAny_newObj_type (wpAny_bind (m:=firstArgMember _ _) (wpAny_of_eq (a:=Value.none) (by first | rfl | (simp only [firstArgMember]; rfl)) (wpAny_newObj_type ?_ (by size_fits)))) (by size_fits))
 simp only [raiseNew]
 refine Ac (wpAny_handled (?_:_))
 rw [show A.in1.handled = none by exact hh]
 refine Ac (Ah (wpAny_throw ?thr))
 case thr =>
  refine Ac (wpAny_isInstance (b:=true) (T := "StopIteration") ⟨_,Ar _ rfl,rfl⟩ isSubtype_stop ?_)
  exact Ah (hq _ (((Fh ..).extBut.push _).push _))
end
def ItT (a:Addr) (o:Obj) (kvs:List (List Key × V)):It:=⟨fun i H => H a = some (.frz o (.dT kvs)) ∧ i < kvs.length,fun i H x H' => H' = H ∧ ∃ kv b,kvs[i]? = some kv ∧ x = .ref b ∧ H b = some (.tup (kv.1.map kV)),fun i H => H a = some (.frz o (.dT kvs)) ∧ kvs.length = i⟩
theorem qT {X:Cx} {pins:List (Addr × Obj)} {σ:St} {H:Hp} {s:Shared} {a:Addr} {o:Obj} {kvs:List (List Key × V)} {ep:Nat} (I:Inv X pins σ H s) (ha:H a = some (.frz o (.dT kvs))) (hep:∃ es,o.data = .dict es ep) :
   kvs.length ≤ sizeLine ∧ (a == sysModules) = false ∧ ∃ xs es,KT H kvs xs ∧ s.heap.get? a = some o ∧ o.data = .dict es ep ∧ o.ExactDict ∧ es.toList = xs.map (entryOfKey (tupleKind (aS X.prog X.w))):=by
 have ok:s.heap.get? a = some o ∧ ObjOk X.prog X.w H s.heap a (.dT kvs):=I.hok a _ ha
 obtain ⟨e,z,hd,xs,rel,o',es',ep',ho',hx,hdat,he,_⟩:=ok
 rw [e] at ho'
 cases ho'
 obtain ⟨es,hes⟩:=hep
 have q:=hdat
 rw [hes] at q
 cases q
 exact ⟨z,hd,xs,_,rel,e,hdat,hx,he⟩
theorem tL {P:Program} {w:World} {K:PySem.W.Frag} {tg:Expr} (a it:Addr) (o:Obj) (kvs:List (List Key × V)) (ep:Nat) (hep:∃ es,o.data = .dict es ep):Turn P w K tg (ItT a o kvs) [it] it (fun i h => h.IsKeyIter it a i kvs.length ep) where
 mem:=by simp
 obj:=fun i h st b hb => by
   obtain ⟨o,e,c,d⟩:=st
   rw [As.mp hb]
   exact ⟨o,e,fun v z => by rw [d] at z; cases z⟩
 keep:=fun i h h' st k => let ⟨o,ho,r⟩:=st; ⟨o,k it (by simp) o ho,r⟩
 item:=by
   intro X hP hw hK hc i pins s σ H E I hf st hg
   subst hP hw hK
   obtain ⟨ha,hi⟩:=hg
   obtain ⟨z,hd,xs,es,rel,ho,hdat,hx,he⟩:=qT I ha hep
   have hlv:=rel.length
   have hsz:es.size = xs.length:=by rw [← Bt,he,Ab]
   obtain ⟨f0,f1,f2,f3,f4,f5⟩:=hf it (by simp)
   obtain ⟨⟨k,b,v⟩,hxi,hk1,hk2,_⟩:=nI rel (Aa hi)
   have hie:i < es.size:=by omega
   have hkey:es[i].key = .ref b:=by
     have q:es[i]? = some (entryOfKey (tupleKind (aS X.prog X.w)) (k,b,v)):=by rw [← Cc,he,Ag,hxi]; rfl
     rw [Ff hie] at q
     rw [Bi q]
     rfl
   refine aXD (en:=es) (by rw [hsz,← hlv]; exact st) ho hdat hie fun h' st' sb => ?_
   rw [hkey]
   have I1:Inv X pins σ H { s with heap:=h' }:=I.turned (t':=s.toks) (fun b o hb e => (sb.2 b hb).trans e) f0 f1 f3 f4 f5
   obtain ⟨oi,e,c,d⟩:=id st'
   refine ⟨.ref b,rfl,mZ (s:={ s with heap:=h' }) e c d (by decide) ⟨.ref b,H,I1,rfl,⟨rfl,kvs[i],b,Aa hi,rfl,hk2⟩,?_,fun b hb => (hf b hb).1⟩⟩
   rw [hlv,← hsz]
   exact st'
 done:=by
   intro X hP hw hK hc i pins s σ H E I hf st hg
   subst hP hw hK
   obtain ⟨ha,hi⟩:=hg
   obtain ⟨z,hd,xs,es,rel,ho,hdat,hx,he⟩:=qT I ha hep
   have hlv:=rel.length
   have hsz:es.size = xs.length:=by rw [← Bt,he,Ab]
   obtain ⟨f0,f1,f2,f3,f4,f5⟩:=hf it (by simp)
   exact xP (en:=es) (I.ok.hd hc) (by rw [hsz,← hlv]; rw [← hi] at st; exact st) ho hdat fun h' eb => ⟨rfl,I.turned (t':=s.toks) (fun b o hb e => eb b o hb e) f0 f1 f3 f4 f5⟩
 self:=fun _ _ _ _ _ st h => wpAny_pyIter_keyiter st h
section
variable {prog:Program} {w:World} {A:Around} {E:Value → Shared → Prop} {s:Shared} {dq:Addr} {en:Array DictEntry} {ep:Nat} {od:Obj}
theorem zJ {Q:Value → Shared → Prop} (hs:(dq == sysModules) = false) (hod:s.heap.get? dq = some od) (hx:od.ExactDict) (hdd:od.data = .dict en ep)
   (hq:Q (.ref s.heap.objs.size) { s with heap:=s.heap.push { cls:=.type "dict_keyiterator",data:=.fields #[.ref dq,.int 0 0,.int en.size 0,.int ep 0] } }):wpAny (model prog w) A (pyIter (.ref dq)) Q E s:=by
 have tD:s.TypeIs (.ref dq) "dict" := ⟨od,hod,hx.1⟩
 refine wpAny_pyIter_slot tD F.slot_dict_iter (Cu F.slot_dict_iter tD F.entry_dict_iter ?_ (F.args_dict_iter_1 _))
 unfold Builtin.«dict.__iter__» ; refine Ac ?_
 unfold Builtin.Dict.dictSlotNone ; refine Ac (wpAny_notOrdered_dict tD ?_)
 show wpAny _ _ (pure (Value.ref dq)) _ _ s
 refine Ah ?_
 show wpAny _ _ (Builtin.Dict.showsAll dq >>= _) _ _ s
 unfold Builtin.Dict.showsAll
 rw [if_neg (by rw [hs]; decide)]
 refine Ac (Ah (Ac (wpAny_dictEntries hod hdd (Ac (wpAny_dictEpoch hod hdd ?_)))))
 refine Ac (Da (Ah ⟨_,rfl, "dict_keyiterator",_,⟨_,Ar _ rfl,rfl⟩,F.slot_dict_keyiterator_next.lookup,(?_:_)⟩))
 simpa [rawInt] using hq
end
section
variable {X:Cx} {tg:Expr} {pins:List (Addr × Obj)} {σ:St} {H:Hp} {s:Shared} {a:Addr}
theorem yY {kvs:List (List Key × V)} (I:Inv X pins σ H s) (ha:H a = some (.dT kvs)):∃ o es ep,s.heap.get? a = some o ∧ o.data = .dict es ep:=by
 obtain ⟨_,_,xs,_,o,es,ep,ho,_,hd,_⟩:=bZP I.hok ha
 exact ⟨o,es,ep,ho,hd⟩
theorem aQ3 {o:Obj} {kvs:List (List Key × V)} (I:Inv X pins σ H s) (ha:H a = some (.frz o (.dT kvs))):∃ ep,∃ es,o.data = .dict es ep:=by
 have ok:s.heap.get? a = some o ∧ ObjOk X.prog X.w H s.heap a (.dT kvs):=I.hok a _ ha
 obtain ⟨e,_,_,xs,_,o',es,ep,ho,_,hd,_⟩:=ok
 rw [e] at ho
 cases ho
 exact ⟨ep,es,hd⟩
def jL (H:Hp) (a:Addr) (R:Obj → List (List Key × V) → Hp → Prop):Prop:=(∃ kvs,H a = some (.dT kvs) ∧ ∀ o,R o kvs (upd H a (.frz o (.dT kvs)))) ∨ ∃ o kvs,H a = some (.frz o (.dT kvs)) ∧ R o kvs H
theorem aZO {R:Obj → List (List Key × V) → Hp → Prop} (I:Inv X pins σ H s) (h:jL H a R) :
   ∃ o kvs H' ep,Inv X pins σ H' s ∧ H' a = some (.frz o (.dT kvs)) ∧ (∃ es,o.data = .dict es ep) ∧ R o kvs H':=by
 rcases h with ⟨kvs,ha,q⟩ | ⟨o,kvs,ha,q⟩
 · obtain ⟨o,es,ep,ho,hd⟩:=yY I ha
   exact ⟨o,kvs,_,ep,I.freeze ha rfl ho,aB,⟨es,hd⟩,q o⟩
 · obtain ⟨ep,es,hd⟩:=aQ3 I ha
   exact ⟨o,kvs,H,ep,I,ha,⟨es,hd⟩,q⟩
def aX2 (tl:TE):TI:=fun σ H R => tl σ H (eY fun a H1 => jL H1 a fun o kvs H2 => R (ItT a o kvs) H2)
theorem jX {l:Expr} {tl:TE} (hl:PE X l tl):PI X tg l (aX2 tl):=by
 intro pins s σ H R I h
 refine thn (hl pins s σ H _ I h) fun v s1 ⟨x,H1,I1,r1,q1⟩ => ?_
 unfold eY at q1
 split at q1
 · cases r1
   rename_i a0 _
   obtain ⟨o,kvs,H2,ep,I2,ha,hep,q⟩:=aZO I1 q1
   obtain ⟨z,hd,xs,es,rel,ho,hdat,hx,he⟩:=qT I2 ha hep
   have hsz:es.size = kvs.length:=by rw [← Bt,he,Ab,rel.length]
   refine zJ hd ho hx hdat ?_
   refine ⟨s1.heap.objs.size,[s1.heap.objs.size],_,_,H2,rfl,I2.kept (t':=s1.toks) fun b o e => Ae _ e,tL a0 _ o kvs ep hep,⟨_,Ar _ rfl,rfl,by rw [hsz]; rfl⟩,fun b hb => ?_,q⟩
   rw [As.mp hb]
   exact I2.fpOk (Ai _) (I2.hok.fresh (Ai _))
 · exact q1.elim
def bZ7:V → List V → Hp → VK → Prop:=fun x vs H Q => ∃ a y ov,x = .ref a ∧ vs = [y] ∧ DGet H a y ov ∧ Q (ov.getD .non) H
end
section
variable {σ:St} {H:Hp} {Q:VK} {D:Ends} {a b:Addr} {kvs:List (List Key × V)} {k:List Key} {v w:V} {tl:TE} {R:It → Hp → Prop} {g:TG} {tb:TS} {o:Obj}
theorem aQ2 (Pv:Nat → St → Hp → Prop) (h0:Pv 0 σ H) (hl:∀ i σ H,i ≤ kvs.length → Pv i σ H → H a = some (.frz o (.dT kvs)))
   (hs:∀ i kv b σ H,kvs[i]? = some kv → H b = some (.tup (kv.1.map kV)) → Pv i σ H → g (.ref b) σ H fun σ2 H2 => tb { D with nx:=Pv (i + 1),ct:=Pv (i + 1),bk:=D.nx } σ2 H2) (hd:∀ σ H,Pv kvs.length σ H → D.nx σ H):qP (ItT a o kvs) g tb D σ H:=by
 refine ⟨fun i m σ H => m = kvs.length - i ∧ i ≤ kvs.length ∧ Pv i σ H,⟨kvs.length,by simp,Nat.zero_le _,h0⟩,?_⟩
 rintro i m σ H ⟨rfl,hi,p⟩
 have hr:=hl i σ H hi p
 by_cases hlt:i < kvs.length
 · refine .inr ⟨⟨hr,hlt⟩,Pv (i + 1),fun σ' H' p' => ⟨kvs.length - (i + 1),by omega,rfl,hlt,p'⟩,fun x H' y => ?_⟩
   obtain ⟨rfl,kv,b,hx,rfl,hb⟩:=y
   exact hs i kv b σ _ hx hb p
 · have e:i = kvs.length:=by omega
   subst e
   exact .inl ⟨⟨hr,rfl⟩,hd σ H p⟩
theorem aXI (h:tl σ H (eY fun a H1 => jL H1 a fun o kvs H2 => R (ItT a o kvs) H2)):aX2 tl σ H R:=h
theorem qL {Rw:Obj → List (List Key × V) → Hp → Prop} (e:H a = some (.dT kvs)) (h:∀ o,Rw o kvs (upd H a (.frz o (.dT kvs)))):jL H a Rw:=.inl ⟨kvs,e,h⟩
theorem aJF {Rw:Obj → List (List Key × V) → Hp → Prop} (e:H a = some (.frz o (.dT kvs))) (h:Rw o kvs H):jL H a Rw:=.inr ⟨o,kvs,e,h⟩
theorem bQT (h:∀ p,H p = none → Q (.ref p) (upd H p (.dT []))):aQJ σ H Q:=h
theorem uR (e:Rd H a (.dT kvs)) (eb:H b = some (.tup (k.map kV))) (l:bJ kvs k = some v) (h:Q v H):cQM (.ref a) (.ref b) H Q:=⟨a,v,rfl,.inr ⟨kvs,k,b,e,rfl,eb,l.symm⟩,h⟩
theorem lM (e:H a = some (.dT kvs)) (eb:H b = some (.tup (k.map kV))) (l:kvs.length < sizeLine) (h:D.nx σ (upd H a (.dT (cY kvs k v)))):aZF D σ (.ref a) (.ref b) v H:=⟨a,_,rfl,.inr ⟨kvs,k,b,e,rfl,eb,l,rfl⟩,h⟩
theorem cQZ {neg:Bool} (e:Rd H a (.dT kvs)) (eb:H b = some (.tup (k.map kV))) (h:Q (.bl (if neg then !(bJ kvs k).isSome else (bJ kvs k).isSome)) H):bX7 neg (.ref b) (.ref a) H Q:=⟨a,_,rfl,.inr ⟨kvs,k,b,e,rfl,eb,rfl⟩,h⟩
theorem vM (e:Rd H a (.dT kvs)) (eb:H b = some (.tup (k.map kV))) (h:Q ((bJ kvs k).getD .non) H):bZ7 (.ref a) [.ref b] H Q:=⟨a,_,_,rfl,rfl,.inr ⟨kvs,k,b,e,rfl,eb,rfl⟩,h⟩
end
theorem yF {prog:Program} {w:World} {A:Around} {E:Value → Shared → Prop} {s:Shared} {Q:Int → Shared → Prop} (h:Q 0xFCA86420 { s with toks:=s.toks + 1 }):wpAny (model prog w) A (pyHash .none) Q E s:=by
 have tN:s.TypeIs .none "NoneType" := rfl
 unfold pyHash pyHashByItsType
 refine Ac ?_
 rw [cRoomFor,if_neg (by decide)]
 refine Ah (Ac (Fo tN F.slot_NoneType_hash.lookup ?_))
 show wpAny _ _ (if (some (Value.builtin "NoneType.__hash__") == some Value.none) = true then _ else _) Q E s
 rw [if_neg (by rw [beq_builtin_none]; decide)]
 refine Ac (Fo tN F.slot_NoneType_hash.lookup ?_)
 show wpAny _ _ (callSpecialIfBoundUnlessNone? .none "__hash__" _ >>= _) Q E s
 refine Ac (wpAny_callSpecialIfBoundUnlessNone?_slot tN F.slot_NoneType_hash (Cu F.slot_NoneType_hash tN F.entry_NoneType_hash (show wpAny _ _ (do ret (← mkInt 0xFCA86420)) _ _ s from wpAny_ret_mkInt ?_) (F.args_NoneType_hash_1 _)))
 show wpAny _ _ (if (decide (-(2:Int) ^ 63 ≤ 0xFCA86420) && decide ((0xFCA86420:Int) < 2 ^ 63)) = true then _ else _) Q E _
 rw [if_pos (by decide)]
 exact Ah h
def aQZ:Option Key → Value → Bool
 | none,.none => true
 | none,_ => false
 | some k,v => iH k v
theorem cL {v:Value} (h:aQZ none v = true):v = .none:=by
 cases v <;> first | rfl | (exact absurd h (by decide)) | cases h
theorem iX {k:Key} {v:Value} (h:iH k v = true):v ≠ .none:=fun z => by
 rcases bI h with ⟨i,t,_,e⟩ | ⟨x,t,_,e⟩ <;> rw [z] at e <;> cases e
def dQS (w:World):Option Key → Int
 | none => 0xFCA86420
 | some k => cZ7 w k
def wJ (prog:Program) (w:World):PySem.KeyKind prog w (Option Key) where
 is:=aQZ
 hash:=dQS w
 inj:=fun v a b ha hb => by
   cases a with
   | none =>
     cases b with
     | none => rfl
     | some b => exact absurd (cL ha) (iX hb)
   | some a =>
     cases b with
     | none => exact absurd (cL hb) (iX ha)
     | some b => exact Cp some ((aS prog w).inj v a b ha hb)
 byValue:=fun k v h => by
   cases k with
   | none => rw [cL h]; rfl
   | some k => exact (aS prog w).byValue k v h
 pyHash:=fun {A E s k v Q} hv h => by
   cases k with
   | none => rw [cL hv]; exact yF h
   | some k => exact (aS prog w).pyHash hv h
 eqBool:=fun {A E s a b u v Q} hu hv h => by
   cases a with
   | none =>
     rw [cL hu]
     cases b with
     | none => rw [cL hv]; exact SeqAt.EqAt.same _ _ _ _ _ (by simpa using h)
     | some b =>
       have h2:Q false s:=by simpa using h
       rcases bI (show iH b v = true from hv) with ⟨j,t,_,rfl⟩ | ⟨y,t,_,rfl⟩
       · exact SeqAt.EqAt.none_int _ _ _ _ _ _ h2
       · exact SeqAt.EqAt.none_str _ _ _ _ _ _ h2
   | some a =>
     cases b with
     | none =>
       rw [cL hv]
       have h2:Q false s:=by simpa using h
       rcases bI (show iH a u = true from hu) with ⟨j,t,_,rfl⟩ | ⟨y,t,_,rfl⟩
       · exact SeqAt.EqAt.int_none _ _ _ _ _ _ h2
       · exact SeqAt.EqAt.str_none _ _ _ _ _ _ h2
     | some b =>
       refine (aS prog w).eqBool hu hv ?_
       have e:decide (some a = some b) = decide (a = b):=Dx.mpr ⟨Bi,fun z => by rw [z]⟩
       rw [e] at h
       exact h
 «strs» := fun k x t v h => by
   cases k with
   | none => exact absurd (cL h) (fun z => nomatch z)
   | some k => exact (aS prog w).strs k x t v h
theorem bJX {prog:Program} {w:World} {h:Heap} {a:Addr} {f:Key → Option Value} (hm:h.MapOf (aS prog w) a f):h.MapOf (wJ prog w) a (fun k => k.bind f):=by
 obtain ⟨o,es,ep,ho,hx,hd,hk,hf⟩:=hm
 refine ⟨o,es,ep,ho,hx,hd,fun e he => ?_,fun k => ?_⟩
 · obtain ⟨k,h1,h2⟩:=hk e he
   exact ⟨some k,h1,h2⟩
 · cases k with
   | some k => exact hf k
   | none =>
     show findBy aQZ es none = none
     unfold findBy
     rw [Option.map_eq_none_iff,Array.find?_eq_none]
     intro e he z
     obtain ⟨k,h1,_⟩:=hk e he
     exact iX h1 (cL z)
section
variable {X:Cx}
def aZ9:R2:=fun x y H Q => ∃ a,y = .ref a ∧ ((∃ ov,DGet H a x ov ∧ Q (.bl ov.isSome) H) ∨ (x = .non ∧ ∃ kvs,Rd H a (.dK kvs) ∧ Q (.bl false) H))
theorem bJT (hu:X.A.units + 1 < cLine):OpR X (compareOp .In) aZ9:=by
 intro pins s σ H x y v u Q I rx ry h
 obtain ⟨a,rfl,h⟩:=h
 cases ry
 rcases h with ⟨ov,g,q⟩ | ⟨rfl,kvs,e,q⟩
 · exact cJW hu I g rx fun s3 I3 => ⟨.bl ov.isSome,H,I3,rfl,q⟩
 · cases rx
   obtain ⟨z,hd,vs,rel,dd⟩:=eV I.hok e
   exact wpAny_in_of (knd:=wJ X.prog X.w) (k:=none) (key:=Value.none) rfl hd (bJX dd.mapOf) ⟨.bl false,H,I.tok _,rfl,q⟩
theorem aQ5 (hu:X.A.units + 1 < cLine):MtR X "dict.get" bZ7:=by
 intro pins s σ H x vs v us Q I rx rv h
 obtain ⟨a,y,ov,rfl,rfl,g,q⟩:=h
 cases rx
 obtain ⟨u,rfl,ru⟩:=rv.one
 exact bJL hu I g ru fun w1 s1 I1 r1 => ⟨_,H,I1,r1,q⟩
end
section
variable {H:Hp} {Q:VK} {a:Addr} {kvs:List (Key × V)} {z:Str}
theorem cXN (e:Rd H a (.dK kvs)) (h:Q (.bl false) H):aZ9 .non (.ref a) H Q:=⟨a,rfl,.inr ⟨rfl,kvs,e,h⟩⟩
theorem bXS (e:Rd H a (.dK kvs)) (h:Q (.bl (bJ kvs (Sum.inr z)).isSome) H):aZ9 (.str z) (.ref a) H Q:=⟨a,rfl,.inl ⟨_,.inl ⟨kvs,.inr z,e,rfl,rfl⟩,h⟩⟩
end
section
variable {X:Cx}
def cZM:R2:=fun x y H Q => ∃ (p q:Addr) (a b c d:Int),x = .ref p ∧ y = .ref q ∧ H p = some (.tup [.int a,.int b]) ∧ H q = some (.tup [.int c,.int d]) ∧ Q (.bl (decide (a = c ∧ b = d))) H
theorem cZL (hu:X.A.units < cLine):OpR X (compareOp .Eq) cZM:=by
 intro pins s σ H x y v u Q I rx ry h
 obtain ⟨p,q,a,b,c,d,rfl,rfl,hp,hq,k⟩:=h
 cases rx
 cases ry
 obtain ⟨its,r1,l1,_⟩:=I.tuple (SqT.of (K:=X.K) hp)
 obtain ⟨its2,r2,l2,_⟩:=I.tuple (SqT.of (K:=X.K) hq)
 obtain ⟨u1,u2,rfl,⟨t1,rfl⟩,⟨t2,rfl⟩⟩:=r1.two
 obtain ⟨w1,w2,rfl,⟨t3,rfl⟩,⟨t4,rfl⟩⟩:=r2.two
 refine SeqAt.eq_tupleAt (e:=fun j => if j = 0 then a == c else b == d) (show s.heap.IsTuple p _ from l1) (show s.heap.IsTuple q _ from l2) hu (fun j h1 h2 => ?_) ?_
 · match j,h1,h2 with
   | 0,_,_ => exact Fs a t1 c t3
   | 1,_,_ => exact Fs b t2 d t4
   | j + 2,h1,_ => exact absurd h1 (by show ¬ j + 2 < 2; omega)
 · refine ⟨.bl (decide (a = c ∧ b = d)),H,I,?_,k⟩
   show Value.bool _ = Value.bool _
   congr 1
   show (((if (0:Nat) = 0 then a == c else b == d) && ((if (1:Nat) = 0 then a == c else b == d) && true)) && true) = _
   rw [if_pos rfl,if_neg (by decide),Bool.and_true,Bool.and_true]
   by_cases e1:a = c
   · by_cases e2:b = d
     · simp [e1,e2]
     · simp [e1,e2]
   · simp [e1]
theorem cJY {H:Hp} {Q:VK} {p q:Addr} {a b c d:Int} (hp:H p = some (.tup [.int a,.int b])) (hq:H q = some (.tup [.int c,.int d])) (h:Q (.bl (decide (a = c ∧ b = d))) H):cZM (.ref p) (.ref q) H Q:=⟨p,q,a,b,c,d,rfl,rfl,hp,hq,h⟩
end
end L2
set_option maxHeartbeats 4000000
namespace L2
open PySem PySem.Spec PyProof.Rows
open PySem.AutoSeq1 (wpAny_loadPart')
open PySem.MeetsSeq PySem.MeetsSeq2 PySem.MeetsSeq3
def EqB (P:Program) (w:World) (A:Around) (s:Shared) (u v:Value):Prop:=∃ b:Bool,∀ (E:Value → Shared → Prop) (Q:Bool → Shared → Prop),Q b s → wpAny (model P w) A (eqBool u v) Q E s
section
variable {P:Program} {w:World} {A:Around} {E:Value → Shared → Prop} {s:Shared} {l:Addr} {xs:Array Value}
theorem EqB.same (u:Value):EqB P w A s u u:=⟨true,fun E Q hq => SeqAt.EqAt.same u P w E Q hq⟩
end
section
variable {X:Cx}
end
section
variable {X:Cx} {l:Expr} {ta:TA} {elts:List Expr} {x1:Nat} {tp p pos:Pos}
end
end L2
set_option maxHeartbeats 4000000
namespace L2
open PySem PySem.Spec PyProof.Rows
section
variable {prog:Program} {w:World} {A:Around} {E:Value → Shared → Prop} {s:Shared}
def CtxNone (h:Heap) (ea:Addr):Prop:=∃ o fs,h.get? ea = some o ∧ o.data = .fields fs ∧ fs[2]? = some .none
theorem CtxNone.ext {h h':Heap} {ea:Addr} (c:CtxNone h ea) (k:∀ o,h.get? ea = some o → h'.get? ea = some o):CtxNone h' ea:=by
 obtain ⟨o,fs,h1,h2,h3⟩:=c
 exact ⟨o,fs,k o h1,h2,h3⟩
end
end L2
set_option maxHeartbeats 4000000
namespace L2
open PySem PySem.Spec PyProof.Rows
section
variable {X:Cx} {pins:List (Addr × Obj)} {σ:St} {H:Hp} {s:Shared} {ea:Addr}
end
section
variable {prog:Program} {w:World} {A:Around} {E:Value → Shared → Prop} {s:Shared}
theorem CtxNone.some {h:Heap} {ea:Addr} (c:CtxNone h ea):∃ o,h.get? ea = Option.some o:=by
 obtain ⟨o,_,e,_⟩:=c
 exact ⟨o,e⟩
end
end L2
set_option maxHeartbeats 4000000
namespace L2
open PySem PySem.Spec PyProof.Rows
section
variable {X:Cx} {tg:Expr}
end
section
variable {X:Cx} {tg l a b:Expr} {tl ta tb:TE} {p pos:Pos}
end
end L2
set_option maxHeartbeats 4000000
namespace L2
open PySem PySem.Spec PyProof.Rows
section
variable {P:Program} {w:World} {K:PySem.W.Frag} {mg:Str → Option Value} {base:Heap}
end
section
variable {X:Cx} {pn:List (Addr × Obj)} {ea:Addr} {k k':Nat} {ps:List Str} {sp:Sp} {x:Str} {p pos:Pos} {e:Expr} {es:List Expr} {t:TA}
end
section
variable {X:Cx} {pins:List (Addr × Obj)}
end
end L2
set_option maxHeartbeats 4000000
namespace L2
open PySem PySem.Spec PyProof.Rows
section
variable {M:Model} {A:Around} {E:Value → Shared → Prop} {s:Shared} {B:Heap} {env:Env} {outer l:List Env} {L e:Addr} {cls fl:Value} {d:Option Addr} {Q:Unit → Shared → Prop}
theorem sP {o:Option Addr} (F:Fly B l e cls d fl s.heap) (hQ:∀ h' fl',Fly B l e cls d fl' h' → s.heap.UpToSlots h' → Q () { s with heap:=h' }):wpAny M A (setFlight (.ref e) o) Q E s:=by
 obtain ⟨hB,hn,hl,oe,vs,T,oT,ts,he,hc,hd,h1,hT,hTe,gT,dT,t3,c2⟩:=F
 have z3:3 < ts.size:=(Cj.mp t3).1
 unfold setFlight
 refine Ac (Df he hd h1 ?_)
 rw [if_pos (show (Value.ref T != Value.none) = true by simp)]
 refine Gd gT dT z3 (hQ _ (o.elim .none fun f => rawInt f) ?_ fun b o q nf => ⟨o.slots,lC gT dT b o q nf⟩)
 have dm:=Ft dT (·.setIfInBounds 3 (o.elim Value.none fun f => rawInt f))
 refine ⟨fun b u q => ?_,hn,hl.of_keeps fun b u q nf => ⟨u,lC gT dT b u q nf,rfl⟩,oe,vs,T,_,_,?_,hc,hd,h1,hT,hTe,Heap.get?_update_self _ gT (Obj.isFreed_of_fields dm),dm,by simp [z3],c2⟩
 · rw [Br _ _ (fun z:T = b => by rw [← z,hT] at q; cases q)]
   exact hB b u q
 · rw [Br _ _ hTe]
   exact he
theorem tO {α:Type} {what:String} {cenv:Env} {Q:α → Shared → Prop} (F:Fly B l e cls d fl s.heap) (hE:∀ h' fl',Fly B l e cls d fl' h' → s.heap.UpToSlots h' → E (.ref e) { s with heap:=h' }) :
   wpAny M A (passOn what (.ref e) cenv:Sem α) Q E s:=by
 obtain ⟨oe,vs,T,oT,ts,he,hc,hd,h1,_⟩:=id F.on
 unfold PySem.passOn
 refine Ac (Df he hd h1 ?_)
 rw [if_neg (show ¬ ((Value.ref T == Value.none) = true) by simp)]
 exact Ac (sP F fun h' fl' F' up => wpAny_throw (hE h' fl' F' up))
theorem Fly.hid {h h':Heap} {C:Addr} {oC:Obj} (F:Fly B l e cls d fl h) (hC:B.get? C = some oC) (sb:Heap.SameBut C h h'):Fly (PySem.W.hideAll B [C]) l e cls d fl h':=by
 have nC:∀ b,B.get? b = none → b ≠ C:=fun b hb z => by rw [z,hC] at hb; cases hb
 have gone:∀ b,B.get? b = none → (PySem.W.hideAll B [C]).get? b = none:=fun b hb => by
   cases q:(PySem.W.hideAll B [C]).get? b with
   | none => rfl
   | some o =>
     have:=Fq _ q
     rw [hb] at this
     cases this
 obtain ⟨hB,hn,hl,oe,vs,T,oT,ts,he,hc,hd,h1,hT,hTe,gT,r⟩:=F
 refine ⟨fun b o q => ?_,gone e hn,?_,oe,vs,T,oT,ts,(sb.2 e (nC e hn)).trans he,hc,hd,h1,gone T hT,hTe,(sb.2 T (nC T hT)).trans gT,r⟩
 · have hb:b ≠ C:=fun z => by
     rw [z,PySem.W.hideAll_none _ Aq] at q
     cases q
   exact (sb.2 b hb).trans (hB b o (Fq _ q))
 · have all:∀ l:List Env,h.FunFrames B l → h'.FunFrames (PySem.W.hideAll B [C]) l:=fun l => by
     induction l with
     | nil => exact fun _ => trivial
     | cons env r ih => exact fun ⟨hk,⟨L,o,hf,hn,ho,hd⟩,hr⟩ => ⟨hk,⟨L,o,hf,gone L hn,(sb.2 L (nC L hn)).trans ho,hd⟩,ih hr⟩
   exact all l hl
end
def LX (X:Cx) (Ex:XK):Value → Shared → Prop:=fun e s' => ∃ ea cls d B H' fl,e = .ref ea ∧ s'.os = X.s₀.os ∧ AllBare s'.gens ∧ Fly B X.stack ea cls d fl s'.heap ∧ HOk X.prog X.w H' B ∧ UnB X.fs X.H₀ H' X.s₀.heap B s'.heap ∧ Ex cls d H'
def dQJ (X:Cx) (Ex:XK):Prop:=∀ e s',X.Ok → LX X Ex e s' → X.xe e s'
def CErr (X:Cx) (Ex:XK) (C:Addr) (e:Value) (s':Shared):Prop:=∃ ea cls d B H' fl m,e = .ref ea ∧ s'.os = X.s₀.os ∧ AllBare s'.gens ∧ Fly B X.stack ea cls d fl s'.heap ∧ B.Ns C m ∧ HOk X.prog X.w H' B ∧ H' C = none ∧ UnB X.fs X.H₀ H' X.s₀.heap B s'.heap ∧ X.s₀.heap.objs.size ≤ C ∧ Ex cls d H'
theorem CErr.post {X:Cx} {Ex:XK} {C:Addr} {e:Value} {s':Shared} (h:CErr X Ex C e s') (ok:X.Ok) (hL:dQJ X Ex):∃ m,s'.heap.Ns C m ∧ ∀ h',Heap.SameBut C s'.heap h' → ∀ cenv:Env,cenv.locals = C →
   wpAny (model X.prog X.w) X.A (passOn "comprehension.variables-let-go" e cenv:Sem Value) (fun _ _ => False) X.xe { s' with heap:=h' }:=by
 obtain ⟨ea,cls,d,B,H',fl,m,rfl,os,bare,F,nB,hok,hC,un,hz,q⟩:=h
 refine ⟨m,nB.keeps fun b o e => F.stays b o e,fun h' sb cenv _ => ?_⟩
 obtain ⟨oC,_,_,gC,_⟩:=id nB
 refine tO (s:={ s' with heap:=h' }) (F.hid gC sb) fun h2 fl2 F2 up => hL _ _ ok ?_
 have neC:∀ b o,X.s₀.heap.get? b = some o → b ≠ C:=fun b o e z => absurd (An e) (Nat.not_lt.mpr (by rw [z]; exact hz))
 have hid:∀ b o,B.get? b = some o → b ≠ C → (PySem.W.hideAll B [C]).get? b = some o:=fun b o e n => PySem.W.hideAll_get _ e fun hm => n (As.mp hm)
 refine ⟨ea,cls,d,_,H',fl2,rfl,os,bare,F2,hok.down fun b o u e g => hid b o g fun z => ?_,⟨fun b o e n hb => hid b o (un.keep b o e n hb) (neC b o e),fun b o e n hb => ?_,un.free,fun b o e hb => ?_,un.tups,un.frzs,un.tbls⟩,q⟩
 · rw [z,hC] at e
   cases e
 · obtain ⟨sl,q1⟩:=un.slot b o e n hb
   obtain ⟨_,o2,g2,nf⟩:=ok.funs.mem hb
   rw [e] at g2
   cases g2
   obtain ⟨sl2,q2⟩:=up b _ ((sb.2 b (neC b o e)).trans q1) nf
   exact ⟨sl2,q2⟩
 · obtain ⟨o',q1⟩:=un.there b o e hb
   exact ⟨o',hid b o' q1 (neC b o e)⟩
section
variable {X:Cx} {Ex:XK} {N:List Str} {scope:Scope} {cl:List (Str × Addr)} {vals:St → St} {tg elt iter:Expr} {ifs:List Expr} {pos spos py:Pos} {wi:TI} {g:TG} {tests:TT} {te:TE}
end
end L2
set_option maxHeartbeats 4000000
namespace L2
open PySem PySem.Spec PyProof.Rows
end L2
set_option maxHeartbeats 4000000
namespace L2
open PySem PySem.Spec PyProof.Rows
def aXZ (prog:Program) (w:World) (A:Around) (old:Heap) (S:Addr) (vs:List Value) (J:Nat → Obj → Prop):Prop :=
 ∀ (i:Nat) (v:Value) (s:Shared) (o:Obj) (E:Value → Shared → Prop) (Q:Bool → Shared → Prop),vs[i]? = some v → (∀ b u,old.get? b = some u → s.heap.get? b = some u) → s.heap.get? S = some o → J i o →
   (∀ (c:Bool) (h':Heap) (tk:Nat) (o':Obj),Heap.SameBut S s.heap h' → h'.get? S = some o' → J (i + 1) o' → Q c { s with heap:=h',toks:=tk }) → wpAny (model prog w) A (setAdd S v) Q E s
section
variable {prog:Program} {w:World} {A:Around} {E:Value → Shared → Prop} {R:Result → Shared → Prop} {old:Heap} {S l it:Addr} {vs:List Value} {J:Nat → Obj → Prop}
theorem oQ {s:Shared} (h:wpAny (model prog w) A.in1 (Builtin.«set.update.loop» ⟨[.ref S,.ref it],[]⟩) (fun fin s' => match fin with | .done f => R (.ok f) s' | .again c => c.quiet = true ∧ codeAny (model prog w) A c R s') (fun e s' => R (.error e) s') s) :
   codeAny (model prog w) A (.builtin "set.update.loop" ⟨[.ref S,.ref it],[]⟩) R s:=by
 refine Dt PyProof.Rows.F.entry_set_update_loop (by rw [Cv PyProof.Rows.F.plain_set_update_loop]; exact h)
theorem oE (F:aXZ prog w A.in1 old S vs J) (hh:A.in1.handled = none) (nSl:l ≠ S) (nSi:it ≠ S) (nli:l ≠ it) (oS:old.get? S = none) (oI:old.get? it = none):∀ (k i:Nat) (s:Shared) (o:Obj),k + i = vs.length → s.heap.IsListIter it l i → s.heap.IsList l vs.toArray → (∀ b u,old.get? b = some u → s.heap.get? b = some u) →
   s.heap.get? S = some o → J i o → (∀ (h':Heap) (tk:Nat) (o':Obj),(∀ b u,old.get? b = some u → h'.get? b = some u) → h'.get? S = some o' → J vs.length o' → R (.ok (.ret .none)) { s with heap:=h',toks:=tk }) →
   codeAny (model prog w) A (.builtin "set.update.loop" ⟨[.ref S,.ref it],[]⟩) R s
 | 0,i,s,o,hk,hi,hl,ho,hS,hJ,q => by
   obtain rfl:i = vs.length:=by omega
   refine oQ ?_
   unfold Builtin.«set.update.loop»
   dsimp only
   refine wpAny_bind (wpAny_pyNext_list_end hh hi hl (by simp) fun h' x => wpAny_pure ?_)
   exact q h' s.toks o (fun b u e => x b u (fun z => by rw [z,oI] at e; cases e) (ho b u e)) (x S o nSi.symm hS) hJ
 | k + 1,i,s,o,hk,hi,hl,ho,hS,hJ,q => by
   have hlt:i < vs.length:=by omega
   refine oQ ?_
   unfold Builtin.«set.update.loop»
   dsimp only
   refine wpAny_bind (wpAny_pyNext_list_item hi hl (x:=vs[i]) (by simp [hlt]) fun h1 i1 x1 => ?_)
   dsimp only
   have S1:h1.get? S = some o:=(x1.2 S nSi.symm).trans hS
   have l1:h1.IsList l vs.toArray:=hl.extBut x1.extBut nli
   have o1:∀ b u,old.get? b = some u → h1.get? b = some u:=fun b u e => (x1.2 b fun z => by rw [z,oI] at e; cases e).trans (ho b u e)
   refine Ac (Bu (F i vs[i] { s with heap:=h1 } o _ _ (Aa hlt) o1 S1 hJ fun c h2 tk o2 x2 S2 j2 => ?_))
   have o2':∀ b u,old.get? b = some u → h2.get? b = some u:=fun b u e => (x2.2 b fun z => by rw [z,oS] at e; cases e).trans (o1 b u e)
   refine Ah ⟨Ep PyProof.Rows.F.plain_set_update_loop _,oE F hh nSl nSi nli oS oI k (i + 1) { s with heap:=h2,toks:=tk } o2 (by omega) ?_ (l1.extBut x2.extBut nSl) o2' S2 j2 q⟩
   obtain ⟨u,hu,r⟩:=i1
   exact ⟨u,(x2.2 it nSi).trans hu,r⟩
end
section
variable {prog:Program} {w:World} {A:Around} {E:Value → Shared → Prop} {s:Shared}
def bare (led:Bool):Obj:={ cls:=.type "set",dict:=none,data:=.set #[] 0 (.fresh 0 0 led) }
theorem aZK {x:Value} {Q:Value → Shared → Prop}
   (h:∀ led:Bool,wpAny (model prog w) A.in1.in1 (Builtin.«set.__init__» ⟨[.ref s.heap.objs.size,x],[]⟩)
     (fun fin s' => match fin with | .done f => wants (fun r s₂ => r = .none ∧ Q (.ref s.heap.objs.size) s₂) E (.ok f) s' | .again c' => c'.quiet = true ∧ codeAny (model prog w) A.in1 c' (wants (fun r s₂ => r = .none ∧ Q (.ref s.heap.objs.size) s₂) E) s')
     (fun e s' => wants (fun r s₂ => r = .none ∧ Q (.ref s.heap.objs.size) s₂) E (.error e) s') { s with heap:=s.heap.push (bare led) }) :
   wpAny (model prog w) A (call (.type "set") [x]) Q E s:=by
 have ft:=PySem.F.called_set
 have hct:=PySem.F.typeCall_set_1 x
 obtain ⟨_,_,f1⟩:=ft.mro
 have f2:=ft.made
 have f3:=ft.sub
 have f4:=ft.notType
 have f5:=ft.canCreate
 refine Gh (codeAny_of_tree (show wpAny _ _ (callAny (.type "set") _) _ _ _ from Ah ⟨Code.quiet_builtin _ (by decide +kernel),Dt PySem.F.entry_type_call (by
   rw [Around.under_plain (weight_type_call_type "set" [x] []) rfl]
   repeat any_goals first | assumption | wp_step
   refine Fd (code_set_new_1 x (E:=E) (Q₁:=fun obj s₁ => ∃ led:Bool,obj = .ref s.heap.objs.size ∧ s₁ = { s with heap:=s.heap.push (bare led) }) fun led => ⟨led,rfl,rfl⟩) fun r s₁ hr => ?_
   rcases r with e | fl
   · exact hr
   · cases fl with
     | ret obj =>
       obtain ⟨led,rfl,rfl⟩:=hr
       have hT:Shared.TypeIs { s with heap:=s.heap.push (bare led) } (.ref s.heap.objs.size) "set" := ⟨_,Ar _ rfl,rfl⟩
       have f6:=ft.init.lookup
       have f7:=ft.init.bind (.ref s.heap.objs.size)
       repeat any_goals first | assumption | wp_step
       refine Fd (Fb ft.init.plain PySem.F.entry_set_init (check_set_init_1 hT (h led))) fun r₂ s₂ hr₂ => ?_
       rcases r₂ with e | fl₂
       · exact hr₂
       · cases fl₂ with
         | ret r =>
           obtain ⟨rfl,hq⟩:=hr₂
           repeat any_goals first | assumption | wp_step
         | _ => exact hr₂.elim
     | _ => exact hr.elim)⟩))
theorem rP {l:Addr} {vs:List Value} {J:Nat → Obj → Prop} {Q:Value → Shared → Prop} (hh:A.handled = none) (hl:s.heap.IsList l vs.toArray) (j0:∀ led:Bool,J 0 (bare led))
   (F:∀ A':Around,A'.units ≤ A.units + 8 → aXZ prog w A' s.heap s.heap.objs.size vs J)
   (h:∀ (h':Heap) (tk:Nat) (o:Obj),(∀ b u,s.heap.get? b = some u → h'.get? b = some u) → h'.get? s.heap.objs.size = some o → J vs.length o → Q (.ref s.heap.objs.size) { s with heap:=h',toks:=tk }) :
   wpAny (model prog w) A (call (.type "set") [.ref l]) Q E s:=by
 refine aZK fun led => ?_
 obtain ⟨⟨ocls,odict,odata,oslots⟩,hol,hcl,nl,hdl⟩:=id hl
 obtain rfl:ocls = .type "list" := hcl
 obtain rfl:odata = .seq vs.toArray nl:=hdl
 have hb:(s.heap.push (bare led)).get? s.heap.objs.size = some (bare led):=Ar _ rfl
 have hol':(s.heap.push (bare led)).get? l = some { cls:=.type "list",dict:=odict,data:=.seq vs.toArray nl,slots:=oslots }:=Ae _ hol
 have hl1:(s.heap.push (bare led)).IsList l vs.toArray:=⟨_,hol',rfl,nl,rfl⟩
 have g1:=PySem.F.sub_list_set
 have g2:=PySem.F.sub_list_frozenset
 have g3:(Value.type "list" == Value.type "dict") = false:=by decide
 unfold bare at hb hol' hl1
 unfold bare Builtin.«set.__init__» noKeywords Builtin.Frozenset.updateFrom
 generalize hPI:pyIter = PI
 wp_walk
 subst hPI
 refine Gc hl1 (Ac (wpAny_runValue ?_))
 have hlS:l < s.heap.objs.size:=An hol
 have none_at:∀ b,s.heap.objs.size ≤ b → s.heap.get? b = none:=fun b hb' => by
   cases e:s.heap.get? b with
   | none => rfl
   | some u => exact absurd (An e) (Nat.not_lt.mpr hb')
 refine oE (A:=A.in1.in1) (old:=s.heap) (l:=l) (vs:=vs) (J:=J) (F _ (by show A.units + 1 + 1 + 1 ≤ A.units + 8; omega)) hh (Bd hlS) ?_ ?_ (none_at _ (Ai _)) (none_at _ ?_) vs.length 0 _ (bare led) rfl ⟨_,Ar _ rfl,rfl,rfl⟩ (hl1.push _)
   (fun b u e => Ae _ (Ae _ e)) (Ae _ hb) (j0 led) fun h' tk o' k1 k2 k3 => ?_
 · rw [Ga]; exact Fz (Nat.lt_succ_self _)
 · rw [Ga]; exact Bd (Nat.lt_succ_of_lt hlS)
 · rw [Ga]; exact Fv _
 · exact Ah (Ah ⟨rfl,h h' tk o' k1 k2 k3⟩)
end
theorem mP {acc:List Str} {z:Str}:(step_dedup acc z).length = if acc.any (· == z) then acc.length else acc.length + 1:=by
 unfold step_dedup
 split <;> simp
theorem zN (acc:List Str) (z k:Str):(step_dedup acc z).any (· == k) = (acc.any (· == k) || decide (k = z)):=by
 unfold step_dedup
 split
 · rename_i h
   by_cases e:k = z
   · rw [e,h,Ap rfl]; rfl
   · rw [Av e,Bool.or_false]
 · rw [List.any_append]
   by_cases e:k = z
   · rw [e,decide_eq_true rfl]; simp
   · rw [decide_eq_false e,show [z].any (· == k) = false by simp [Ne.symm e]]
theorem bQ3 {vs:List Value} {zs:List Str} (h:StrsAre vs zs):∀ {i:Nat} {v:Value},vs[i]? = some v → ∃ z t,zs[i]? = some z ∧ v = .str z t:=by
 induction h with
 | nil => intro i v e; cases e
 | cons z t _ ih =>
   intro i v e
   cases i with
   | zero => cases e; exact ⟨z,t,rfl,rfl⟩
   | succ i => exact ih e
def tJ (prog:Program) (w:World) (S:Addr) (zs:List Str) (i:Nat) (o:Obj):Prop:=∀ h:Heap,h.get? S = some o → h.SetOf (PySem.strKind prog w) S (fun k => ((zs.take i).foldl step_dedup []).any (· == k)) ((zs.take i).foldl step_dedup []).length
theorem aXA (zs:List Str):(zs.foldl step_dedup []).length ≤ zs.length:=by
 have g:∀ (zs acc:List Str),(zs.foldl step_dedup acc).length ≤ acc.length + zs.length:=fun zs => by
   induction zs with
   | nil => intro acc; exact Ai _
   | cons z r ih =>
     intro acc
     have h1:=ih (step_dedup acc z)
     have h2:=mP (acc:=acc) (z:=z)
     rw [List.foldl_cons,Bn]
     split at h2 <;> omega
 have:=g zs []
 simpa using this
theorem tP {prog:Program} {w:World} {A:Around} {old:Heap} {S:Addr} {vs:List Value} {zs:List Str} (hz:StrsAre vs zs) (hl:zs.length ≤ 1000):aXZ prog w A old S vs (tJ prog w S zs):=by
 intro i v s o E Q hv _ hS hJ q
 obtain ⟨z,t,ez,rfl⟩:=bQ3 hz hv
 have hroom:((zs.take i).foldl step_dedup []).length + 1 < scanBound:=by
   have h1:=aXA (zs.take i)
   rw [Bl] at h1
   unfold scanBound
   omega
 unfold setAdd
 refine Bu (Ac ((PySem.strKind prog w).pyHash (k:=z) (strKind_is _ _ _ _) ?_))
 refine wpAny_setAddHashed_of (knd:=PySem.strKind prog w) (s:={ s with toks:=s.toks + 1 }) (strKind_is _ _ _ _) rfl (hJ s.heap hS) hroom fun h' sb hS2 => ?_
 obtain ⟨o',es,ep,tb,ho',rest⟩:=hS2
 refine q _ h' _ o' sb ho' fun h hh => PyProof.Rows.SetOf_congr ⟨o',es,ep,tb,hh,rest⟩ (fun k => ?_) ?_
 · rw [Bb,ez,List.foldl_append]
   exact (zN _ z k).symm
 · rw [Bb,ez,List.foldl_append]
   exact (mP (acc:=(zs.take i).foldl step_dedup []) (z:=z)).symm
theorem zZ {prog:Program} {w:World} {S:Addr} {zs:List Str} (led:Bool):tJ prog w S zs 0 (bare led):=fun h hh => (setObjOf_fresh (knd:=PySem.strKind prog w) led).setOf hh (by unfold scanBound; omega)
end L2
set_option maxHeartbeats 4000000
namespace L2
open PySem PySem.Spec PyProof.Rows
def mH (a:Addr) (n:Nat):HO:=.ext fun h => ∃ o es ep t,h.get? a = some o ∧ o.ExactSet ∧ o.data = .set es ep t ∧ t.fits es.size = true ∧ es.size = n
def oX (zs:List Str):Nat:=(zs.foldl step_dedup []).length
theorem sF {zs:List Str} (h:zs.Nodup):oX zs = zs.length:=by
 have g:∀ (zs acc:List Str),zs.Nodup → (∀ z ∈ zs,z ∉ acc) → zs.foldl step_dedup acc = acc ++ zs:=by
   intro zs
   induction zs with
   | nil => intro acc _ _; simp
   | cons z r ih =>
     intro acc nd ha
     have n1:=Bq.mp nd
     have e:step_dedup acc z = acc ++ [z]:=by
       unfold step_dedup
       rw [if_neg]
       rw [Gj]
       rintro ⟨x,hx,hxz⟩
       exact ha z Aq (by rw [← Gw hxz]; exact hx)
     rw [List.foldl_cons,e,ih _ n1.2 fun y hy hm => ?_,List.append_assoc]
     · rfl
     · rcases Bk.mp hm with m | m
       · exact ha y (Al _ hy) m
       · rw [As.mp m] at hy
         exact n1.1 hy
 unfold oX
 rw [g zs [] h fun z _ => (fun m => nomatch m)]
 rfl
def bZV:List V → Hp → VK → Prop:=fun xs H Q => ∃ (p:Addr) (zs:List Str),xs = [.ref p] ∧ rdL H p = some (zs.map V.str) ∧ zs.length ≤ 1000 ∧ ∀ r,H r = none → Q (.ref r) (upd H r (mH r (oX zs)))
theorem cX0 {X:Cx} (hc:X.calm = true):CallR X (.type "set") bZV:=by
 intro pins s σ H xs us Q I r h
 obtain ⟨p,zs,rfl,hp,hl,q⟩:=h
 obtain ⟨u,rfl,ru⟩:=eL r
 cases ru
 obtain ⟨its,rv,pl,hz⟩:=I.list (aO hp)
 have hlen:=rv.length
 rw [Ab] at hlen
 refine rP (I.ok.hd hc) pl.isList (J:=tJ X.prog X.w s.heap.objs.size zs) zZ (fun A' _ => tP (vF rv) hl) fun h' tk o hk ho hJ => ?_
 obtain ⟨o,es,ep,t,ho,hex,hd,_,_,_,hf,hn⟩:=hJ h' ho
 rw [show zs.take its.length = zs by rw [← hlen]; exact Bo ..] at hn
 have hfresh:H s.heap.objs.size = none:=I.hok.fresh (Ai _)
 have I1:Inv X pins σ H { s with heap:=h',toks:=tk }:=I.kept hk
 refine ⟨.ref s.heap.objs.size,_,I1.adopt (o:=mH s.heap.objs.size (oX zs)) (I.freAt (Ai _)) hfresh ?_,rfl,q _ hfresh⟩
 exact ⟨⟨o,es,ep,t,ho,hex,hd,hf,hn⟩,⟨o,ho⟩,fun h1 h2 ⟨o,es,ep,t,g,r⟩ k => ⟨o,es,ep,t,k o g,r⟩⟩
def wH:List V → Hp → VK → Prop:=fun xs H Q => ∃ (p:Addr) (n:Nat),xs = [.ref p] ∧ H p = some (mH p n) ∧ n ≤ 1000 ∧ Q (.int (n:Int)) H
theorem aZ3 {X:Cx}:CallR X (.builtin "len") wH:=by
 intro pins s σ H xs us Q I r h
 obtain ⟨p,n,rfl,hp,hn,q⟩:=h
 obtain ⟨u,rfl,ru⟩:=eL r
 cases ru
 obtain ⟨o,es,ep,t,ho,hex,hd,hf,he⟩:=(I.hok p _ hp).1
 refine call_len_set ho hex hd hf (by rw [he]; omega) ?_
 rw [he]
 exact ⟨.int (n:Int),H,I.tok _,⟨_,rfl⟩,q⟩
theorem bJ7 {H:Hp} {Q:VK} {p:Addr} {zs:List Str} (e:rdL H p = some (zs.map V.str)) (hl:zs.length ≤ 1000) (h:∀ r,H r = none → Q (.ref r) (upd H r (mH r (oX zs)))):bZV [.ref p] H Q:=⟨p,zs,rfl,e,hl,h⟩
theorem aZV {H:Hp} {Q:VK} {p:Addr} {n:Nat} (e:H p = some (mH p n)) (hn:n ≤ 1000) (h:Q (.int (n:Int)) H):wH [.ref p] H Q:=⟨p,n,rfl,e,hn,h⟩
def aQS:List V → Hp → VK → Prop:=fun xs H Q => (∃ j:Int,xs = [.int j] ∧ ∀ r,H r = none → Q (.ref r) (upd H r (.rng 0 j))) ∨ (∃ i j:Int,xs = [.int i,.int j] ∧ ∀ r,H r = none → Q (.ref r) (upd H r (.rng i j)))
theorem Inv.rngNew {X:Cx} {pins:List (Addr × Obj)} {σ:St} {H:Hp} {s:Shared} {lo hi:Int} {t u v:Tok} {tk:Nat} (I:Inv X pins σ H s) :
   Inv X pins σ (upd H s.heap.objs.size (.rng lo hi)) { s with heap:=s.heap.push { cls:=.type "range",data:=.fields #[.int lo t,.int hi u,.int 1 v] },toks:=tk } :=
 (I.kept (t':=tk) fun b o e => Ae _ e).adopt (I.freAt (Ai _)) (I.hok.fresh (Ai _)) ⟨t,u,v,Ar _ rfl⟩
theorem qN {X:Cx}:CallR X (.type "range") aQS:=by
 intro pins s σ H xs us Q I r h
 rcases h with ⟨j,rfl,q⟩ | ⟨i,j,rfl,q⟩
 · obtain ⟨u,rfl,⟨t,rfl⟩⟩:=eL r
   exact call_range_1 ⟨.ref _,_,I.rngNew,rfl,q _ (I.hok.fresh (Ai _))⟩
 · obtain ⟨u,w',rfl,⟨t,rfl⟩,⟨t',rfl⟩⟩:=oZ r
   exact call_range_2 ⟨.ref _,_,I.rngNew,rfl,q _ (I.hok.fresh (Ai _))⟩
theorem pQ {H:Hp} {Q:VK} {j:Int} (h:∀ r,H r = none → Q (.ref r) (upd H r (.rng 0 j))):aQS [.int j] H Q:=.inl ⟨j,rfl,h⟩
theorem bX5 {H:Hp} {Q:VK} {i j:Int} (h:∀ r,H r = none → Q (.ref r) (upd H r (.rng i j))):aQS [.int i,.int j] H Q:=.inr ⟨i,j,rfl,h⟩
theorem zM (lo hi i:Int):(Builtin.Range.rangePlace? lo hi 1 i).isSome = decide (lo ≤ i ∧ i < hi):=by
 unfold Builtin.Range.rangePlace?
 simp only [show (1:Int) > 0 by decide,if_true,Int.emod_one]
 by_cases h:lo ≤ i ∧ i < hi
 · rw [Ap h]
   simp [h.1,h.2]
 · rw [Av h]
   have:(decide (lo ≤ i) && decide (i < hi)) = false:=by
     rw [Bool.and_eq_false_iff]
     by_cases h1:lo ≤ i
     · exact .inr (Av fun h2 => h ⟨h1,h2⟩)
     · exact .inl (Av h1)
   simp [this]
def wM:V → V → Hp → VK → Prop:=fun x y H Q => ∃ (i:Int) (p:Addr) (lo hi:Int),x = .int i ∧ y = .ref p ∧ H p = some (.rng lo hi) ∧ Q (.bl (!decide (lo ≤ i ∧ i < hi))) H
theorem sG {X:Cx}:OpR X (compareOp .NotIn) wM:=by
 intro pins s σ H x y v u Q I rx ry h
 obtain ⟨i,p,lo,hi,rfl,rfl,hp,q⟩:=h
 obtain ⟨t,rfl⟩:=rx
 cases ry
 obtain ⟨t0,t1,t2,ho⟩:=I.hok p _ hp
 have hT:s.TypeIs (.ref p) "range" := ⟨_,ho,rfl⟩
 show wpAny _ _ (do return Value.bool (!(← contains (.ref p) (.int i t)))) _ _ s
 refine Ac ?_
 unfold contains
 try with_reducible refine Bu ?_
 refine Ac (Fo hT F.slot_range_contains.lookup ?_)
 show wpAny _ _ (if (some (Value.builtin "range.__contains__") == some Value.none) = true then _ else _) _ _ s
 rw [if_neg (by rw [beq_builtin_none]; exact Ao)]
 refine Ac (wpAny_callSpecialUnlessNone?_slot (name:=Str.ofString "__contains__") hT F.slot_range_contains
   (Cu F.slot_range_contains hT F.entry_range_contains ?_ (F.args_range_contains_2 _ _)))
 unfold Builtin.«range.__contains__»
 show wpAny _ _ (rule _ >>= _) _ _ s
 refine Ac (wpAny_rule (Ac ?_))
 unfold Builtin.Range.rangeFields
 refine Ac (Df (x:=.int lo t0) ho rfl rfl ?_)
 refine Ac (Ah (Ac (Df (x:=.int hi t1) ho rfl rfl ?_)))
 refine Ac (Ah (Ac (Df (x:=.int 1 t2) ho rfl rfl ?_)))
 refine Ac (Ah (Ah ?_))
 show wpAny _ _ (ret (Value.bool (Builtin.Range.rangePlace? lo hi 1 i).isSome)) _ _ s
 rw [zM]
 exact Ah ⟨_,rfl,Eu (Ah ⟨.bl _,H,I,rfl,q⟩)⟩
theorem rF {H:Hp} {Q:VK} {i lo hi:Int} {p:Addr} (e:H p = some (.rng lo hi)) (h:Q (.bl (!decide (lo ≤ i ∧ i < hi))) H):wM (.int i) (.ref p) H Q:=⟨i,p,lo,hi,rfl,rfl,e,h⟩
end L2
set_option maxHeartbeats 4000000
namespace L2
open PySem PySem.Spec PyProof.Rows
def aZC:List V → Hp → VK → Prop:=fun xs H Q => ∃ (a:Addr) (n:Nat),xs = [.ref a] ∧ H a = some (.rng 0 (n:Int)) ∧ n ≤ 100000 ∧ ∀ r,H r = none → Q (.ref r) (upd H r (.lst ((List.range n).map fun i => V.int ((i:Nat):Int))))
theorem xC {X:Cx} (hc:X.calm = true):CallR X (.type "list") aZC:=by
 intro pins s σ H xs us Q I r h
 obtain ⟨a,n,rfl,ha,hn,q⟩:=h
 obtain ⟨u,rfl,ru⟩:=eL r
 cases ru
 obtain ⟨t0,t1,t2,ho⟩:=I.hok a _ ha
 refine call_list_range (n:=n) (I.ok.hd hc) ho (small_one (by decide) (by decide) (by omega) (by omega)) (by rw [rangeSize_nat]; omega) (by omega) fun h' tk acc c hk hS hacc => ?_
 refine ⟨.ref s.heap.objs.size,_,I.laid (a:=s.heap.objs.size) (o:=.lst ((List.range n).map fun i => V.int ((i:Nat):Int))) (t':=tk) hk (Ai _) ⟨by rw [Ab,Bj]; exact bX hn,acc.toList,c,?_,by rw [hS]⟩,rfl,q _ (I.hok.fresh (Ai _))⟩
 refine pN (by rw [Ab,Bj,Bt,hacc.1]) fun j x u hx hu => ?_
 obtain ⟨tk',rfl⟩:=hacc.2 j u (by rw [← Cc]; exact hu)
 have hj:j < n:=by
   have:=(Ad.mp hu).1
   rw [Bt,hacc.1] at this
   exact this
 rw [Ag,List.getElem?_range hj] at hx
 cases hx
 exact ⟨tk',by rw [show (0:Int) + ((j:Nat):Int) * 1 = ((j:Nat):Int) by omega]⟩
theorem wU {H:Hp} {Q:VK} {a:Addr} {n:Nat} (ha:H a = some (.rng 0 (n:Int))) (hn:n ≤ 100000) (h:∀ r,H r = none → Q (.ref r) (upd H r (.lst ((List.range n).map fun i => V.int ((i:Nat):Int))))):aZC [.ref a] H Q:=⟨a,n,rfl,ha,hn,h⟩
theorem aXF {P:Program} {w:World} {K:PySem.W.Frag} {mg:Str → Option Value} {base:Heap} {f:Addr} {fd:FuncData} {ps:List Str} {x:Str} (sp:Nat → Sp) (h0:∀ vs H Q E,¬ sp 0 vs H Q E) (hm:mg x = some (.ref f)) (hk:PySem.W.keepIn K (.ref f) = true) (hb:Binds K fd ps [])
   (st:∀ d n,Cal P w K mg base (d + 1) x ps (sp n) → FnOk P w K mg base CX0 (d + 2) f fd ps (sp (n + 1))):∀ n,FnOk P w K mg base CX0 (n + 1) f fd ps (sp n)
 | 0 => ⟨fun vs H Q E h => (h0 _ _ _ _ h).elim,fun A outer s H args us vs Q E _ _ _ _ h => (h0 _ _ _ _ h).elim⟩
 | n + 1 => st n n ⟨f,fd,aXF sp h0 hm hk hb st n,hm,hk,hb⟩
theorem Lsts.app {H1 Hc:Hp} {ps qs:List Addr} {fs gs:List (List V)} (t:Lsts H1 Hc ps fs) (u:Lsts H1 Hc qs gs):Lsts H1 Hc (ps ++ qs) (fs ++ gs):=by
 refine ⟨by rw [Am,Am,t.1,u.1],fun j p v hp hv => ?_⟩
 by_cases h:j < ps.length
 · rw [Ay h] at hp
   rw [Ay (by rw [← t.1]; exact h)] at hv
   exact t.2 j p v hp hv
 · rw [Bf (by omega)] at hp
   rw [Bf (by rw [← t.1]; omega),← t.1] at hv
   exact u.2 _ p v hp hv
section
variable {g:TG} {tests:TT} {te:TE} {σ0:St} {Q:VK} {H1:Hp}
theorem wI {K:PySem.W.Frag} {a:Addr} {xs:List V} (f:Nat → List V) (ha:rdL H1 a = some xs) (hl:xs.length < sizeLine)
   (hs:∀ (i:Nat) x Hc (A:VK) (B:Hp → Prop),xs[i]? = some x → Same H1 Hc → (∀ q Hd,Hc q = none → Same Hc Hd → Hd q = some (.lst (f i)) → A (.ref q) Hd) →
     g x σ0 Hc fun σ2 H2 => Wk σ0 σ2 ∧ tests σ2 H2 fun b H3 => if b = true then te σ2 H3 A else B H3)
   (fin:∀ D Hd ps,H1 D = none → Same H1 Hd → Hd D = some (.lst (ps.map V.ref)) → ps.length = xs.length → Lsts H1 Hd ps ((List.range xs.length).map f) → (∀ p ∈ ps,p ≠ D) → Q (.ref D) Hd):eM g tests te σ0 Q (Itl K a) H1:=by
 refine eS (n:=xs.length) (fun D i ys Hc => Same H1 Hc ∧ ∃ ps,ys = ps.map V.ref ∧ ps.length = i ∧ Lsts H1 Hc ps ((List.range i).map f) ∧ ∀ p ∈ ps,p ≠ D) hl (fun D hD => ⟨aD hD _,[],rfl,rfl,.nil,fun p hp => nomatch hp⟩)
   (fun D i ys Hc _ r h => ⟨xs,xs[i],aO (aH r.1 ha),by simp [h]⟩) (fun D ys Hc _ r => ⟨xs,aO (aH r.1 ha),Nat.le_refl _⟩) ?_ ?_
 · rintro D i ys Hc x H' A B hD hi ⟨sm,ps,rfl,hn,ls,nd⟩ hDc ⟨rfl,hz⟩ ha' hb
   refine hs i x H' A B (hz xs (aO (aH sm ha))) sm (fun q Hd hq sd hd => ?_)
   have nq:q ≠ D:=fun z => by rw [z,hDc] at hq; cases hq
   have nd2:∀ p ∈ ps ++ [q],p ≠ D:=fun p hp => by
     rcases Bk.mp hp with e | e
     · exact nd p e
     · rw [As.mp e]; exact nq
   refine ha' _ _ (sd _ _ hDc) ⟨bA hD (sm.trans sd),ps ++ [q],by rw [Aj]; rfl,by rw [Am,hn]; rfl,?_,nd2⟩
   rw [Ck,Aj]
   exact ((ls.keep sd).snoc (none_of sm hq) hd).put nd2
 · rintro D ys Hc hD ⟨sm,ps,rfl,hn,ls,nd⟩ hDc _
   exact fin D Hc ps hD sm hDc hn ls nd
theorem aJV {K:PySem.W.Frag} {a:Addr} {xs:List V} (f:Nat → List V) (ha:rdL H1 a = some xs) (hl:xs.length < sizeLine)
   (hs:∀ (i:Nat) x Hc (A:VK) (B:Hp → Prop),xs[i]? = some x → Same H1 Hc → (∀ q Hd,Hc q = none → Same Hc Hd → Hd q = some (.tup (f i)) → A (.ref q) Hd) →
     g x σ0 Hc fun σ2 H2 => Wk σ0 σ2 ∧ tests σ2 H2 fun b H3 => if b = true then te σ2 H3 A else B H3)
   (fin:∀ D Hd ps,H1 D = none → Same H1 Hd → Hd D = some (.lst (ps.map V.ref)) → ps.length = xs.length → Tups H1 Hd ps ((List.range xs.length).map f) → Q (.ref D) Hd):eM g tests te σ0 Q (Itl K a) H1:=by
 refine eS (n:=xs.length) (fun D i ys Hc => Same H1 Hc ∧ ∃ ps,ys = ps.map V.ref ∧ ps.length = i ∧ Tups H1 Hc ps ((List.range i).map f)) hl (fun D hD => ⟨aD hD _,[],rfl,rfl,.nil⟩)
   (fun D i ys Hc _ r h => ⟨xs,xs[i],aO (aH r.1 ha),by simp [h]⟩) (fun D ys Hc _ r => ⟨xs,aO (aH r.1 ha),Nat.le_refl _⟩) ?_ ?_
 · rintro D i ys Hc x H' A B hD hi ⟨sm,ps,rfl,hn,tp⟩ hDc ⟨rfl,hz⟩ ha' hb
   refine hs i x H' A B (hz xs (aO (aH sm ha))) sm (fun q Hd hq sd hd => ?_)
   refine ha' _ _ (sd _ _ hDc) ⟨bA hD (sm.trans sd),ps ++ [q],by rw [Aj]; rfl,by rw [Am,hn]; rfl,?_⟩
   rw [Ck,Aj]
   exact ((tp.keep sd).app (.one (none_of sm hq) hd)).put (sd _ _ hDc)
 · rintro D ys Hc hD ⟨sm,ps,rfl,hn,tp⟩ hDc _
   exact fin D Hc ps hD sm hDc hn tp
end
end L2
set_option maxHeartbeats 1000000
namespace L2
open PySem
def eR (mask:Nat) (x:Nat × Nat):Nat → Nat × Nat
 | 0 => x
 | n + 1 => eR mask (SetTable.leap mask x.1 x.2) n
theorem pI (mask m:Nat):∀ (n:Nat) (x:Nat × Nat),eR mask x (n + m) = eR mask (eR mask x n) m
 | 0,x => by rw [Nat.zero_add]; rfl
 | n + 1,x => by rw [Nat.succ_add]; exact pI mask m n _
theorem oY (mask:Nat):∀ (n:Nat) (x:Nat × Nat),(eR mask x n).2 = x.2 / 32 ^ n
 | 0,x => by show x.2 = x.2 / 1; rw [Nat.div_one]
 | n + 1,x => by
   show (eR mask (SetTable.leap mask x.1 x.2) n).2 = _
   rw [oY mask n]
   show x.2 / 32 / 32 ^ n = _
   rw [Nat.div_div_eq_div_mul,Nat.pow_succ,Nat.mul_comm]
def cyc (M:Nat):Nat → Nat
 | 0 => 0
 | n + 1 => (cyc M n * 5 + 1) % M
theorem kN (mask:Nat):∀ (n a:Nat),(eR mask (cyc (mask + 1) a,0) n) = (cyc (mask + 1) (a + n),0)
 | 0,a => rfl
 | n + 1,a => by
   show eR mask (SetTable.leap mask (cyc (mask + 1) a) 0) n = _
   have e:SetTable.leap mask (cyc (mask + 1) a) 0 = (cyc (mask + 1) (a + 1),0):=by
     show ((cyc (mask + 1) a * 5 + 1 + 0 / 32) % (mask + 1),0 / 32) = _
     rw [Nat.zero_div,Nat.add_zero]
     rfl
   rw [e,kN mask n (a + 1),Nat.add_right_comm,Nat.add_assoc]
def Full (M:Nat):Prop:=cyc M M = 0 ∧ ∀ e,e < M → ∃ n,n < M ∧ cyc M n = e
theorem xA (M:Nat) (h:cyc M M = 0):∀ n,cyc M (M + n) = cyc M n
 | 0 => h
 | n + 1 => by
   show (cyc M (M + n) * 5 + 1) % M = _
   rw [xA M h n]
   rfl
theorem Full.reach {mask:Nat} (F:Full (mask + 1)) {x e:Nat} (hx:x < mask + 1) (he:e < mask + 1):∃ m,m ≤ mask ∧ (eR mask (x,0) m).1 = e:=by
 obtain ⟨a,ha,rfl⟩:=F.2 x hx
 obtain ⟨b,hb,rfl⟩:=F.2 e he
 by_cases h:a ≤ b
 · exact ⟨b - a,by omega,by rw [kN,Nat.add_sub_cancel' h]⟩
 · exact ⟨mask + 1 + b - a,by omega,by rw [kN,show a + (mask + 1 + b - a) = mask + 1 + b by omega,xA _ F.1]⟩
theorem wF {mask:Nat}:∀ (n:Nat) {x:Nat × Nat},x.1 < mask + 1 → (eR mask x n).1 < mask + 1
 | 0,x,h => h
 | n + 1,x,h => wF n (x:=SetTable.leap mask x.1 x.2) (Nat.mod_lt _ (Nat.succ_pos _))
theorem dQ2 {mask:Nat} (F:Full (mask + 1)) {i per e:Nat} (hi:i < mask + 1) (hp:per < 2 ^ 64) (he:e < mask + 1):∃ m,m ≤ mask + 13 ∧ (eR mask (i,per) m).1 = e:=by
 obtain ⟨m,hm,e1⟩:=F.reach (x:=(eR mask (i,per) 13).1) (wF 13 hi) he
 refine ⟨13 + m,by omega,?_⟩
 rw [pI]
 have hz:(eR mask (i,per) 13).2 = 0:=by
   rw [oY]
   exact Nat.div_eq_of_lt (Az hp (by decide))
 rw [show eR mask (i,per) 13 = ((eR mask (i,per) 13).1,0) from Prod.ext rfl hz]
 exact e1
section
variable {prog:Program} {w:World} {A:Around} {E:Value → Shared → Prop} {s:Shared}
end
end L2
set_option maxHeartbeats 4000000
namespace L2
open PySem PySem.Spec PyProof.Rows
section
variable {X:Cx} {a b:Expr} {rest:List Expr} {pos:Pos} {ta tb:TE}
end
end L2
set_option maxHeartbeats 4000000
namespace L2
open PySem PySem.Spec PyProof.Rows
open PySem.AutoSeq1 (wpAny_loadPart')
open PySem.MeetsSeq PySem.MeetsSeq2 PySem.MeetsSeq3
def ltZ:List Int → List Int → Bool
 | [],[] => false
 | [],_ :: _ => true
 | _ :: _,[] => false
 | a :: r,b :: s => if a = b then ltZ r s else decide (a < b)
theorem jT {vs:List Value} {ns:List Int} (h:IntsAre vs ns):vs.length = ns.length ∧ ∀ {i:Nat} {n:Int},ns[i]? = some n → ∃ t,vs[i]? = some (.int n t):=by
 induction h with
 | nil => exact ⟨rfl,fun e => by cases e⟩
 | cons m t _ ih =>
   refine ⟨by rw [Bn,Bn,ih.1],fun {i n} e => ?_⟩
   cases i with
   | zero => cases e; exact ⟨t,rfl⟩
   | succ i => exact ih.2 e
theorem aZZ {P:Program} {w:World} {A:Around} {E:Value → Shared → Prop} {s:Shared} {a b:Int} {t u:Tok} {Q:Value → Shared → Prop} (hu:A.units < cLine) (h:Q (.bool (decide (a < b))) s):wpAny (model P w) A (richCompare .Lt (.int a t) (.int b u)) Q E s :=
 Dv (op:=.Lt) (typeIs_int s a t) (typeIs_int s b u) slot_int_lt (call_int_lt ⟨(fun x => nomatch x),h⟩) hu
theorem aQ7 {P:Program} {w:World} (l b:Addr) (xs ys:Array Value) (as bs:List Int) (n n2:Nat) (dd dd2:Option Addr) (sl sl2:Array (Option Value)) (ix:IntsAre xs.toList as) (iy:IntsAre ys.toList bs):∀ (k i:Nat),as.length - i = k → i ≤ as.length → i ≤ bs.length →
   MeetsIn P w (Builtin.«list.__eq__.loop» ⟨[.ref l,.ref b,rawInt i,rawInt 0],[]⟩)
     (fun A R s => A.units + 1 < cLine ∧ s.heap.get? l = some ⟨.type "list",dd,.seq xs n,sl⟩ ∧ s.heap.get? b = some ⟨.type "list",dd2,.seq ys n2,sl2⟩ ∧ R (.ok (.ret (.bool (ltZ (as.drop i) (bs.drop i))))) s):=by
 have lx:xs.size = as.length:=by rw [← Bt]; exact (jT ix).1
 have ly:ys.size = bs.length:=by rw [← Bt]; exact (jT iy).1
 intro k
 induction k with
 | zero =>
   intro i hk hi hj A R s h
   obtain ⟨hp,g,d,tk,os⟩:=s
   obtain ⟨hu,ha,hq,h⟩:=h
   wp_walk using (Au ha),(Au hq)
   have n1:xs[((i:Nat):Int).toNat]? = none:=by simp; omega
   rw [n1]
   wp_walk using (Au ha),(Au hq)
   have e:ltZ (as.drop i) (bs.drop i) = decide (xs.size < ys.size):=by
     rw [Gf (by omega),lx,ly]
     cases eb:bs.drop i with
     | nil =>
       have:=Cp List.length eb
       rw [Cf,List.length_nil] at this
       exact (Av (by omega)).symm
     | cons y r =>
       have:=Cp List.length eb
       rw [Cf,Bn] at this
       exact (Ap (by omega)).symm
   rw [e] at h
   exact h
 | succ k ih =>
   intro i hk hi hj A R s h
   obtain ⟨hp,g,d,tk,os⟩:=s
   obtain ⟨hu,ha,hq,h⟩:=h
   have hia:i < as.length:=by omega
   obtain ⟨t,hx⟩:=(jT ix).2 (Aa hia)
   have n1:xs[((i:Nat):Int).toNat]? = some (.int as[i] t):=by rw [Dc,← Cc]; exact hx
   by_cases hib:i < bs.length
   · obtain ⟨u,hy⟩:=(jT iy).2 (Aa hib)
     have n2':ys[((i:Nat):Int).toNat]? = some (.int bs[i] u):=by rw [Dc,← Cc]; exact hy
     have hc:((i:Int) + 1) = ((i + 1:Nat):Int):=by omega
     rw [Dh hia,Dh hib] at h
     wp_walk using (Au ha),(Au hq)
     rw [n1,n2']
     refine Ac (Fs as[i] t bs[i] u P w _ _ ?_)
     by_cases e:as[i] = bs[i]
     · rw [show ltZ (as[i] :: as.drop (i + 1)) (bs[i] :: bs.drop (i + 1)) = ltZ (as.drop (i + 1)) (bs.drop (i + 1)) from if_pos e] at h
       rw [show (as[i] == bs[i]) = true from beq_iff_eq.mpr e]
       wp_walk
       rw [hc]
       refine ⟨Ep plain_eq_loop _,Dt entry_eq_loop ?_⟩
       rw [Cv plain_eq_loop _]
       exact ih (i + 1) (by omega) (by omega) (by omega) A R _ ⟨hu,ha,hq,h⟩
     · rw [show ltZ (as[i] :: as.drop (i + 1)) (bs[i] :: bs.drop (i + 1)) = decide (as[i] < bs[i]) from if_neg e] at h
       rw [show (as[i] == bs[i]) = false from Dd.mpr e]
       wp_walk using (Au ha),(Au hq)
       rw [n1,n2']
       refine Ac (aZZ (A:=A.in1) (show A.units + 1 < cLine from hu) ?_)
       wp_walk
       exact h
   · have hib':i = bs.length:=by omega
     have n2':ys[((i:Nat):Int).toNat]? = none:=by simp; omega
     wp_walk using (Au ha),(Au hq)
     rw [n1,n2']
     wp_walk using (Au ha),(Au hq)
     have e:ltZ (as.drop i) (bs.drop i) = decide (xs.size < ys.size):=by
       rw [Gf (show bs.length ≤ i by omega),Dh hia,lx,ly]
       exact (Av (by omega)).symm
     rw [e] at h
     exact h
section
variable {P:Program} {w:World} {A:Around} {E:Value → Shared → Prop} {s:Shared} {l b:Addr} {xs ys:Array Value} {as bs:List Int}
theorem aZL {Q:Value → Shared → Prop} (hl:s.heap.IsList l xs) (hb:s.heap.IsList b ys) (ix:IntsAre xs.toList as) (iy:IntsAre ys.toList bs) (hu:A.units + 1 < cLine) (h:Q (.bool (ltZ as bs)) s) :
   wpAny (model P w) A (call (.builtin "list.__lt__") [.ref l,.ref b]) Q E s:=by
 obtain ⟨⟨cls,dd,data,sl⟩,ho,hc,n,hd⟩:=id hl
 obtain ⟨⟨cls2,dd2,data2,sl2⟩,ho2,hc2,n2,hd2⟩:=id hb
 obtain rfl:cls = .type "list" := hc
 obtain rfl:data = .seq xs n:=hd
 obtain rfl:cls2 = .type "list" := hc2
 obtain rfl:data2 = .seq ys n2:=hd2
 have g:MeetsIn P w (Builtin.«list.__lt__» ⟨[.ref l,.ref b],[]⟩) (fun A R s => A.units + 1 < cLine ∧ s.heap.get? l = some ⟨.type "list",dd,.seq xs n,sl⟩ ∧ s.heap.get? b = some ⟨.type "list",dd2,.seq ys n2,sl2⟩ ∧ R (.ok (.ret (.bool (ltZ as bs)))) s):=by
   intro A R s h
   obtain ⟨hp,g,d,tk,os⟩:=s
   obtain ⟨hu,ha,hq,h⟩:=h
   have f3:=Ge
   wp_walk using (Au ha),(Au hq)
   refine ⟨Ep plain_eq_loop _,Dt entry_eq_loop ?_⟩
   rw [Cv plain_eq_loop _]
   exact aQ7 l b xs ys as bs n n2 dd dd2 sl sl2 ix iy _ 0 rfl (By _) (By _) A R _ ⟨hu,ha,hq,h⟩
 exact El PySem.F.slot_list_lt ⟨_,ho,rfl⟩ PySem.F.entry_list_lt (PySem.F.args_list_lt_2 _ _) g ⟨hu,ho,ho2,h⟩
theorem bQ7 {Q:Bool → Shared → Prop} (hl:s.heap.IsList l xs) (hb:s.heap.IsList b ys) (ix:IntsAre xs.toList as) (iy:IntsAre ys.toList bs) (hu:A.units + 1 < cLine) (h:Q (ltZ as bs) s) :
   wpAny (model P w) A (keyLt' oneType' (.ref l) (.ref b)) Q E s:=by
 obtain ⟨o,ho,hc,_⟩:=id hl
 rw [keyLt'_oneType,oneLt'_eq]
 simp only [if_true]
 refine Ac (wpAny_cRoomFor (by omega) ?_)
 refine Ac (wpAny_callSpecialIfBound?_slot (T := "list") ⟨_,ho,hc⟩ PySem.F.slot_list_lt (aZL hl hb ix iy hu ?_))
 exact Eu h
end
open PySem.W (KasT kas_sort kas_cmp kas_item kas_item_eq kas_range kas_runs kas_kind kas_st)
def lU {α:Type} (lt:Nat → Nat → Bool):KasT α → α
 | .ret a => a
 | .ask i j k => lU lt (k (lt i j))
def kok {α:Type} (lt:Nat → Nat → Bool) (n:Nat):KasT α → Bool
 | .ret _ => true
 | .ask i j k => decide (i < n) && decide (j < n) && kok lt n (k (lt i j))
theorem nE {α:Type} {cmp:Nat → Nat → (Bool → Shared → Prop) → Shared → Prop} {lt:Nat → Nat → Bool} {n:Nat} {Q:α → Shared → Prop} {s:Shared} (hc:∀ i j C,i < n → j < n → C (lt i j) s → cmp i j C s):∀ t:KasT α,kok lt n t = true → Q (lU lt t) s → t.kasWp cmp Q s
 | .ret _,_,h => h
 | .ask i j k,o,h => by
   simp only [kok,Bool.and_eq_true,decide_eq_true_eq] at o
   exact hc i j _ o.1.1 o.1.2 (nE hc (k (lt i j)) o.2 h)
def dP (lt:Nat → Nat → Bool) (vs:List Value):List Value:=if vs.length < 2 then vs else (lU lt (kas_sort vs.length)).toList.map fun i => vs.getD i .none
def nO (h:Heap) (a:Addr) (vs:List Value):Heap:=((h.update a (Obj.mapSeq fun _ => (#[]:Array Value))).push (seqObj "tuple" vs.toArray 0)).push (seqObj "list" #[] 0)
theorem rC {h:Heap} {a b:Addr} {vs:List Value} {o:Obj} (ne:b ≠ a) (e:h.get? b = some o):(nO h a vs).get? b = some o :=
 Ae _ (Ae _ (((Fh h a _).2 b ne).trans e))
theorem vS {h:Heap} {a:Addr} {vs:List Value} {n:Nat} (e:h.get? a = some (seqObj "list" vs.toArray n)):∃ c,(h.update a (Obj.mapSeq fun _ => (#[]:Array Value))).get? a = some (seqObj "list" #[] c) ∧ (nO h a vs).get? a = some (seqObj "list" #[] c) :=
 ⟨_,get?_update_seq e fun _ => #[],Ae _ (Ae _ (get?_update_seq e fun _ => #[]))⟩
def aZ8 (h:Heap) (vs:List Value):Heap:=((h.push (seqObj "list" #[] 0)).update h.objs.size (Obj.mapSeq (· ++ vs.toArray))).push (seqObj "list" vs.toArray 0)
theorem kF (h:Heap) (vs:List Value):((h.push (seqObj "list" #[] 0)).update h.objs.size (Obj.mapSeq (· ++ vs.toArray))).objs.size = h.objs.size + 1:=(Heap.size_update ..).trans (size_push' ..)
theorem eI {h:Heap} {vs:List Value} {b:Addr} {o:Obj} (e:h.get? b = some o):(aZ8 h vs).get? b = some o ∧ b ≠ h.objs.size + 1 :=
 have l:b < h.objs.size:=An e
 ⟨Ae _ (((Fh _ _ _).2 b (Bd l)).trans (Ae _ e)),Bd (Nat.lt_succ_of_lt l)⟩
theorem jP (h:Heap) (vs:List Value):(aZ8 h vs).get? (h.objs.size + 1) = some (seqObj "list" vs.toArray 0):=by
 have e:(aZ8 h vs).get? ((h.push (seqObj "list" #[] 0)).update h.objs.size (Obj.mapSeq (· ++ vs.toArray))).objs.size = some (seqObj "list" vs.toArray 0):=Ar _ rfl
 rwa [kF] at e
theorem pA {lt:Nat → Nat → Bool} {vs:List Value} {p:Array Nat} (h2:¬ vs.length < 2) (e:p = lU lt (kas_sort vs.length)) (z:p.size = vs.length):(dP lt vs).length = vs.length ∧ dP lt vs = p.toList.map fun i => vs.getD i .none:=by
 unfold dP
 rw [if_neg h2,← e]
 exact ⟨by rw [Ab,Bt,z],rfl⟩
theorem jR (vs:List Value):(vs.toArray.zip vs.toArray).map (·.2) = vs.toArray:=Array.toList_inj.mp (by simp [List.map_snd_zip])
theorem oF (vs:List Value) (p:Array Nat):(p.map (kas_item (pairsOf vs))).map (·.2) = (p.toList.map fun i => vs.getD i .none).toArray:=by
 cases p with
 | mk l => simp only [List.map_toArray,List.map_map]; congr 1; exact List.map_congr_left fun i _ => congrArg Prod.snd (kas_item_eq vs i)
section
variable {prog:Program} {w:World} {A:Around} {E:Value → Shared → Prop} {s:Shared}
theorem qZ {lt:Nat → Nat → Bool} {a:Addr} {vs:List Value} {n:Nat} {P:PySem.Fin → Shared → Prop} (ho:s.heap.get? a = some (seqObj "list" vs.toArray n))
   (hT:∀ v ∈ vs,∃ b ys,v = .ref b ∧ b ≠ a ∧ s.heap.IsList b ys)
   (hlt:∀ h':Heap,(∀ b o,b ≠ a → s.heap.get? b = some o → h'.get? b = some o) → ∀ i j (C:Bool → Shared → Prop),i < vs.length → j < vs.length → C (lt i j) { s with heap:=h' } →
     wpAny (model prog w) A (keyLt' oneType' (vs.getD i .none) (vs.getD j .none)) C (fun _ _ => False) { s with heap:=h' })
   (h64:vs.length < 64) (hok:2 ≤ vs.length → kok lt vs.length (kas_sort vs.length) = true)
   (h:P (.done (.ret .none)) { s with heap:=sortedHeap s.heap a vs (dP lt vs).toArray }):wpAny (model prog w) A (Builtin.«list.sort» ⟨[.ref a],[]⟩) P E s:=by
 obtain ⟨c,e1,e6⟩:=vS ho
 have z:vs.length ≤ sizeLine:=Cz (aT (by omega))
 have zz:∀ out:Array Value,out.size ≤ 64 → out.size ≤ sizeLine + 1:=fun out q => Nat.le_succ_of_le (Cz (aT (by omega)))
 rw [list_sort_plain]
 refine Ac (listItems_at ho rfl (Ac (Fl ho rfl (Ac (Gv e1 rfl (Ac (wpAny_newTuple (Ac (Gr (Bu ?_) (By _))) z)))) z (By _))))
 change wpAny (model prog w) A _ P E { s with heap:=nO s.heap a vs }
 dsimp only
 replace h:P (.done (.ret .none)) { s with heap:=(nO s.heap a vs).update a (Obj.mapSeq fun _ => (dP lt vs).toArray) }:=h
 have old:∀ b o,b ≠ a → s.heap.get? b = some o → (nO s.heap a vs).get? b = some o:=fun _ _ => rC
 generalize nO s.heap a vs = hm at *
 by_cases h2:vs.length < 2
 · simp only [List.size_toArray,if_pos h2]
   refine Ac (Ah (Ac (wpAny_of_eq (StateT.run_pure ..) (Ac (Gv e6 rfl (Ac (Fl e6 rfl ?_ (By _) ?_)))))))
   all_goals rw [show (arrOf (SortSt.mk' general' (vs.toArray.zip vs.toArray) #[] 7 none)).map (·.2) = (dP lt vs).toArray from (jR vs).trans (Cp List.toArray (if_pos h2).symm)]
   · simp only [bne_self_eq_false,Bool.false_eq_true,if_false]
     exact Ah h
   · exact zz _ (by rw [Be,show dP lt vs = vs from if_pos h2]; omega)
 · have h2':2 ≤ vs.length:=Nat.le_of_not_lt h2
   simp only [List.size_toArray,if_neg h2]
   refine Ac (kas_kind (T:=.type "list") h2' (fun v hv A' Q' E' s' k q => ?_) (by decide) (by decide) ?_)
   · obtain ⟨b,ys,rfl,ne,o,g1,g2,_⟩:=hT v hv
     exact wpAny_typeOf (T := "list") ⟨o,k _ _ (old _ _ ne g1),g2⟩ q
   have fL:SortSt.mk' oneType' (vs.toArray.zip vs.toArray) #[] 7 none = kas_st oneType' (pairsOf vs) (List.toArray (List.range vs.length)):=by
     have e:=kas_range (pairsOf vs)
     rw [pairsOf_size] at e
     exact Cp (fun x => SortSt.mk' oneType' x #[] 7 none) e.symm
   rw [fL]
   refine Ac (Bv (kas_runs (Q:=fun _ st s' => ∃ p:Array Nat,p.size = vs.length ∧ p = lU lt (kas_sort vs.length) ∧ arrOf st = p.map (kas_item (pairsOf vs)) ∧ failedOf st = none ∧ s' = { s with heap:=hm }) (G:=fun p s' => s' = { s with heap:=hm } ∧ p = lU lt (kas_sort vs.length))
     h2' h64 (fun p st s' x1 x2 x3 x4 => ⟨p,x1,x4.2,x2,x3,x4.1⟩) (nE (lt:=lt) (n:=vs.length) (fun i j C hi hj hC => ?_) _ (hok h2') ⟨rfl,rfl⟩)) ?_ fun _ _ e => e)
   · unfold kas_cmp
     rw [kas_item_eq,kas_item_eq]
     exact hlt hm old i j C hi hj hC
   rintro ⟨_,st⟩ _ ⟨p,x1,x2,x3,x4,rfl⟩
   obtain ⟨y1,y2⟩:=pA h2 x2 x1
   have out:(arrOf st).map (·.2) = (dP lt vs).toArray:=by rw [x3,oF,y2]
   dsimp only
   rw [out]
   refine Ac (Gv e6 rfl (Ac (Fl e6 rfl ?_ (By _) (zz _ (by rw [Be,y1]; omega)))))
   rw [x4]
   simp only [bne_self_eq_false,Bool.false_eq_true,if_false]
   exact Ah h
theorem aQW {lt:Nat → Nat → Bool} {l:Addr} {vs:List Value} {Q:Value → Shared → Prop} (hl:s.heap.IsList l vs.toArray)
   (hT:∀ v ∈ vs,∃ b ys,v = .ref b ∧ s.heap.IsList b ys)
   (hlt:∀ h':Heap,(∀ b o,s.heap.get? b = some o → h'.get? b = some o) → ∀ i j (C:Bool → Shared → Prop),i < vs.length → j < vs.length → C (lt i j) { s with heap:=h' } →
     wpAny (model prog w) A.in1.in1 (keyLt' oneType' (vs.getD i .none) (vs.getD j .none)) C (fun _ _ => False) { s with heap:=h' })
   (h64:vs.length < 64) (hok:2 ≤ vs.length → kok lt vs.length (kas_sort vs.length) = true)
   (h:Q (.ref (s.heap.objs.size + 1)) { s with heap:=sortedAll s.heap vs (dP lt vs).toArray }):wpAny (model prog w) A (call (.builtin "sorted") [.ref l]) Q E s:=by
 have z:vs.length ≤ sizeLine:=Cz (aT (by omega))
 refine Fe kind_sorted plain_sorted entry_sorted (args_sorted1 _) ?_
 unfold Builtin.«sorted»
 refine Ac (m:=checkCount "sorted" 1 1 _) (Ah (Ac (collect_list hl (Ac (Gr ?_ z)) z)))
 rw [kF]
 change wpAny _ _ _ _ _ { s with heap:=aZ8 s.heap vs }
 refine Ac (Bu (Cu slot_list_sort ⟨_,jP _ _,rfl⟩ entry_list_sort (qZ (lt:=lt) (jP _ _) (fun v hv => ?_) (fun h' k => hlt h' fun b o q => k b o (eI (vs:=vs) q).2 (eI q).1) h64 hok ⟨_,rfl,Ah ⟨_,rfl,h⟩⟩) (args_list_sort _)))
 obtain ⟨b,ys,e,o,g1,g2,g3⟩:=hT v hv
 exact ⟨b,ys,e,(eI (vs:=vs) g1).2,o,(eI g1).1,g2,g3⟩
end
def ltK (ks:List (List Int)) (i j:Nat):Bool:=ltZ (ks.getD i []) (ks.getD j [])
def gH (ks:List (List Int)):List Nat:=if ks.length < 2 then List.range ks.length else (lU (ltK ks) (kas_sort ks.length)).toList
def zU (ks:List (List Int)):Bool:=(decide (ks.length < 2) || kok (ltK ks) ks.length (kas_sort ks.length)) && (gH ks).all (fun i => decide (i < ks.length)) && decide ((gH ks).length ≤ 64)
theorem kG:∀ {ps:List Addr} {us:List Value},Vals (ps.map V.ref) us → us = ps.map Value.ref
 | [],_,.nil => rfl
 | p :: ps,_,.cons r t => by cases r; rw [kG t]; rfl
theorem oO {α:Type} (f:α → Addr):∀ l:List α,Vals (l.map fun i => V.ref (f i)) (l.map fun i => Value.ref (f i))
 | [] => .nil
 | _ :: l => .cons rfl (oO f l)
theorem tT {ks:List (List Int)} {ps:List Addr} (hl:ps.length = ks.length) (hi:∀ i ∈ gH ks,i < ks.length):dP (ltK ks) (ps.map Value.ref) = (gH ks).map fun i => Value.ref (ps.getD i 0):=by
 unfold dP gH
 unfold gH at hi
 rw [Ab,hl]
 by_cases h2:ks.length < 2
 · rw [if_pos h2,if_pos h2]
   apply List.ext_getElem?
   intro i
   by_cases h:i < ps.length
   · simp [h,← hl]
   · rw [Er (by rw [Ab]; omega),Er (by rw [Ab,Bj]; omega)]
 · rw [if_neg h2,if_neg h2]
   rw [if_neg h2] at hi
   refine Cd fun i m => ?_
   have h:=hi i m
   have h':i < ps.length:=by omega
   simp [List.getD_eq_getElem?_getD,h']
def pE:List V → Hp → VK → Prop:=fun xs H Q => ∃ (a:Addr) (ps:List Addr) (ks:List (List Int)),xs = [.ref a] ∧ rdL H a = some (ps.map V.ref) ∧ ps.length = ks.length ∧ (∀ (i:Nat) (p:Addr) (k:List Int),ps[i]? = some p → ks[i]? = some k → rdL H p = some (k.map V.int)) ∧ ps.length < 64 ∧ zU ks = true ∧ ∀ r,H r = none → Q (.ref r) (upd H r (.lst ((gH ks).map fun i => V.ref (ps.getD i 0))))
theorem uT {X:Cx} (hu:X.A.units + 8 < cLine):CallR X (.builtin "sorted") pE:=by
 intro pins s σ H xs us Q I r h
 obtain ⟨a,ps,ks,rfl,ha,hl,hk,h64,sk,q⟩:=h
 obtain ⟨u,rfl,ru⟩:=eL r
 cases ru
 obtain ⟨its,rv,pl,hz⟩:=I.list (aO ha)
 obtain rfl:=kG rv
 simp only [zU,Bool.and_eq_true,Bool.or_eq_true,decide_eq_true_eq,List.all_eq_true] at sk
 have key:∀ i,i < ps.length → ∃ b ys,ps[i]? = some b ∧ (ps.map Value.ref).getD i .none = .ref b ∧ s.heap.IsList b ys ∧ IntsAre ys.toList (ks.getD i []):=fun i hi => by
   have e1:=Aa hi
   have e2:=Aa (show i < ks.length by omega)
   obtain ⟨its,rv,pl,_⟩:=I.list (aO (hk i _ _ e1 e2))
   refine ⟨_,its.toArray,e1,by simp [List.getD_eq_getElem?_getD,hi],pl.isList,?_⟩
   rw [Af,e2]
   exact uY rv
 have mem:∀ v ∈ ps.map Value.ref,∃ b ys,v = .ref b ∧ s.heap.IsList b ys:=fun v hv => by
   obtain ⟨p,hp,rfl⟩:=Ba.mp hv
   obtain ⟨i,hi,e⟩:=Ca.mp hp
   obtain ⟨b,ys,e1,_,e3,_⟩:=key i hi
   rw [Aa hi,e] at e1
   cases e1
   exact ⟨_,_,rfl,e3⟩
 refine aQW (lt:=ltK ks) pl.isList mem (fun h' k i j C hi hj hC => ?_) (by rw [Ab]; exact h64) (fun h2 => ?_) ?_
 · rw [Ab] at hi hj
   obtain ⟨b,ys,_,e2,⟨o,g1,g2,g3⟩,e4⟩:=key i hi
   obtain ⟨b',ys',_,e2',⟨o',g1',g2',g3'⟩,e4'⟩:=key j hj
   rw [e2,e2']
   exact bQ7 (xs:=ys) (ys:=ys') ⟨o,k _ _ g1,g2,g3⟩ ⟨o',k _ _ g1',g2',g3'⟩ e4 e4' (show X.A.units + 1 + 1 + 1 < cLine by omega) hC
 · rw [Ab] at h2 ⊢
   rw [hl]
   exact sk.1.1.resolve_left (by omega)
 rw [tT hl sk.1.2]
 have hfr:H (s.heap.objs.size + 1) = none:=I.hok.fresh (Fv _)
 refine ⟨.ref (s.heap.objs.size + 1),upd H (s.heap.objs.size + 1) (.lst ((gH ks).map fun i => V.ref (ps.getD i 0))),I.laid (a:=s.heap.objs.size + 1) (o:=.lst ((gH ks).map fun i => V.ref (ps.getD i 0))) (t':=s.toks) (fun b o e => sortedAll_old e) (Fv _) ?_,rfl,q _ hfr⟩
 obtain ⟨c,hc⟩:=sortedAll_at s.heap (ps.map Value.ref) ((gH ks).map fun i => Value.ref (ps.getD i 0)).toArray
 refine ⟨by rw [Ab]; exact Cz (aT (by omega)),_,c,oO _ _,?_⟩
 rw [hc]
theorem tY {H:Hp} {Q:VK} {a:Addr} {ps:List Addr} {ks:List (List Int)} (ha:rdL H a = some (ps.map V.ref)) (hl:ps.length = ks.length) (hk:∀ (i:Nat) (p:Addr) (k:List Int),ps[i]? = some p → ks[i]? = some k → rdL H p = some (k.map V.int)) (h64:ps.length < 64) (sk:zU ks = true)
   (h:∀ r,H r = none → Q (.ref r) (upd H r (.lst ((gH ks).map fun i => V.ref (ps.getD i 0))))):pE [.ref a] H Q:=⟨a,ps,ks,rfl,ha,hl,hk,h64,sk,h⟩
end L2
set_option maxHeartbeats 4000000
namespace L2
open PySem PySem.Spec PyProof.Rows
end L2
set_option maxHeartbeats 1000000
namespace L2
open PySem
theorem getD_none {owner:Array (Option Nat)} {j:Nat} (h:owner.getD j (some 0) = none):j < owner.size ∧ owner.getD j none = none:=by
 have hj:j < owner.size:=by
   refine Nat.lt_of_not_le fun z => ?_
   rw [Ey,Array.getElem?_eq_none z] at h
   cases h
 rw [Ey,Ff hj] at h ⊢
 exact ⟨hj,h⟩
theorem getD_some {owner:Array (Option Nat)} {j:Nat} (hj:j < owner.size) (h:owner.getD j (some 0) ≠ none):∃ k,owner.getD j none = some k:=by
 rw [Ey,Ff hj] at h ⊢
 cases e:owner[j] with
 | none => rw [e] at h; exact absurd rfl h
 | some k => exact ⟨k,rfl⟩
section
variable {prog:Program} {w:World} {A:Around} {E:Value → Shared → Prop} {s:Shared}
end
open PySem.Spec PyProof.Rows
def Alx (H:Hp):Nat → V → V → Prop
 | 0,x,y => x = y ∧ (bF x = true ∨ ∃ p,x = .ref p)
 | n + 1,x,y => (x = y ∧ (bF x = true ∨ ∃ p,x = .ref p)) ∨ ∃ p q,x = .ref p ∧ y = .ref q ∧ ((∃ xs ys,rdL H p = some xs ∧ rdL H q = some ys ∧ xs.length = ys.length ∧ ∀ (j:Nat) x' y',xs[j]? = some x' → ys[j]? = some y' → Alx H n x' y') ∨ ∃ kvs kws,Rd H p (.dK kvs) ∧ Rd H q (.dK kws) ∧ DEq kvs kws)
theorem Alx.same {H:Hp} {n:Nat} {x:V} (h:bF x = true ∨ ∃ p,x = .ref p):Alx H n x x:=by
 cases n with
 | zero => exact ⟨rfl,h⟩
 | succ n => exact .inl ⟨rfl,h⟩
theorem rN {X:Cx} {s:Shared} {A:Around} {x:V} {u v:Value} (h:bF x = true ∨ ∃ p,x = .ref p) (ru:RelV x u) (rv:RelV x v):EqW X.prog X.w A s u v:=by
 rcases h with hf | ⟨p,rfl⟩
 · have:=iU (A:=A) (s:=s) ru rv hf hf
   rw [fJ hf] at this
   exact fun E Q hq => this X.prog X.w E Q hq
 · cases ru
   cases rv
   exact .same _
theorem aQL {X:Cx} {pins:List (Addr × Obj)} {σ:St} {H:Hp} {s:Shared} (I:Inv X pins σ H s) {A:Around} {p q:Addr} {xs ys:List V} (hp:rdL H p = some xs) (hq:rdL H q = some ys) (hl:xs.length = ys.length) (h:∀ (j:Nat) x' y' u v,xs[j]? = some x' → ys[j]? = some y' → RelV x' u → RelV y' v → EqW X.prog X.w A.in1 s u v) (hu:A.units < cLine) (E:Value → Shared → Prop) (Q:Value → Shared → Prop) :
   (Q (.bool true) s → wpAny (model X.prog X.w) A (richCompare .Eq (.ref p) (.ref q)) Q E s) ∧ (Q (.bool false) s → wpAny (model X.prog X.w) A (richCompare .NotEq (.ref p) (.ref q)) Q E s):=by
 obtain ⟨its,r1,l1,_⟩:=I.list (aO hp)
 obtain ⟨its2,r2,l2,_⟩:=I.list (aO hq)
 have e1:=r1.length
 have e2:=r2.length
 have he:∀ j (h1:j < its.toArray.size) (h2:j < its2.toArray.size),EqW X.prog X.w A.in1 s its.toArray[j] its2.toArray[j]:=fun j h1 h2 => by
   have h1':j < its.length:=by simpa using h1
   have h2':j < its2.length:=by simpa using h2
   obtain ⟨u',hu',ru'⟩:=r1.get (Aa (show j < xs.length by omega))
   obtain ⟨v',hv',rv'⟩:=r2.get (Aa (show j < ys.length by omega))
   rw [Aa h1'] at hu'
   rw [Aa h2'] at hv'
   cases hu'
   cases hv'
   simpa using h j _ _ _ _ (List.getElem?_eq_getElem _) (List.getElem?_eq_getElem _) ru' rv'
 have hs:its.toArray.size = its2.toArray.size:=by simp only [List.size_toArray]; omega
 exact ⟨fun q => aZE l1.isList l2.isList hs hu he q,fun q => cXW l1.isList l2.isList hs hu he q⟩
theorem bJH {X:Cx} {pins:List (Addr × Obj)} {σ:St} {H:Hp} {s:Shared} (I:Inv X pins σ H s):∀ (n:Nat) (A:Around) (x y:V) (u v:Value),Alx H n x y → RelV x u → RelV y v → A.units + n < cLine → EqW X.prog X.w A s u v:=by
 intro n
 induction n with
 | zero =>
   intro A x y u v h ru rv hu
   obtain ⟨rfl,hx⟩:=h
   exact rN hx ru rv
 | succ n ih =>
   intro A x y u v h ru rv hu
   rcases h with ⟨rfl,hx⟩ | ⟨p,q,rfl,rfl,hpq⟩
   · exact rN hx ru rv
   · cases ru
     cases rv
     by_cases e:p = q
     · subst e
       exact .same _
     rcases hpq with ⟨xs,ys,hp,hq,hl,h⟩ | ⟨kvs,kws,hp,hq,d⟩
     · exact .refs e fun E Q hq' => (aQL I hp hq hl (fun j x' y' u v hx hy hu' hv' => ih A.in1 x' y' u v (h j x' y' hx hy) hu' hv' (by show A.units + 1 + n < cLine; omega)) (by omega) E Q).1 hq'
     · exact .refs e fun E Q hq' => (bXY I hp hq d (by omega) E Q).1 hq'
def cJ7 (neg:Bool):R2:=fun x y H Q => ∃ n p q xs ys,n ≤ 50 ∧ x = .ref p ∧ y = .ref q ∧ rdL H p = some xs ∧ rdL H q = some ys ∧ xs.length = ys.length ∧ (∀ (j:Nat) x' y',xs[j]? = some x' → ys[j]? = some y' → Alx H n x' y') ∧ Q (.bl (!neg)) H
theorem cJJ {X:Cx} (hu:X.A.units + 64 < cLine):OpR X (compareOp .NotEq) (cJ7 true):=by
 intro pins s σ H x y v u Q I rx ry h
 obtain ⟨n,p,q,xs,ys,hn,rfl,rfl,hp,hq,hl,al,k⟩:=h
 cases rx
 cases ry
 exact (aQL I hp hq hl (fun j x' y' u v hx hy hu' hv' => bJH I n X.A.in1 x' y' u v (al j x' y' hx hy) hu' hv' (by show X.A.units + 1 + n < cLine; omega)) (by omega) _ _).2 ⟨.bl false,H,I,rfl,k⟩
theorem cX7 {neg:Bool} {p q:Addr} {H:Hp} {Q:VK} {xs ys:List V} (n:Nat) (hp:rdL H p = some xs) (hq:rdL H q = some ys) (hl:xs.length = ys.length) (al:∀ (j:Nat) x' y',xs[j]? = some x' → ys[j]? = some y' → Alx H n x' y') (h:Q (.bl (!neg)) H) (hn:n ≤ 50:=by omega):cJ7 neg (.ref p) (.ref q) H Q:=⟨n,p,q,xs,ys,hn,rfl,rfl,hp,hq,hl,al,h⟩
end L2
set_option maxHeartbeats 1000000
namespace L2
open PySem PySem.Spec PyProof.Rows
def hdl (i:Nat) (ts:TS) (D:Ends) (cls:Value) (d:Option Addr) (σ1:St) (H1:Hp):Prop:=∀ ea,H1 ea = none →
 ts { nx:=fun σ2 H2 => D.nx (σ2.set i none) H2,rt:=D.rt,bk:=fun σ2 H2 => D.bk (σ2.set i none) H2,ct:=fun σ2 H2 => D.ct (σ2.set i none) H2 } (σ1.set i (some (.ref ea))) (upd H1 ea (nT ea cls d))
section
variable {X:Cx} {pins:List (Addr × Obj)}
end
end L2
set_option maxHeartbeats 1000000
namespace L2
open PySem PySem.Spec PyProof.Rows
section
variable {X:Cx}
end
end L2
set_option maxHeartbeats 1000000
namespace L2
open PySem PySem.Spec PyProof.Rows
open PySem.AutoSeq1 (wpAny_loadPart')
theorem bQ0 {P:Program} {w:World} (p q:Addr) (xs ys:Array Value) (n n2:Nat) (dd dd2:Option Addr) (sl sl2:Array (Option Value)) (hsz:xs.size = ys.size) :
   MeetsIn P w (Builtin.«tuple.__eq__» ⟨[.ref p,.ref q],[]⟩) (fun A R s => s.heap.get? p = some ⟨.type "tuple",dd,.seq xs n,sl⟩ ∧ s.heap.get? q = some ⟨.type "tuple",dd2,.seq ys n2,sl2⟩ ∧ (∀ j (h1:j < xs.size) (h2:j < ys.size),EqW P w A.in1 s xs[j] ys[j]) ∧ R (.ok (.ret (.bool true))) s):=by
 refine .of_wp fun A R s h => ?_
 obtain ⟨hp,g,d,tk,os⟩:=s
 obtain ⟨ha,hq,he,h⟩:=h
 have kind:=AutoSeq1.sub_tuple_tuple
 have zl:(xs.toList.zip ys.toList).length = xs.size:=by simp [hsz]
 wp_walk using Au ha,Au hq,wpAny_forIn_list _ (fun rest b s' => b.1 = none ∧ s' = ⟨hp,g,d,tk,os⟩ ∧ ∃ k,rest = (xs.toList.zip ys.toList).drop k) _
 case turn =>
   rintro ⟨u,v⟩ rest b s' ⟨hn,rfl,k,hk⟩
   have hkl:k < (xs.toList.zip ys.toList).length:=by
     refine Nat.lt_of_not_le fun z => ?_
     rw [Gg z] at hk
     cases hk
   rw [Dh hkl] at hk
   obtain ⟨huv,hrest⟩:=List.cons.inj hk
   have k1:k < xs.size:=by omega
   have k2:k < ys.size:=by omega
   obtain ⟨eu,ev⟩:u = xs[k] ∧ v = ys[k]:=by
     have e:=huv
     rw [List.getElem_zip] at e
     exact ⟨by simpa using congrArg Prod.fst e,by simpa using congrArg Prod.snd e⟩
   subst eu ev
   refine Ac (he k k1 k2 _ _ ?_)
   wp_walk
   exact ⟨rfl,rfl,k + 1,hrest⟩
 case fin =>
   rintro ⟨b1,b2⟩ s' ⟨hn,rfl,k,hk⟩
   simp only at hn
   subst hn
   wp_walk
   refine ⟨_,rfl,?_⟩
   have e:Builtin.Tuple.tupleCompareSizes .Eq xs.size ys.size = .bool true:=by rw [hsz]; simp [Builtin.Tuple.tupleCompareSizes]
   rw [e]
   exact h
 case h => exact ⟨rfl,rfl,0,rfl⟩
section
variable {X:Cx}
end
section
variable {X:Cx} {a b:Expr} {rest:List Expr} {pos:Pos} {ta tb:TE}
end
section
variable {X:Cx}
theorem KV.at {kvs:List (Key × V)} {vs:List (Key × Value)} (r:KV kvs vs):∀ {i:Nat} {k:Key} {u:Value},vs[i]? = some (k,u) → ∃ v,kvs[i]? = some (k,v) ∧ RelV v u:=by
 unfold KV at r
 induction r with
 | nil => intro i k u h; cases h
 | @cons kv vv _ _ hk t ih =>
   intro i k u h
   obtain ⟨e,ru⟩:=hk
   cases i with
   | zero => cases h; exact ⟨kv.2,by rw [List.getElem?_cons_zero]; exact Cp some (Prod.ext e rfl),ru⟩
   | succ i => exact ih h
end
end L2
set_option maxHeartbeats 1000000
namespace L2
open PySem PySem.Spec PyProof.Rows
section
variable {X:Cx}
end
section
variable {X:Cx} {a b:Expr} {rest:List Expr} {pos:Pos} {ta tb:TE}
end
end L2
set_option maxHeartbeats 4000000
namespace L2
open PySem PySem.Spec PyProof.Rows
open PySem.AutoSeq1 (wpAny_loadPart')
open PySem.MeetsSeq PySem.MeetsSeq2 PySem.MeetsSeq3
open PySem.W (KasT kas_sort kas_cmp kas_item kas_item_eq kas_range kas_runs kas_kind kas_st kat_kind kat_lt kat_cons kat_nil kat_yes kat_no kat_go kat_one KatTups KatLex)
section
variable {prog:Program} {w:World} {A:Around} {E:Value → Shared → Prop} {s:Shared}
theorem rG {κ:SortKind} {lt:Nat → Nat → Bool} {a:Addr} {vs:List Value} {n:Nat} {P:PySem.Fin → Shared → Prop} (ho:s.heap.get? a = some (seqObj "list" vs.toArray n))
   (hk:∀ h':Heap,(∀ b o,b ≠ a → s.heap.get? b = some o → h'.get? b = some o) → 2 ≤ vs.length → ∀ (Q:SortKind → Shared → Prop) (E':Value → Shared → Prop),Q κ { s with heap:=h' } → wpAny (model prog w) A (keyKind' vs.toArray) Q E' { s with heap:=h' })
   (hlt:∀ h':Heap,(∀ b o,b ≠ a → s.heap.get? b = some o → h'.get? b = some o) → ∀ i j (C:Bool → Shared → Prop),i < vs.length → j < vs.length → C (lt i j) { s with heap:=h' } →
     wpAny (model prog w) A (keyLt' κ (vs.getD i .none) (vs.getD j .none)) C (fun _ _ => False) { s with heap:=h' })
   (h64:vs.length < 64) (hok:2 ≤ vs.length → kok lt vs.length (kas_sort vs.length) = true)
   (h:P (.done (.ret .none)) { s with heap:=sortedHeap s.heap a vs (dP lt vs).toArray }):wpAny (model prog w) A (Builtin.«list.sort» ⟨[.ref a],[]⟩) P E s:=by
 obtain ⟨c,e1,e6⟩:=vS ho
 have z:vs.length ≤ sizeLine:=Cz (aT (by omega))
 have zz:∀ out:Array Value,out.size ≤ 64 → out.size ≤ sizeLine + 1:=fun out q => Nat.le_succ_of_le (Cz (aT (by omega)))
 rw [list_sort_plain]
 refine Ac (listItems_at ho rfl (Ac (Fl ho rfl (Ac (Gv e1 rfl (Ac (wpAny_newTuple (Ac (Gr (Bu ?_) (By _))) z)))) z (By _))))
 change wpAny (model prog w) A _ P E { s with heap:=nO s.heap a vs }
 dsimp only
 replace h:P (.done (.ret .none)) { s with heap:=(nO s.heap a vs).update a (Obj.mapSeq fun _ => (dP lt vs).toArray) }:=h
 have old:∀ b o,b ≠ a → s.heap.get? b = some o → (nO s.heap a vs).get? b = some o:=fun _ _ => rC
 generalize nO s.heap a vs = hm at *
 by_cases h2:vs.length < 2
 · simp only [List.size_toArray,if_pos h2]
   refine Ac (Ah (Ac (wpAny_of_eq (StateT.run_pure ..) (Ac (Gv e6 rfl (Ac (Fl e6 rfl ?_ (By _) ?_)))))))
   all_goals rw [show (arrOf (SortSt.mk' general' (vs.toArray.zip vs.toArray) #[] 7 none)).map (·.2) = (dP lt vs).toArray from (jR vs).trans (Cp List.toArray (if_pos h2).symm)]
   · simp only [bne_self_eq_false,Bool.false_eq_true,if_false]
     exact Ah h
   · exact zz _ (by rw [Be,show dP lt vs = vs from if_pos h2]; omega)
 · have h2':2 ≤ vs.length:=Nat.le_of_not_lt h2
   simp only [List.size_toArray,if_neg h2]
   refine Ac (hk hm old h2' _ _ ?_)
   have fL:SortSt.mk' κ (vs.toArray.zip vs.toArray) #[] 7 none = kas_st κ (pairsOf vs) (List.toArray (List.range vs.length)):=by
     have e:=kas_range (pairsOf vs)
     rw [pairsOf_size] at e
     exact Cp (fun x => SortSt.mk' κ x #[] 7 none) e.symm
   rw [fL]
   refine Ac (Bv (kas_runs (Q:=fun _ st s' => ∃ p:Array Nat,p.size = vs.length ∧ p = lU lt (kas_sort vs.length) ∧ arrOf st = p.map (kas_item (pairsOf vs)) ∧ failedOf st = none ∧ s' = { s with heap:=hm }) (G:=fun p s' => s' = { s with heap:=hm } ∧ p = lU lt (kas_sort vs.length))
     h2' h64 (fun p st s' x1 x2 x3 x4 => ⟨p,x1,x4.2,x2,x3,x4.1⟩) (nE (lt:=lt) (n:=vs.length) (fun i j C hi hj hC => ?_) _ (hok h2') ⟨rfl,rfl⟩)) ?_ fun _ _ e => e)
   · unfold kas_cmp
     rw [kas_item_eq,kas_item_eq]
     exact hlt hm old i j C hi hj hC
   rintro ⟨_,st⟩ _ ⟨p,x1,x2,x3,x4,rfl⟩
   obtain ⟨y1,y2⟩:=pA h2 x2 x1
   have out:(arrOf st).map (·.2) = (dP lt vs).toArray:=by rw [x3,oF,y2]
   dsimp only
   rw [out]
   refine Ac (Gv e6 rfl (Ac (Fl e6 rfl ?_ (By _) (zz _ (by rw [Be,y1]; omega)))))
   rw [x4]
   simp only [bne_self_eq_false,Bool.false_eq_true,if_false]
   exact Ah h
theorem aX1 {κ:SortKind} {lt:Nat → Nat → Bool} {l:Addr} {vs:List Value} {Q:Value → Shared → Prop} (hl:s.heap.IsList l vs.toArray)
   (hk:∀ h':Heap,(∀ b o,s.heap.get? b = some o → h'.get? b = some o) → 2 ≤ vs.length → ∀ (Q:SortKind → Shared → Prop) (E':Value → Shared → Prop),Q κ { s with heap:=h' } → wpAny (model prog w) A.in1.in1 (keyKind' vs.toArray) Q E' { s with heap:=h' })
   (hlt:∀ h':Heap,(∀ b o,s.heap.get? b = some o → h'.get? b = some o) → ∀ i j (C:Bool → Shared → Prop),i < vs.length → j < vs.length → C (lt i j) { s with heap:=h' } →
     wpAny (model prog w) A.in1.in1 (keyLt' κ (vs.getD i .none) (vs.getD j .none)) C (fun _ _ => False) { s with heap:=h' })
   (h64:vs.length < 64) (hok:2 ≤ vs.length → kok lt vs.length (kas_sort vs.length) = true)
   (h:Q (.ref (s.heap.objs.size + 1)) { s with heap:=sortedAll s.heap vs (dP lt vs).toArray }):wpAny (model prog w) A (call (.builtin "sorted") [.ref l]) Q E s:=by
 have z:vs.length ≤ sizeLine:=Cz (aT (by omega))
 refine Fe kind_sorted plain_sorted entry_sorted (args_sorted1 _) ?_
 unfold Builtin.«sorted»
 refine Ac (m:=checkCount "sorted" 1 1 _) (Ah (Ac (collect_list hl (Ac (Gr ?_ z)) z)))
 rw [kF]
 change wpAny _ _ _ _ _ { s with heap:=aZ8 s.heap vs }
 refine Ac (Bu (Cu slot_list_sort ⟨_,jP _ _,rfl⟩ entry_list_sort (rG (κ:=κ) (lt:=lt) (jP _ _) (fun h' k => hk h' fun b o q => k b o (eI (vs:=vs) q).2 (eI q).1) (fun h' k => hlt h' fun b o q => k b o (eI (vs:=vs) q).2 (eI q).1) h64 hok ⟨_,rfl,Ah ⟨_,rfl,h⟩⟩) (args_list_sort _)))
end
def dQK:Bool:=(List.range 64).all fun n => decide (n < 2) || (kok (fun i j => decide (i < j)) n (kas_sort n) && (lU (fun i j => decide (i < j)) (kas_sort n)).toList == List.range n)
theorem cXL:dQK = true:=by decide +kernel
theorem aX3 {n:Nat} (h:n < 64) (h2:2 ≤ n):kok (fun i j => decide (i < j)) n (kas_sort n) = true ∧ (lU (fun i j => decide (i < j)) (kas_sort n)).toList = List.range n:=by
 have a:=Ci.mp cXL n (Bz.mpr h)
 rw [Av (show ¬ n < 2 by omega),Eo,Cg,beq_iff_eq] at a
 exact a
theorem bXQ {vs:List Value} (h:vs.length < 64):dP (fun i j => decide (i < j)) vs = vs:=by
 unfold dP
 by_cases h2:vs.length < 2
 · rw [if_pos h2]
 · rw [if_neg h2,(aX3 h (by omega)).2]
   refine List.ext_getElem (by rw [Ab,Bj]) fun i h1 h3 => ?_
   rw [Gk,List.getElem_range,Af,Aa h3]
   rfl
def aJ7 (a b:Int × Int):Prop:=a.1 < b.1 ∨ (a.1 = b.1 ∧ a.2 < b.2)
def mJ (h:Heap) (b:Addr) (k:Int × Int):Prop:=∃ o n t u,h.get? b = some o ∧ o.cls = .type "tuple" ∧ o.data = .seq #[.int k.1 t,.int k.2 u] n
theorem wQ {h:Heap}:∀ {ps:List Addr} {ks:List (Int × Int)},ps.length = ks.length → (∀ (i:Nat) p k,ps[i]? = some p → ks[i]? = some k → mJ h p k) → ∃ fs:List Value,PySem.W.KatTups h (ps.map Value.ref) fs ∧ fs.length = ps.length ∧ ∀ v ∈ fs,∃ n t,v = Value.int n t
 | [],[],_,_ => ⟨[],trivial,rfl,fun v hv => nomatch hv⟩
 | p :: ps,k :: ks,hl,h => by
   obtain ⟨fs,h1,h2,h3⟩:=wQ (ps:=ps) (ks:=ks) (by simpa using hl) fun i p' k' hp hk => h (i + 1) p' k' hp hk
   obtain ⟨o,n,t,u,g1,g2,g3⟩:=h 0 p k rfl rfl
   refine ⟨.int k.1 t :: fs,PySem.W.KatTups.cons g1 g2 g3 rfl h1,by rw [Bn,Bn,h2],fun v hv => ?_⟩
   rcases Bg.mp hv with e | e
   · exact ⟨_,_,e⟩
   · exact h3 v e
 | [],_ :: _,hl,_ => absurd hl (by simp)
 | _ :: _,[],hl,_ => absurd hl (by simp)
theorem bXW {P:Program} {w:World} {A:Around} {E:Value → Shared → Prop} {s:Shared} {x y:Addr} {a b:Int × Int} {c:Bool} {Q:Bool → Shared → Prop} (hx:mJ s.heap x a) (hy:mJ s.heap y b) (hu:A.units < cLine) (hc:c = true ↔ aJ7 a b) (h:Q c s):wpAny (model P w) A (keyLt' (tuples' true) (.ref x) (.ref y)) Q E s:=by
 obtain ⟨o,n,t,u,g1,g2,g3⟩:=hx
 obtain ⟨o',n',t',u',g1',g2',g3'⟩:=hy
 refine kat_lt g1 g3 g1' g3' ?_
 refine kat_cons (PySem.SeqAt.EqAt.int_int _ _ _ _ _ _ _ _ (kat_go (fun e1 => kat_yes (kat_cons (PySem.SeqAt.EqAt.int_int _ _ _ _ _ _ _ _ (kat_go (fun e2 => kat_yes (kat_nil ?_)) (fun e2 => kat_no (kat_one _ _ ?_)))))) (fun e1 => kat_no (oneLt_int ?_))))
 · have q1:=Gw e1
   have q2:=Gw e2
   have:c = false:=by
     cases c with
     | false => rfl
     | true => rcases hc.mp rfl with z | ⟨_,z⟩ <;> omega
   rw [this] at h
   exact h
 · have q1:=Gw e1
   refine aZZ hu ?_
   have:c = decide (a.2 < b.2):=by
     by_cases z:a.2 < b.2
     · rw [Ap z]; exact hc.mpr (.inr ⟨q1,z⟩)
     · rw [Av z]
       cases c with
       | false => rfl
       | true => rcases hc.mp rfl with z' | ⟨_,z'⟩ <;> omega
   rw [this] at h
   exact h
 · have q1:a.1 ≠ b.1:=fun z => by rw [z] at e1; simp at e1
   have:c = decide (a.1 < b.1):=by
     by_cases z:a.1 < b.1
     · rw [Ap z]; exact hc.mpr (.inl z)
     · rw [Av z]
       cases c with
       | false => rfl
       | true => rcases hc.mp rfl with z' | ⟨z',_⟩ <;> omega
   rw [this] at h
   exact h
section
variable {X:Cx}
def rV:List V → Hp → VK → Prop:=fun xs H Q => ∃ (a:Addr) (ps:List Addr) (ks:List (Int × Int)),xs = [.ref a] ∧ rdL H a = some (ps.map V.ref) ∧ ps.length = ks.length ∧ (∀ (i:Nat) p k,ps[i]? = some p → ks[i]? = some k → H p = some (.tup [.int k.1,.int k.2])) ∧ ps.length < 64 ∧ ks.Pairwise aJ7 ∧ ∀ r,H r = none → Q (.ref r) (upd H r (.lst (ps.map V.ref)))
theorem zK (hu:X.A.units + 8 < cLine):CallR X (.builtin "sorted") rV:=by
 intro pins s σ H xs us Q I r h
 obtain ⟨a,ps,ks,rfl,ha,hl,hk,h64,pw,q⟩:=h
 obtain ⟨u,rfl,ru⟩:=eL r
 cases ru
 obtain ⟨its,rv,pl,hz⟩:=I.list (aO ha)
 obtain rfl:=kG rv
 have key:∀ (i:Nat) p k,ps[i]? = some p → ks[i]? = some k → mJ s.heap p k:=fun i p k hp hk' => by
   obtain ⟨its,r1,l1,_⟩:=I.tuple (SqT.of (hk i p k hp hk'))
   obtain ⟨⟨cls,dd,data,sl⟩,ho,hc,m,hd⟩:=id l1
   cases r1 with
   | cons e1 r1 => cases r1 with
     | cons e2 r1 =>
       cases r1
       obtain ⟨t,rfl⟩:=e1
       obtain ⟨u,rfl⟩:=e2
       exact ⟨_,m,t,u,ho,hc,hd⟩
 have kk:∀ {h':Heap},(∀ b o,s.heap.get? b = some o → h'.get? b = some o) → ∀ (i:Nat) p k,ps[i]? = some p → ks[i]? = some k → mJ h' p k:=fun k' i p k hp hk' => by
   obtain ⟨o,n,t,u,g1,g2,g3⟩:=key i p k hp hk'
   exact ⟨o,n,t,u,k' _ _ g1,g2,g3⟩
 refine aX1 (κ:=tuples' true) (lt:=fun i j => decide (i < j)) pl.isList (fun h' k' h2 Q' E' hQ => ?_) (fun h' k' i j C hi hj hC => ?_) (by rw [Ab]; exact h64) (fun h2 => (aX3 (by rw [Ab]; exact h64) h2).1) ?_
 · obtain ⟨fs,f1,f2,f3⟩:=wQ hl (kk k')
   rw [Ab] at h2
   refine kat_kind (T:=.type "int") f1 (by omega) (fun v hv => ?_) (by decide) hQ
   obtain ⟨n,t,rfl⟩:=f3 v hv
   exact PySem.W.Looks.of_pure rfl
 · rw [Ab] at hi hj
   have e1:=Aa hi
   have e2:=Aa hj
   have e3:=Aa (show i < ks.length by omega)
   have e4:=Aa (show j < ks.length by omega)
   rw [show (ps.map Value.ref).getD i .none = .ref ps[i] by simp [List.getD_eq_getElem?_getD,hi],show (ps.map Value.ref).getD j .none = .ref ps[j] by simp [List.getD_eq_getElem?_getD,hj]]
   refine bXW (kk k' i _ _ e1 e3) (kk k' j _ _ e2 e4) (show X.A.units + 1 + 1 < cLine by omega) ?_ hC
   rw [Bh]
   constructor
   · intro hij
     exact List.pairwise_iff_getElem.mp pw i j _ _ hij
   · intro hlt
     refine Nat.lt_of_not_le fun z => ?_
     by_cases e:i = j
     · subst e
       rcases hlt with z | ⟨_,z⟩ <;> omega
     · have:=List.pairwise_iff_getElem.mp pw j i (by omega) (by omega) (by omega)
       rcases this with z1 | ⟨z1,z2⟩ <;> rcases hlt with z3 | ⟨z3,z4⟩ <;> omega
 rw [bXQ (by rw [Ab]; exact h64)]
 have hfr:H (s.heap.objs.size + 1) = none:=I.hok.fresh (Fv _)
 refine ⟨.ref (s.heap.objs.size + 1),upd H (s.heap.objs.size + 1) (.lst (ps.map V.ref)),I.laid (a:=s.heap.objs.size + 1) (o:=.lst (ps.map V.ref)) (t':=s.toks) (fun b o e => sortedAll_old e) (Fv _) ?_,rfl,q _ hfr⟩
 obtain ⟨c,hc⟩:=sortedAll_at s.heap (ps.map Value.ref) (ps.map Value.ref).toArray
 refine ⟨by rw [Ab]; exact Cz (aT (by omega)),_,c,rv,?_⟩
 rw [hc]
theorem yB {H:Hp} {Q:VK} {a:Addr} {ps:List Addr} {ks:List (Int × Int)} (ha:rdL H a = some (ps.map V.ref)) (hl:ps.length = ks.length) (hk:∀ (i:Nat) p k,ps[i]? = some p → ks[i]? = some k → H p = some (.tup [.int k.1,.int k.2])) (h64:ps.length < 64) (pw:ks.Pairwise aJ7) (h:∀ r,H r = none → Q (.ref r) (upd H r (.lst (ps.map V.ref)))):rV [.ref a] H Q:=⟨a,ps,ks,rfl,ha,hl,hk,h64,pw,h⟩
end
end L2
set_option maxHeartbeats 1000000
namespace L2
open PySem PySem.Spec PyProof.Rows
section
variable {X:Cx}
end
end L2
set_option maxHeartbeats 1000000
namespace L2
open PySem PySem.Spec PyProof.Rows
def Alt (H:Hp):Nat → V → V → Prop
 | 0,x,y => x = y ∧ bF x = true
 | n + 1,x,y => (x = y ∧ bF x = true) ∨ ∃ p q xs ys,x = .ref p ∧ y = .ref q ∧ ((rdL H p = some xs ∧ rdL H q = some ys) ∨ (H p = some (.tup xs) ∧ H q = some (.tup ys))) ∧ xs.length = ys.length ∧ ∀ (j:Nat) x' y',xs[j]? = some x' → ys[j]? = some y' → Alt H n x' y'
theorem Alt.flat {H:Hp} {n:Nat} {x:V} (h:bF x = true):Alt H n x x:=by
 cases n with
 | zero => exact ⟨rfl,h⟩
 | succ n => exact .inl ⟨rfl,h⟩
theorem Alt.flats {H:Hp} {n:Nat} {xs:List V} (f:xs.all bF = true):∀ (j:Nat) x y,xs[j]? = some x → xs[j]? = some y → Alt H n x y:=fun j x y hx hy => by
 rw [hx] at hy
 cases hy
 exact .flat (Ci.mp f x (Ak hx))
theorem Alt.lst {H:Hp} {n:Nat} {p q:Addr} {xs ys:List V} (hp:rdL H p = some xs) (hq:rdL H q = some ys) (hl:xs.length = ys.length) (h:∀ (j:Nat) x y,xs[j]? = some x → ys[j]? = some y → Alt H n x y):Alt H (n + 1) (.ref p) (.ref q):=.inr ⟨p,q,xs,ys,rfl,rfl,.inl ⟨hp,hq⟩,hl,h⟩
theorem Alt.tup {H:Hp} {n:Nat} {p q:Addr} {xs ys:List V} (hp:H p = some (.tup xs)) (hq:H q = some (.tup ys)) (hl:xs.length = ys.length) (h:∀ (j:Nat) x y,xs[j]? = some x → ys[j]? = some y → Alt H n x y):Alt H (n + 1) (.ref p) (.ref q):=.inr ⟨p,q,xs,ys,rfl,rfl,.inr ⟨hp,hq⟩,hl,h⟩
theorem aXQ {X:Cx} {pins:List (Addr × Obj)} {σ:St} {H:Hp} {s:Shared} (I:Inv X pins σ H s) {n:Nat} {A:Around} (ih:∀ x y u v,Alt H n x y → RelV x u → RelV y v → EqW X.prog X.w A.in1 s u v) {p q:Addr} (h:Alt H (n + 1) (.ref p) (.ref q)) (hu:A.units + 1 < cLine) (E:Value → Shared → Prop) (Q:Value → Shared → Prop) (k:Q (.bool true) s) :
   wpAny (model X.prog X.w) A (richCompare .Eq (.ref p) (.ref q)) Q E s:=by
 rcases h with ⟨_,f⟩ | ⟨p',q',xs,ys,e1,e2,hpq,hl,h⟩
 · cases f
 cases e1
 cases e2
 have key:∀ {its its2:List Value},Vals xs its → Vals ys its2 → its.toArray.size = its2.toArray.size ∧ ∀ j (h1:j < its.toArray.size) (h2:j < its2.toArray.size),EqW X.prog X.w A.in1 s its.toArray[j] its2.toArray[j]:=fun {its its2} r1 r2 => by
   have e1:=r1.length
   have e2:=r2.length
   refine ⟨by simp only [List.size_toArray]; omega,fun j h1 h2 => ?_⟩
   have h1':j < its.length:=by simpa using h1
   have h2':j < its2.length:=by simpa using h2
   obtain ⟨u',hu',ru'⟩:=r1.get (Aa (show j < xs.length by omega))
   obtain ⟨v',hv',rv'⟩:=r2.get (Aa (show j < ys.length by omega))
   rw [Aa h1'] at hu'
   rw [Aa h2'] at hv'
   cases hu'
   cases hv'
   simpa using ih _ _ _ _ (h j _ _ (List.getElem?_eq_getElem _) (List.getElem?_eq_getElem _)) ru' rv'
 rcases hpq with ⟨hp,hq⟩ | ⟨hp,hq⟩
 · obtain ⟨its,r1,l1,_⟩:=I.list (aO hp)
   obtain ⟨its2,r2,l2,_⟩:=I.list (aO hq)
   obtain ⟨hs,he⟩:=key r1 r2
   exact aZE l1.isList l2.isList hs (by omega) he k
 · obtain ⟨its,r1,l1,_⟩:=I.tuple (SqT.of hp)
   obtain ⟨its2,r2,l2,_⟩:=I.tuple (SqT.of hq)
   obtain ⟨hs,he⟩:=key r1 r2
   obtain ⟨⟨cls,dd,data,sl⟩,ho,hc,m,hd⟩:=id l1
   obtain ⟨⟨cls2,dd2,data2,sl2⟩,ho2,hc2,m2,hd2⟩:=id l2
   obtain rfl:cls = .type "tuple" := hc
   obtain rfl:data = .seq its.toArray m:=hd
   obtain rfl:cls2 = .type "tuple" := hc2
   obtain rfl:data2 = .seq its2.toArray m2:=hd2
   exact Dv (op:=.Eq) ⟨_,ho,rfl⟩ ⟨_,ho2,rfl⟩ PySem.F.slot_tuple_eq (El PySem.F.slot_tuple_eq ⟨_,ho,rfl⟩ PySem.F.entry_tuple_eq (PySem.F.args_tuple_eq_2 _ _) (bQ0 _ _ its.toArray its2.toArray m m2 dd dd2 sl sl2 hs)
     ⟨ho,ho2,he,show Value.bool true ≠ Value.notImplemented ∧ _ from ⟨(fun x => nomatch x),k⟩⟩) (by omega)
theorem cXS {X:Cx} {pins:List (Addr × Obj)} {σ:St} {H:Hp} {s:Shared} (I:Inv X pins σ H s):∀ (n:Nat) (A:Around) (x y:V) (u v:Value),Alt H n x y → RelV x u → RelV y v → A.units + n + 1 < cLine → EqW X.prog X.w A s u v:=by
 intro n
 induction n with
 | zero =>
   intro A x y u v h ru rv hu
   obtain ⟨rfl,f⟩:=h
   have:=iU (A:=A) (s:=s) ru rv f f
   rw [fJ f] at this
   exact fun E Q hq => this X.prog X.w E Q hq
 | succ n ih =>
   intro A x y u v h ru rv hu
   rcases id h with ⟨rfl,f⟩ | ⟨p,q,xs,ys,rfl,rfl,hpq⟩
   · have:=iU (A:=A) (s:=s) ru rv f f
     rw [fJ f] at this
     exact fun E Q hq => this X.prog X.w E Q hq
   · cases ru
     cases rv
     by_cases e:p = q
     · subst e
       exact .same _
     exact .refs e fun E Q hq => aXQ I (fun x y u v hx hu' hv' => ih A.in1 x y u v hx hu' hv' (by show A.units + 1 + n + 1 < cLine; omega)) h (by omega) E Q hq
section
variable {X:Cx}
def bZW:R2:=fun x y H Q => ∃ n p q,n ≤ 50 ∧ x = .ref p ∧ y = .ref q ∧ Alt H (n + 1) x y ∧ Q (.bl true) H
theorem cQT (hu:X.A.units + 64 < cLine):OpR X (compareOp .Eq) bZW:=by
 intro pins s σ H x y v u Q I rx ry h
 obtain ⟨n,p,q,hn,rfl,rfl,al,k⟩:=h
 cases rx
 cases ry
 exact aXQ I (fun x y u v hx hu' hv' => cXS I n X.A.in1 x y u v hx hu' hv' (by show X.A.units + 1 + n + 1 < cLine; omega)) al (by omega) _ _ ⟨.bl true,H,I,rfl,k⟩
theorem dQA {p q:Addr} {H:Hp} {Q:VK} (n:Nat) (al:Alt H (n + 1) (.ref p) (.ref q)) (h:Q (.bl true) H) (hn:n ≤ 50:=by omega):bZW (.ref p) (.ref q) H Q:=⟨n,p,q,hn,rfl,rfl,al,h⟩
end
end L2
namespace Mine
open PySem L2
local macro_rules | `(tactic| walk_at "rd") => `(tactic| first | assumption | exact dA | exact kL | exact kE | exact aM (by assumption) | exact bP (by assumption) | (apply aH (aD (by assumption) _); walk_at "rd"))
local macro_rules | `(tactic| walk_at "dd") => `(tactic| first | exact jZ (by assumption) | exact aZ1 (by assumption) | exact jZ aB | assumption)
local macro_rules | `(tactic| walk_at "lo") => `(tactic| first | assumption | decide | omega | (simp only [List.length_map,List.length_append,List.length_cons,List.length_nil,Str.length_append]; omega))
local macro_rules | `(tactic| walk_at "ln") => `(tactic| first | assumption | decide | exact bX (by walk_at "lo") | exact aT (by walk_at "lo"))
local macro_rules | `(tactic| walk_at "ar") => `(tactic| first | assumption | decide | omega | exact ⟨by omega,by omega⟩ | exact Or.inl ⟨by omega,by omega⟩ | exact Or.inr ⟨by omega,by omega⟩ | (dsimp only; done) | (dsimp only; omega))
local macro_rules | `(tactic| walk_at "s") => `(tactic| first
 | (with_reducible first | refine cJE ?_ | refine cQY ?_ | refine dQU ?_ | refine cZ6 ?_ | refine cXI ?_ | refine cZB ?_ | refine cJM ?_ | refine lL ?_)
 | ((with_reducible refine' cJK ?sv ?_); (case sv => exact rfl))
 | (with_reducible first | refine s_c ?_ | refine dQQ ?_ | refine cJF ?_ | refine cQ8 ?_ | refine bJZ ?_ | refine dQX ?_ | refine dQH ?_ | refine aXW ?_ | refine bJR ?_ | refine cXQ ?_ | refine cX6 ?_)
 | ((with_reducible refine' cJS ?se ?_); (case se => walk_at "rd"))
 | (with_reducible first | refine cXD ?_ | refine aJ5 ?_ | refine dQ0 ?_ | refine bJU ?_ | refine cZU ?_ | refine dQG ?_ | refine cZE ?_ | refine dQI ?_)
 | ((with_reducible refine cZR ?sc ?_); (case sc => walk_at "ar"))
 | with_reducible refine cQE ?_
 | ((with_reducible refine cXV ?sc ?_); (case sc => walk_at "ln"))
 | (with_reducible first | refine cJN ?_ | refine cJC ?_ | refine cZO ?_ | refine cJ8 ?_ | refine bJN ?_)
 | ((with_reducible refine' cJ2 ?sc ?_); (case sc => walk_at "rd"))
 | ((with_reducible refine cQB ?sc ?_); (case sc => walk_at "ln"))
 | ((with_reducible refine' bJM ?sc ?_); (case sc => walk_at "rd"))
 | (with_reducible first | refine cZS ?_ | refine cZ0 ?_)
 | ((with_reducible refine' cQ9 ?sc ?_); (case sc => walk_at "rd"))
 | ((with_reducible refine' cJL ?se ?se2 ?_); (case se => first | exact rfl | exact vP (by assumption) | exact tyN_dK (by assumption) | exact bXI (by assumption) | exact vP aB | exact tyN_dK aB); (case se2 => first | exact (show aQA _ _ = some true from rfl) | exact (show aQA _ _ = some false from rfl) | exact rfl))
 | (with_reducible first | refine cXJ ?_ | refine bZB ?_ | refine aJ2 ?_ | refine bXC ?_ | refine aJ8 ?_ | refine bQH ?_ | refine bJG ?_ | refine cXC ?_ | refine aQQ ?_)
 | ((with_reducible refine' cJA ?se ?_); (case se => walk_at "rd"))
 | ((with_reducible refine' cJD ?se ?sl ?_); (case se => walk_at "rd"); (case sl => walk_at "ln"))
 | with_reducible refine bXE ?_
 | ((with_reducible refine' bJB ?se ?sf ?sl ?_); (case se => walk_at "rd"); (case sf => walk_at "rd"); (case sl => walk_at "ln"))
 | ((with_reducible refine' bX8 ?se ?_); (case se => walk_at "rd"))
 | (with_reducible first | refine bXL ?_ | refine bJW ?_ | refine bJK ?_ | refine cQ7 ?_ | refine bXU ?_ | refine cQP ?_)
 | ((with_reducible refine' cXR ?se ?sn ?_); (case se => walk_at "rd"); (case sn => exact rfl))
 | (with_reducible first | refine cJT ?_ | refine cZK ?_ | refine bQP ?_ | refine cQI ?_ | refine bX0 ?_ | refine cZF ?_ | refine bXD ?_)
 | ((with_reducible refine dQE ?sd ?_); (case sd => walk_at "dd"))
 | (with_reducible first | refine cQ3 ?_ | refine cJ4 ?_ | refine bJ6 ?_ | refine bXX ?_ | refine aXI ?_ | refine bQT ?_ | refine cQL ?_ | refine cZD ?_)
 | ((with_reducible refine' bJV ?se ?sn ?_); (case se => walk_at "rd"); (case sn => exact rfl))
 | (with_reducible first | refine bXF ?_ | refine cQF ?_ | refine cQN ?_ | refine aX7 ?_ | refine cXY ?_ | refine cZA ?_ | refine dQL ?_ | refine dQ1 ?_ | refine cZX ?_)
 | dsimp only)
local macro_rules | `(tactic| walk_at "go") => `(tactic| repeat' (walk_at "s"))
def top (i:Nat):Stmt:=PySem.Challenge.pw_flaglocker_k22_papers_that_no_more_can.main.body.getD i (.Pass ⟨0,0,0,0⟩)
abbrev fN:Stmt:=top 25
abbrev dU:Stmt:=top 26
abbrev fO:Stmt:=top 27
abbrev eB:Stmt:=top 28
abbrev dS:Stmt:=top 29
abbrev bY:Stmt:=top 20
abbrev dF:Stmt:=top 9
abbrev cM:Stmt:=top 8
abbrev cV:Stmt:=top 12
abbrev cF:Stmt:=top 6
abbrev dJ:Stmt:=top 10
abbrev cN:Stmt:=top 13
abbrev cX:Stmt:=top 14
abbrev dG:Stmt:=cZQ (top 2) 0
abbrev cD:Stmt:=top 15
abbrev eP:Stmt:=top 16
abbrev dX:Stmt:=top 17
abbrev dE:Stmt:=top 19
abbrev cB:Stmt:=top 21
abbrev cS:Stmt:=top 22
abbrev cR:Stmt:=top 23
abbrev dH:Stmt:=top 33
abbrev dI:Stmt:=top 30
abbrev cC:Stmt:=top 32
abbrev cK:Stmt:=top 34
abbrev fI:Stmt:=top 35
abbrev jV:Stmt:=top 36
structure Gs (K:PySem.W.Frag) (mg:Str → Option Value) (Zy Zz:Addr):Prop where
 c_Lack:mg "Lack" = some (.ref Zy)
 c_TowerError:mg "TowerError" = some (.ref Zz)
 m_Lack:PySem.W.exmOne K (.ref Zy) (.ref Zy) = some true
 t1_TowerError:PySem.W.specialIn K (.ref Zz) "__getattribute__" = some (some (.builtin "type.__getattribute__"))
 t2_TowerError:PySem.W.readsIn K Zz (.type "type") = true
 t3_TowerError:PySem.W.findCls K (.ref Zz) (.type "type") "__init__" = some (.val (.builtin "ValueError.__init__"))
 xo_Lack:uE K Zy [.type "ValueError",.type "Exception",.type "BaseException",.type "object"] "ValueError.__new__" = true
 xk_Lack:PySem.W.keepIn K (.ref Zy) = true
 xe1_Lack:PySem.W.hasDictIn K Zy = true
 xe2_Lack:PySem.W.findIn K (.ref Zy) "__getattribute__" = some (some (.builtin "BaseException.__getattribute__"))
 xe3_Lack:PySem.W.findIn K (.ref Zy) "__getattr__" = some none
 xe4_Lack:PySem.W.findIn K (.ref Zy) "__class__" = some (some (.builtin "object.__class__"))
 xe5_Lack:PySem.W.specialIn K (.builtin "object.__class__") "__get__" = some (some (.builtin "getset_descriptor.__get__"))
 xe6_Lack:PySem.W.takesIn K (.builtin "object.__class__") = some true
 xe7_Lack:PySem.W.mroIn K Zy (.type "object") = some true
 xe8_Lack:PySem.W.subIn K (.ref Zy) (.type "BaseException") = some true
 xs_Lack:PySem.W.findIn K (.ref Zy) "__setattr__" = some (some (.builtin "object.__setattr__"))
 xr_Lack:cQW K Zy Zz = true
 xv_Lack:PySem.W.subIn K (.ref Zy) (.type "ValueError") = some true
 xn_Lack_wants:PySem.W.findIn K (.ref Zy) "wants" = some none
 xn_Lack_flags:PySem.W.findIn K (.ref Zy) "flags" = some none
 b_len:mg "len" = none
 b_range:mg "range" = none
 b_list:mg "list" = none
 b_max:mg "max" = none
 b_enumerate:mg "enumerate" = none
 b_int:mg "int" = none
 b_sorted:mg "sorted" = none
 b_min:mg "min" = none
 b_sum:mg "sum" = none
 b_set:mg "set" = none
 b_isinstance:mg "isinstance" = none
 b_tuple:mg "tuple" = none
 b_bool:mg "bool" = none
 b_zip:mg "zip" = none
 b_dict:mg "dict" = none
 s_SUBSTITUTES:∃ t,mg "SUBSTITUTES" = some (.str "1234" t)
 s_FLAGS:∃ t,mg "FLAGS" = some (.str "abcdefghijklmnopqrstuvw1234" t)
theorem Gs.xx_Lack {K:PySem.W.Frag} {mg:Str → Option Value} {Zy Zz:Addr} (G:Gs K mg Zy Zz):ExK K Zy:=⟨G.xe1_Lack,G.xe2_Lack,G.xe3_Lack,G.xe4_Lack,G.xe5_Lack,G.xe6_Lack,G.xe7_Lack,G.xe8_Lack⟩
theorem Gs.xc_Lack {K:PySem.W.Frag} {mg:Str → Option Value} {Zy Zz:Addr} (G:Gs K mg Zy Zz):XcK K Zy Zz:=⟨G.xx_Lack,G.xs_Lack,aJY G.xr_Lack,G.xv_Lack⟩
theorem Gs.xm_Lack {K:PySem.W.Frag} {mg:Str → Option Value} {Zy Zz:Addr} (G:Gs K mg Zy Zz):XmK K Zy:=⟨G.xo_Lack,G.xk_Lack⟩
abbrev lettersT:Str := "abcdefghijklmnopqrstuvw"
abbrev subsT:Str := "1234"
abbrev flagsT:Str := "abcdefghijklmnopqrstuvw1234"
abbrev one (c:Nat):Str:=⟨#[c]⟩
theorem uP:subsT.cps.toList = [49,50,51,52]:=by decide
theorem sE:flagsT.cps.toList = lettersT.cps.toList ++ subsT.cps.toList:=by decide
def bL (c:Nat):Prop:=97 ≤ c ∧ c ≤ 119
def jI (c:Nat):Prop:=49 ≤ c ∧ c ≤ 52
instance (c:Nat):Decidable (bL c):=inferInstanceAs (Decidable (_ ∧ _))
instance (c:Nat):Decidable (jI c):=inferInstanceAs (Decidable (_ ∧ _))
theorem sV {c:Nat}:c ∈ lettersT.cps.toList ↔ bL c:=by
 have h1:∀ c ∈ lettersT.cps.toList,bL c:=by decide +kernel
 have h2:∀ k:_root_.Fin 23,97 + k.val ∈ lettersT.cps.toList:=by decide +kernel
 refine ⟨h1 c,fun h => ?_⟩
 have e:=h2 ⟨c - 97,by have:=h.1; have:=h.2; omega⟩
 rwa [show 97 + (c - 97) = c by have:=h.1; omega] at e
theorem mem_subs {c:Nat}:c ∈ subsT.cps.toList ↔ jI c:=by
 have h1:∀ c ∈ subsT.cps.toList,jI c:=by decide +kernel
 have h2:∀ k:_root_.Fin 4,49 + k.val ∈ subsT.cps.toList:=by decide +kernel
 refine ⟨h1 c,fun h => ?_⟩
 have e:=h2 ⟨c - 49,by have:=h.1; have:=h.2; omega⟩
 rwa [show 49 + (c - 49) = c by have:=h.1; omega] at e
theorem yV {c:Nat}:c ∈ flagsT.cps.toList ↔ bL c ∨ jI c:=by
 rw [sE,Bk,sV,mem_subs]
def cXH (c:Nat) (p:Int):Prop:=bL c ∨ (jI c ∧ (c:Int) - 48 < p)
instance (c:Nat) (p:Int):Decidable (cXH c p):=inferInstanceAs (Decidable (_ ∨ _))
def aY (cs:List Nat):Str:=⟨cs.toArray⟩
theorem fE (cs:List Nat):(aY cs).length = cs.length:=by show cs.toArray.size = _; simp
theorem zD (cs:List Nat):(aY cs).cps.toList = cs:=rfl
theorem yN (cs:List Nat) (c:Nat):aY cs ++ one c = aY (cs ++ [c]):=FlT.str_ext (by rw [FlT.app_cps]; rfl)
theorem mW {α β:Type} {f g:α → Option β}:∀ {l:List α},(∀ x ∈ l,f x = g x) → l.filterMap f = l.filterMap g
 | [],_ => rfl
 | x :: r,h => by rw [De,De,h x Aq,mW fun y hy => h y (Al _ hy)]
theorem nN {β:Type} {F:Nat → Option β} {i:Nat} {b:β} (h:F i = some b):(List.range (i + 1)).filterMap F = (List.range i).filterMap F ++ [b]:=by
 rw [Ck,Cm,Fj h,Eb]
theorem nM {β:Type} {F:Nat → Option β} {i:Nat} (h:F i = none):(List.range (i + 1)).filterMap F = (List.range i).filterMap F:=by
 rw [Ck,Cm,Fk h,Eb,Bw]
theorem one_inj {a b:Nat}:one a = one b ↔ a = b:=⟨fun h => by injection h with h; injection h with h; injection h,fun h => by rw [h]⟩
theorem pY (a b:Nat):decide (one a = one b) = decide (a = b):=Dx.mpr one_inj
theorem bX9 {cw:List Nat} {k:Nat} (h:k < cw.length):atI (aY cw).cps.toList ((k:Nat):Int) = some (cw.getD k 0):=by
 refine fQ ?_
 rw [zD,Af,Aa h]
 rfl
theorem wR {k:Nat} (h:k < 23):atI lettersT.cps.toList ((k:Nat):Int) = some (97 + k):=by
 refine fQ ?_
 have q:∀ k:_root_.Fin 23,lettersT.cps.toList[k.val]? = some (97 + k.val):=by decide +kernel
 exact q ⟨k,h⟩
theorem xE {k:Nat} (h:k < 4):atI subsT.cps.toList ((k:Nat):Int) = some (49 + k):=by
 refine fQ ?_
 have q:∀ k:_root_.Fin 4,subsT.cps.toList[k.val]? = some (49 + k.val):=by decide +kernel
 exact q ⟨k,h⟩
theorem eC {ns:List Int} {i:Int} (h0:0 ≤ i) (h:i < ns.length):∃ n,n ∈ ns ∧ atI (ns.map V.int) i = some (.int n):=by
 obtain ⟨v,h1,h2⟩:=uA (xs:=ns.map V.int) (i:=i) h0 (by rw [Ab]; exact h)
 rw [Ag,Aa (by omega)] at h2
 cases h2
 exact ⟨_,Bx _,h1⟩
theorem uO {ns:List Int} {j:Nat} {x:V} (h:(ns.map V.int)[j]? = some x):∃ n,n ∈ ns ∧ x = V.int n:=by
 obtain ⟨n,hn,e⟩:=Ba.mp (Ak h)
 exact ⟨n,hn,e.symm⟩
theorem xD {c:Nat} (h:jI c):PySem.intText? (one c) = some ((c:Int) - 48):=by
 unfold jI at h
 have:c = 49 ∨ c = 50 ∨ c = 51 ∨ c = 52:=by omega
 rcases this with rfl | rfl | rfl | rfl <;> decide +kernel
theorem cQ (zs:List Str):(zs.map V.str).all bF = true:=by
 rw [Ci]
 intro x hx
 obtain ⟨z,_,rfl⟩:=Ba.mp hx
 rfl
def chF (cw:List Nat) (k n:Nat):Option Nat:=if cw.getD n 0 = cw.getD k 0 then some (49 + n) else none
def chs (cw:List Nat) (k:Nat):List Nat:=cw.getD k 0 :: (List.range (min k 4)).filterMap (chF cw k)
theorem ch_iff {cw:List Nat} {k c:Nat}:c ∈ chs cw k ↔ c = cw.getD k 0 ∨ ∃ n,n < k ∧ n < 4 ∧ cw.getD n 0 = cw.getD k 0 ∧ c = 49 + n:=by
 unfold chs
 rw [Bg,Dy]
 constructor
 · rintro (h | ⟨n,hn,h⟩)
   · exact .inl h
   · have:=Bz.mp hn
     unfold chF at h
     split at h
     · cases h
       exact .inr ⟨n,by omega,by omega,by assumption,rfl⟩
     · cases h
 · rintro (h | ⟨n,h1,h2,h3,rfl⟩)
   · exact .inl h
   · exact .inr ⟨n,Bz.mpr (by omega),if_pos h3⟩
theorem bQK (cw:List Nat) (k:Nat):1 ≤ (chs cw k).length ∧ (chs cw k).length ≤ 5:=by
 unfold chs
 have:=Do (chF cw k) (List.range (min k 4))
 rw [Bj] at this
 rw [Bn]
 omega
theorem aJR {cw:List Nat} (hL:∀ d ∈ cw,bL d) {k:Nat} (hk:k < cw.length):bL (cw.getD k 0):=by
 rw [Af,Aa hk]
 exact hL _ (Bx hk)
theorem sZ {c:Nat} {cs:List Nat}:inV (.str (one c)) ((cs.map one).map V.str) = decide (c ∈ cs):=by
 induction cs with
 | nil => rfl
 | cons d r ih =>
   rw [Aw,Aw]
   show ((one d == one c) || inV (.str (one c)) ((r.map one).map V.str)) = _
   rw [ih,← qX]
   by_cases h:c = d
   · subst h
     rw [Ap rfl,Bool.true_or,Ap Aq]
   · rw [Av (fun z => by injection z with z; exact h (one_inj.mp z).symm),Eo]
     exact Dx.mpr ⟨fun z => Al _ z,fun z => (Bg.mp z).resolve_left h⟩
def qG (K:PySem.W.Frag):Sp:=fun vs H Q _ => ∃ (a:Addr) (ns:List Int),vs = [.ref a] ∧ SqL K H a (ns.map V.int) ∧ ns.length ≤ 63 ∧ ∀ H',Q (.bl true) H'
theorem jE {cw:List Nat} {k:Nat} {j:Int} (e:j = (k:Int)) (h:k < cw.length):atI (aY cw).cps.toList j = some (cw.getD k 0):=by
 rw [e]
 exact bX9 h
theorem dQ {H:Hp} {Q:VK} {p:Addr} {xs:List V} {i:Int} {v:V} (e:H p = some (.tup xs)) (e':atI xs i = some v) (h:Q v H):mIx (.ref p) (.int i) H Q:=by
 have e1:rdL H p = none:=by unfold rdL; rw [e]; rfl
 unfold mIx
 simp only [e1,eE e,e']
 exact h
section
variable {P:Program} {w:World} {K:PySem.W.Frag} {mg:Str → Option Value} {base:Heap}
structure Lk (kvs:List (Key × V)) (f:Nat → Option Int):Prop where
 nd:(kvs.map (·.1)).Nodup
 ks:∀ kv ∈ kvs,∃ (c:Nat) (n:Int),kv = (Sum.inr (one c),V.int n)
 val:∀ c,bJ kvs (Sum.inr (one c)) = (f c).map V.int
theorem Lk.nil:Lk [] (fun _ => none):=⟨List.nodup_nil,(fun kv h => nomatch h),fun c => rfl⟩
theorem key_one {a b:Nat}:((Sum.inr (one a):Key) = Sum.inr (one b)) ↔ a = b:=⟨fun h => one_inj.mp (Sum.inr.inj h),fun h => by rw [h]⟩
theorem vO {α:Type}:∀ {l:List α} {k:α},l.Nodup → ¬ k ∈ l → (l ++ [k]).Nodup
 | [],k,_,_ => by simp
 | a :: r,k,h,hk => by
   obtain ⟨h1,h2⟩:=Bq.mp h
   refine Bq.mpr ⟨fun m => ?_,vO h2 fun m => hk (Al _ m)⟩
   rcases Bk.mp m with q | q
   · exact h1 q
   · exact hk (by rw [As.mp q]; exact Aq ..)
theorem bX6 {kvs:List (Key × V)} {k:Key} (h:bJ kvs k = none):¬ k ∈ kvs.map (·.1):=fun m => by
 obtain ⟨p,hp,e⟩:=Ba.mp m
 have q:(kvs.any fun kv => decide (kv.1 = k)) = true:=Gj.mpr ⟨p,hp,Ap e⟩
 rw [dL,h] at q
 cases q
theorem sA (kvs:List (Key × V)) (k:Key) (v:V) (h:bJ kvs k ≠ none):(cY kvs k v).map (·.1) = kvs.map (·.1):=by
 unfold cY
 have e:(kvs.any fun kv => decide (kv.1 = k)) = true:=by
   rw [dL]
   cases q:bJ kvs k with
   | none => exact absurd q h
   | some _ => rfl
 rw [if_pos e,Ce]
 refine Cd fun kv _ => ?_
 show (if kv.1 = k then (kv.1,v) else kv).1 = kv.1
 split <;> rfl
theorem Lk.put {kvs:List (Key × V)} {f:Nat → Option Int} (h:Lk kvs f) (c:Nat) (n:Int):Lk (cY kvs (Sum.inr (one c)) (.int n)) (fun d => if d = c then some n else f d) where
 nd:=by
   cases e:bJ kvs (Sum.inr (one c)) with
   | none => rw [fM _ e,Aj]; exact vO h.nd (bX6 e)
   | some v => rw [sA _ _ _ (by rw [e]; exact fun z => nomatch z)]; exact h.nd
 ks:=fun kv hkv => by
   unfold cY at hkv
   split at hkv
   · obtain ⟨kv',h',e⟩:=Ba.mp hkv
     obtain ⟨c',n',e'⟩:=h.ks kv' h'
     subst e'
     dsimp only at e
     split at e
     · exact ⟨c',n,e.symm⟩
     · exact ⟨c',n',e.symm⟩
   · rcases Bk.mp hkv with q | q
     · exact h.ks kv q
     · exact ⟨c,n,As.mp q⟩
 val:=fun d => by
   rw [aZP]
   by_cases e:d = c
   · rw [if_pos (key_one.mpr e),if_pos e]; rfl
   · rw [if_neg (fun z => e (key_one.mp z)),if_neg e]; exact h.val d
theorem aQY {kvs:List (Key × V)} (nd:(kvs.map (·.1)).Nodup) {kv:Key × V} (h:kv ∈ kvs):bJ kvs kv.1 = some kv.2:=by
 induction kvs with
 | nil => cases h
 | cons p r ih =>
   obtain ⟨n1,n2⟩:=Bq.mp nd
   rcases Bg.mp h with e | e
   · subst e; exact bT rfl
   · rw [bN fun z => n1 (by show p.1 ∈ _; rw [z]; exact Ba.mpr ⟨kv,e,rfl⟩)]
     exact ih n2 e
theorem aJS {α:Type} [DecidableEq α]:∀ {l m:List α},l.Nodup → (∀ x ∈ l,x ∈ m) → l.length ≤ m.length
 | [],m,_,_ => By _
 | a :: r,m,h,s => by
   obtain ⟨h1,h2⟩:=Bq.mp h
   have q:=aJS (l:=r) (m:=m.erase a) h2 fun x hx => (List.mem_erase_of_ne fun z => h1 (by rw [← z]; exact hx)).mpr (s x (Al _ hx))
   have ha:=s a (Aq ..)
   rw [List.length_erase_of_mem ha] at q
   have:=List.length_pos_of_mem ha
   rw [Bn]
   omega
theorem Lk.at_mem {kvs:List (Key × V)} {f:Nat → Option Int} (h:Lk kvs f) {kv:Key × V} (hkv:kv ∈ kvs):∃ c n,kv = (Sum.inr (one c),V.int n) ∧ f c = some n:=by
 obtain ⟨c,n,e⟩:=h.ks kv hkv
 have v:=aQY h.nd hkv
 rw [e] at v
 have v2:=h.val c
 rw [v2] at v
 cases q:f c with
 | none => rw [q] at v; cases v
 | some m => rw [q] at v; cases v; exact ⟨c,_,e,q⟩
theorem Lk.keys {kvs kws:List (Key × V)} {f:Nat → Option Int} (h:Lk kvs f) (h':Lk kws f):∀ x ∈ kvs.map (·.1),x ∈ kws.map (·.1):=fun x hx => by
 obtain ⟨kv,hkv,rfl⟩:=Ba.mp hx
 obtain ⟨c,n,rfl,hf⟩:=h.at_mem hkv
 have v:=h'.val c
 rw [hf] at v
 have q:(kws.any fun kv => decide (kv.1 = Sum.inr (one c))) = true:=by rw [dL,v]; rfl
 obtain ⟨p,hp,e⟩:=Gj.mp q
 exact Ba.mpr ⟨p,hp,Cb e⟩
def aL (f:Nat → Option Int) (c:Nat):Int:=(f c).getD 0
def uM (c:Nat):Prop:=bL c ∨ jI c
instance (c:Nat):Decidable (uM c):=inferInstanceAs (Decidable (_ ∨ _))
def aX (n:Nat → Int) (c:Nat):Option Int:=if uM c ∧ 0 < n c then some (n c) else none
theorem yD {n:Nat → Int} {c:Nat} (hc:uM c) (h:0 ≤ n c):aL (aX n) c = n c:=by
 unfold aL aX
 by_cases q:0 < n c
 · rw [if_pos ⟨hc,q⟩]; rfl
 · rw [if_neg fun z => q z.2]; show (0:Int) = n c; omega
theorem Lk.ext {kvs:List (Key × V)} {f g:Nat → Option Int} (h:Lk kvs f) (e:f = g):Lk kvs g:=e ▸ h
theorem lO (f:Nat → Option Int) (c:Nat):((f c).map V.int).getD (.int 0) = .int (aL f c):=by
 unfold aL
 cases f c <;> rfl
theorem flags_mem {c:Nat}:c ∈ flagsT.cps.toList ↔ uM c:=yV
def cJR (n:Nat → Int) (i c:Nat):Option Int:=if c ∈ flagsT.cps.toList.take i ∧ 0 < n c then some (n c) else none
theorem cX3 (n:Nat → Int):cJR n 0 = fun _ => none:=by
 funext c
 unfold cJR
 rw [List.take_zero]
 exact if_neg fun z => nomatch z.1
def kvL (g:Nat → Int) (L:List Nat):List (Key × V):=L.map fun c => (Sum.inr (one c),V.int (g c))
def cO (n:Nat → Int) (i:Nat):List Nat:=(flagsT.cps.toList.take i).filter fun c => decide (0 < n c)
theorem rL {g:Nat → Int} {L:List Nat} {c:Nat} (h:c ∉ L):bJ (kvL g L) (Sum.inr (one c)) = none:=by
 induction L with
 | nil => rfl
 | cons d r ih =>
   show bJ ((Sum.inr (one d),V.int (g d)) :: kvL g r) _ = none
   rw [bN (fun z => h (by rw [key_one.mp z]; exact Aq)),ih fun z => h (Al _ z)]
theorem flags_nd:flagsT.cps.toList.Nodup:=by decide +kernel
theorem plainL_mem {n:Nat → Int} {i c:Nat}:c ∈ cO n i ↔ c ∈ flagsT.cps.toList.take i ∧ 0 < n c:=by
 unfold cO
 rw [Cs,Bh]
theorem uI {n:Nat → Int} {i c:Nat} (h:flagsT.cps.toList[i]? = some c):c ∉ cO n i:=fun z => by
 have m:=(plainL_mem.mp z).1
 obtain ⟨j,hj,e⟩:=Ca.mp m
 rw [Bl] at hj
 rw [List.getElem_take] at e
 obtain ⟨hi,e2⟩:=Ad.mp h
 have:=(Fc flags_nd).mp (e.trans e2.symm)
 omega
theorem uF {n:Nat → Int} {i c:Nat} (h:flagsT.cps.toList[i]? = some c) (p:0 < n c):cO n (i + 1) = cO n i ++ [c]:=by
 unfold cO
 rw [Bb,h,En]
 show _ ++ [c].filter _ = _
 rw [show [c].filter (fun c => decide (0 < n c)) = [c] by simp [p]]
theorem tX {n:Nat → Int} {i c:Nat} (h:flagsT.cps.toList[i]? = some c) (p:¬ 0 < n c):cO n (i + 1) = cO n i:=by
 unfold cO
 rw [Bb,h,En]
 show _ ++ [c].filter _ = _
 rw [show [c].filter (fun c => decide (0 < n c)) = [] by simp; omega,List.append_nil]
theorem nF (n:Nat → Int) (i:Nat):(cO n i).length ≤ 27:=by
 unfold cO
 exact Ax (List.length_filter_le ..) (by rw [Bl]; exact Ax (Nat.min_le_right ..) (by decide))
theorem xQ (n:Nat → Int) (i:Nat):(cO n i).Nodup:=(flags_nd.sublist (List.take_sublist ..)).filter _
def zP (g:Nat → Int) (L:List Nat) (d:Nat):Option Int:=if d ∈ L then some (g d) else none
theorem aZ0 (g:Nat → Int) {r:List Nat} {c:Nat} (hc:c ∉ r) (h:Lk (kvL g r) (zP g r)):Lk (kvL g (r ++ [c])) (zP g (r ++ [c])):=by
 have l:=h.put c (g c)
 rw [fM _ (rL hc)] at l
 have e:kvL g (r ++ [c]) = kvL g r ++ [(Sum.inr (one c),V.int (g c))]:=by unfold kvL; rw [Aj]; rfl
 rw [e]
 refine l.ext ?_
 funext d
 unfold zP
 by_cases hd:d = c
 · subst hd
   rw [if_pos rfl,if_pos (Bm _ (As.mpr rfl))]
 · rw [if_neg hd]
   by_cases hr:d ∈ r
   · rw [if_pos hr,if_pos (Ct _ hr)]
   · rw [if_neg hr,if_neg (fun z => (Bk.mp z).elim hr fun y => hd (As.mp y))]
theorem vV (g:Nat → Int):∀ (L r:List Nat),(r ++ L).Nodup → Lk (kvL g r) (zP g r) → Lk (kvL g (r ++ L)) (zP g (r ++ L))
 | [],r,_,h => by rw [Bw]; exact h
 | c :: L,r,nd,h => by
   have e:r ++ c :: L = (r ++ [c]) ++ L:=by rw [List.append_assoc]; rfl
   have hc:c ∉ r:=fun z => (Ee.mp nd).2.2 c z c Aq rfl
   rw [e] at nd ⊢
   exact vV g L (r ++ [c]) nd (aZ0 g hc h)
theorem cQV (g:Nat → Int) {L:List Nat} (nd:L.Nodup):Lk (kvL g L) (fun d => if d ∈ L then some (g d) else none):=by
 have r:=vV g L [] nd (Lk.nil.ext (by funext d; unfold zP; rw [if_neg (fun z => nomatch z)]))
 exact r
theorem zQ (n:Nat → Int):Lk (kvL n (cO n 27)) (aX n):=by
 refine (cQV n (xQ n 27)).ext ?_
 funext d
 unfold aX
 have e:d ∈ cO n 27 ↔ uM d ∧ 0 < n d:=by
   rw [plainL_mem,Dw (by decide),flags_mem]
 by_cases h:d ∈ cO n 27
 · rw [if_pos h,if_pos (e.mp h)]
 · rw [if_neg h,if_neg (fun z => h (e.mpr z))]
def fY:Sp:=fun vs H Q _ => ∃ (a:Addr) (kvs:List (Key × V)) (f:Nat → Option Int),vs = [.ref a] ∧ Rd H a (.dK kvs) ∧ Lk kvs f ∧
 ∀ (r:Addr) (H':Hp),H r = none → Same H H' → H' r = some (.dK (kvL (aL f) (cO (aL f) 27))) → Q (.ref r) H'
theorem sc_plain_locker:FnScope ["locker", "plain", "flag"] ["locker"] (aG cF):=⟨rfl,rfl,rfl,by decide +kernel,rfl,by decide +kernel,by decide +kernel⟩
theorem lH {Zy Zz:Addr} {f:Addr} {fd:FuncData} (F:Fun K "plain_locker" "plain_locker" cF f fd) (G:Gs K mg Zy Zz)  : FnOk P w K mg base CX0 1 f fd ["locker"] fY:=by
 refine F.ok sc_plain_locker (fun vs H Q E h => ?_) (fun cdv A outer s H vs Q E hr h => ?_)
 · obtain ⟨a,kvs,f,rfl,_⟩:=h; rfl
 obtain ⟨a,kvs,f,rfl,ha,lk,q⟩:=h
 refine ⟨_,(@aF _ _ _ _ _ (@aQ _ _ 1 _ _ _ _ sc_plain_locker.nd (by rfl) (by exact (Or.inl rfl)) mR (by rfl) (by first | exact Or.inl rfl | exact Or.inr rfl)) (@aF _ _ _ _ _ (bZ Bc rfl (mL (qA rfl G.s_FLAGS)) (aP (i:=2) sc_plain_locker.nd rfl (Or.inl rfl)) (@aK _ _ _ (dM (bH cXB (fK Bs Di (wX (Room.u1 hr)) (mv 0) (aA (mv 2) (aA aI aE))) aI (bS _)) (@aK _ _ _ (eG (Room.u1 hr) (mv 1) (mv 2) (fU (Room.u1 hr) (mv 0) (mv 2) (fun _ _ => rfl)) rfl)) bQ))) (@aK _ _ _ (aW (mv 1))))),?_⟩
 walk_at "go"
 intro p hp
 walk_at "go"
 refine aQK (fun i σ H' => ∃ (v:Option V),σ = [some (.ref a),some (.ref p),v] ∧ Same H H' ∧ H' p = some (.dK (kvL (aL f) (cO (aL f) i))))
   ⟨none,rfl,aD hp _,aB⟩ ?_ ?_
 · rintro i c σ H2 hc ⟨v,rfl,s2,hH⟩
   have hi:i < 27:=(Ad.mp hc).1
   have ha2:Rd H2 a (.dK kvs):=ha.elim (fun e => .inl (s2 _ _ e)) fun ⟨o,e⟩ => .inr ⟨o,s2 _ _ e⟩
   have hd2:isD H2 a = true:=ha2.elim jZ fun ⟨o,e⟩ => aZ1 e
   have hpl:(kvL (aL f) (cO (aL f) i)).length < sizeLine:=aT (by unfold kvL; rw [Ab]; have:=nF (aL f) i; omega)
   walk_at "go"
   refine xG (z:=one c) ha2 ?_
   rw [lk.val c,lO]
   walk_at "go"
   refine lJ (fun hd => ?_) (fun hd => ?_)
   · have hd':=Cb hd
     obtain ⟨n,hn⟩:∃ n,f c = some n:=by
       cases e:f c with
       | none => rw [show aL f c = 0 by unfold aL; rw [e]; rfl] at hd'; omega
       | some n => exact ⟨n,rfl⟩
     have hcn:aL f c = n:=by unfold aL; rw [hn]; rfl
     walk_at "go"
     refine pV (z:=one c) ha2 (by rw [lk.val c,hn]; rfl) ?_
     walk_at "go"
     refine fP (z:=one c) hH hpl ?_
     refine ⟨_,rfl,bA hp s2,?_⟩
     rw [aB,fM _ (rL (uI hc)),uF hc (by omega)]
     unfold kvL
     rw [Aj,← hcn]
     rfl
   · have hd':=Ec (Dq.mpr hd)
     walk_at "go"
     exact ⟨_,rfl,s2,by rw [hH,tX hc (by omega)]⟩
 · rintro σ H2 ⟨v,rfl,s2,hH⟩
   walk_at "go"
   exact q p H2 hp s2 hH
def iM:Sp:=fun vs H Q _ => ∃ (cw:List Nat) (k:Nat) (p:Int),vs = [.str (aY cw),.int p] ∧ p = (k:Int) + 1 ∧ k < cw.length ∧ cw.length ≤ 7 ∧
 ∀ (r:Addr) (H':Hp),H r = none → Same H H' → H' r = some (.lst (((chs cw k).map one).map V.str)) → Q (.ref r) H'
theorem bQM {β:Type} (G:Nat → Option β) (k:Nat):[0,1,2,3].filterMap (fun n => if n < k then G n else none) = (List.range (min k 4)).filterMap G:=by
 match k with
 | 0 => rfl
 | 1 => rfl
 | 2 => rfl
 | 3 => rfl
 | k + 4 =>
   rw [Gm (by omega)]
   exact mW fun n hn => if_pos (by simp only [List.mem_cons,List.not_mem_nil,or_false] at hn; omega)
def atF (cw:List Nat) (k:Nat) (c:Nat):Option V:=if c - 49 < k then (if cw.getD (c - 49) 0 = cw.getD k 0 then some (.str (one c)) else none) else none
theorem cX8 (cw:List Nat) (k:Nat):subsT.cps.toList.filterMap (atF cw k) = (((List.range (min k 4)).filterMap (chF cw k)).map one).map V.str:=by
 rw [uP,show [49,50,51,52] = [0,1,2,3].map (49 + ·) from rfl,List.filterMap_map,Ce,List.map_filterMap,← bQM]
 refine mW fun n _ => ?_
 show atF cw k (49 + n) = _
 unfold atF chF
 rw [show 49 + n - 49 = n by omega]
 by_cases h1:n < k
 · rw [if_pos h1,if_pos h1]
   by_cases h2:cw.getD n 0 = cw.getD k 0
   · rw [if_pos h2,if_pos h2]; rfl
   · rw [if_neg h2,if_neg h2]; rfl
 · rw [if_neg h1,if_neg h1]
theorem sc_choices_at:FnScope ["word", "place", "letter", "above"] ["word", "place"] (aG cM):=⟨rfl,rfl,rfl,by decide +kernel,rfl,by decide +kernel,by decide +kernel⟩
theorem nP {Zy Zz:Addr} {f:Addr} {fd:FuncData} (F:Fun K "choices_at" "choices_at" cM f fd) (G:Gs K mg Zy Zz)  : FnOk P w K mg base CX0 1 f fd ["word", "place"] iM:=by
 refine F.ok sc_choices_at (fun vs H Q E h => ?_) (fun cdv A outer s H vs Q E hr h => ?_)
 · obtain ⟨cw,k,p,rfl,_⟩:=h; rfl
 obtain ⟨cw,k,pl,rfl,hpl,hk,h7,q⟩:=h
 refine ⟨_,(@aF _ _ _ _ _ (@aQ _ _ 2 _ _ _ _ sc_choices_at.nd (by rfl) (by exact (Or.inr rfl)) (bC cA (mv 0) (aR iL (mv 1) aI) (fun _ _ => rfl)) (by rfl) (by first | exact Or.inl rfl | exact Or.inr rfl)) (@aF _ _ _ _ _ (hV (i:=3) sc_choices_at.nd rfl (Or.inl rfl) rfl (mL (qA rfl G.s_SUBSTITUTES)) (eO (N:=["sign", "place", "letter", "word"]) ["word", "place", "letter", "above"] (aG cM) [none,some 1,some 2,some 0] rfl rfl rfl (fun x h => bM h) (by decide +kernel)) (by decide +kernel) rfl (by decide +kernel) (fun C s₀ H₀ ex => (aP (i:=0) (show List.Nodup (["sign", "place", "letter", "word"]:List Str) by decide +kernel) rfl (Or.inl rfl))) (fun C s₀ H₀ ex => (iP (PW.pt (cXZ (bH bJY (aZ bZ8 rfl G.b_int uN (aA (mv 0) aE)) (mv 1) (bS _)) (bZC (bH aQC (bC cA (mv 3) (aR iL (aZ bZ8 rfl G.b_int uN (aA (mv 0) aE)) aI) (fun _ _ => rfl)) (mv 2) (bS _))))))) (fun C s₀ H₀ ex => (mv 0))) (@aK _ _ _ (aW (aR cI (cJ (aA (mv 2) aE)) (mv 3)))))),?_⟩
 have hwl:(aY cw).length = cw.length:=fE cw
 walk_at "go"
 refine jK (by rw [hwl]; exact bX (by omega)) (jE (k:=k) (by omega) hk) ?_
 walk_at "go"
 refine cQH (atF cw k) (aT (by decide)) (fun i c Hc A B hc' hA => ?_) (fun D hD => ?_)
 · have hs:jI c:=mem_subs.mp (Ak hc')
   have h49:49 ≤ c:=hs.1
   walk_at "go"
   refine ⟨Wk.set rfl (Wk.refl _),?_⟩
   walk_at "go"
   refine aZQ (xD hs) (by show 1 ≤ 640; decide) ?_
   walk_at "go"
   unfold atF at hA
   refine lJ (fun hd => ?_) (fun hd => ?_)
   · have hd':=Cb hd
     have hck:c - 49 < k:=by omega
     rw [if_pos hck] at hA
     walk_at "go"
     refine aZQ (xD hs) (by show 1 ≤ 640; decide) ?_
     walk_at "go"
     refine jK (by rw [hwl]; exact bX (by omega)) (jE (k:=c - 49) (by omega) (by omega)) ?_
     walk_at "go"
     rw [show decide (({ cps:=#[cw.getD (c - 49) 0] }:Str) = { cps:=#[cw.getD k 0] }) = decide (cw.getD (c - 49) 0 = cw.getD k 0) from pY _ _]
     by_cases he:cw.getD (c - 49) 0 = cw.getD k 0
     · rw [Ap he]
       rw [if_pos he] at hA
       walk_at "go"
       exact hA
     · rw [Av he]
       rw [if_neg he] at hA
       walk_at "go"
       exact hA
   · have hd':=Ec (Dq.mpr hd)
     have hck:¬ c - 49 < k:=by omega
     rw [if_neg hck] at hA
     walk_at "go"
     exact hA
 · rw [show (Str.ofString "1234").cps.toList.filterMap (atF cw k) = _ from cX8 cw k]
   walk_at "go"
   refine ⟨by show 1 ≤ sizeLine; decide,fun p hp => ?_⟩
   have hDp:D ≠ p:=fun z => by rw [z,aB] at hp; cases hp
   have hp0:H p = none:=by rw [aJ (Ne.symm hDp)] at hp; exact hp
   have hlen:((((List.range (min k 4)).filterMap (chF cw k)).map one).map V.str).length ≤ 4:=by
     have:=Do (chF cw k) (List.range (min k 4))
     rw [Bj] at this
     rw [Ab,Ab]
     omega
   walk_at "go"
   refine mN (xs:=[V.str (one (cw.getD k 0))]) (ys:=(((List.range (min k 4)).filterMap (chF cw k)).map one).map V.str) kL (by rw [bXR hDp]; exact kL) (bX (by show 1 + _ ≤ _; omega)) fun r hr => ?_
   have hr0:H r = none:=by
     by_cases z:r = p
     · rw [z]; exact hp0
     · rw [aJ z] at hr
       by_cases z2:r = D
       · rw [z2]; exact hD
       · rw [aJ z2] at hr; exact hr
   walk_at "go"
   exact q r _ hr0 ((aD hD _).trans ((aD hp _).trans (aD hr _))) aB
def tG (cws:List (List Nat)) (k:Nat):List (List V):=(List.range (cws.getD k []).length).map fun j:Nat => [V.int (k:Int),V.int (1 + (j:Int))]
def iY (cws:List (List Nat)) (i:Nat):List (List V):=((List.range i).map (tG cws)).flatten
theorem gL (cws:List (List Nat)) (i:Nat):iY cws (i + 1) = iY cws i ++ tG cws i:=by
 unfold iY
 rw [Ck,Aj,List.flatten_append]
 simp
theorem aZG {cws:List (List Nat)} {k:Nat} (h7:∀ c ∈ cws,c.length ≤ 7):(tG cws k).length ≤ 7:=by
 unfold tG
 rw [Ab,Bj,Af]
 cases e:cws[k]? with
 | none => exact By _
 | some c => exact h7 c (Ak e)
theorem iT {cws:List (List Nat)} (h7:∀ c ∈ cws,c.length ≤ 7):∀ i,(iY cws i).length ≤ 7 * i
 | 0 => Ai _
 | i + 1 => by
   rw [gL,Am]
   have:=iT h7 i
   have:=aZG (k:=i) h7
   omega
theorem nJ {cws:List (List Nat)} {i:Nat} {x:V} (h:((cws.map aY).map V.str)[i]? = some x):∃ c,cws[i]? = some c ∧ c ∈ cws ∧ x = .str (aY c):=by
 rw [Ag,Ag] at h
 cases e:cws[i]? with
 | none => rw [e] at h; cases h
 | some c => rw [e] at h; cases h; exact ⟨c,rfl,Ak e,rfl⟩
theorem yK {xs:List V} (h:xs.all bF = true):gQ xs xs = true:=by
 rw [iC rfl,Ci]
 intro j hj
 exact fJ (eQ h j)
def lE:Sp:=fun vs H Q _ => ∃ (a:Addr) (cws:List (List Nat)),vs = [.ref a] ∧ rdL H a = some ((cws.map aY).map V.str) ∧ cws.length ≤ 8 ∧ (∀ c ∈ cws,c.length ≤ 7) ∧
 ∀ (r:Addr) (ps:List Addr) (H':Hp),H r = none → Same H H' → H' r = some (.lst (ps.map V.ref)) → Tups H H' ps (iY cws cws.length) → Q (.ref r) H'
theorem sc_wants_of:FnScope ["words", "wants", "number", "word"] ["words"] (aG dF):=⟨rfl,rfl,rfl,by decide +kernel,rfl,by decide +kernel,by decide +kernel⟩
theorem sT {Zy Zz:Addr} {f:Addr} {fd:FuncData} (F:Fun K "wants_of" "wants_of" dF f fd) (G:Gs K mg Zy Zz)  : FnOk P w K mg base CX0 1 f fd ["words"] lE:=by
 refine F.ok sc_wants_of (fun vs H Q E h => ?_) (fun cdv A outer s H vs Q E hr h => ?_)
 · obtain ⟨a,cws,rfl,_⟩:=h; rfl
 obtain ⟨a,cws,rfl,ha,h8,h7,q⟩:=h
 refine ⟨_,(@aF _ _ _ _ _ (@aQ _ _ 1 _ _ _ _ sc_wants_of.nd (by rfl) (by exact (Or.inl rfl)) (cJ aE) (by rfl) (by first | exact Or.inl rfl | exact Or.inr rfl)) (@aF _ _ _ _ _ (bZ Bc rfl (wA rfl G.b_enumerate (aA (mv 0) aE)) (hU (K:=K) (i:=2) (j:=3) (by rfl) (by rfl) sc_wants_of.nd (by rfl) (by exact (Or.inr rfl)) (by exact Or.inl rfl) (by rfl) (by exact (Or.inl rfl)) (by exact Or.inl rfl)) (@aK _ _ _ (cW (eX Bp Fm Fn aZS (mv 1) (aA (dN rfl (pJ rfl G.b_range (aA aI (aA (aR cI (aN eJ rfl G.b_len cH (aA (mv 3) aE)) aI) aE))) (eO (N:=["place", "number"]) ["words", "wants", "number", "word"] (aG dF) [none,some 2] rfl rfl rfl (fun x h => bM h) (by decide +kernel)) (by decide +kernel) rfl (by decide +kernel) (fun C s₀ H₀ ex => (aP (i:=0) (show List.Nodup (["place", "number"]:List Str) by decide +kernel) rfl (Or.inl rfl))) (fun C s₀ H₀ ex => fD) (fun C s₀ H₀ ex => (fR (aA (mv 1) (aA (mv 0) aE))))) aE))))) (@aK _ _ _ (aW (mv 1))))),?_⟩
 walk_at "go"
 refine ⟨by decide,fun p hp => ?_⟩
 have ha1:=aH (aD hp (HO.lst [])) ha
 walk_at "go"
 refine wL (xs:=(cws.map aY).map V.str) (fun i σ H' => ∃ (ps:List Addr) (v1 v2:Option V),σ = [some (.ref a),some (.ref p),v1,v2] ∧ Same H H' ∧ H' p = some (.lst (ps.map V.ref)) ∧ Tups H H' ps (iY cws i))
   ⟨[],_,_,rfl,aD hp _,aB,.nil⟩ (fun j σ H' _ ⟨_,_,_,_,e,_⟩ => aH e ha) ?_ ?_
 · rintro i x σ H2 pt hx ⟨ps,v1,v2,rfl,s2,hH,tp⟩ hpt
   have hi:i < cws.length:=by have:=(Ad.mp hx).1; rw [Ab,Ab] at this; exact this
   obtain ⟨cw,hcw,hm,rfl⟩:=nJ hx
   have hc7:=h7 cw hm
   have hwl:(aY cw).length = cw.length:=fE cw
   walk_at "go"
   rw [hwl]
   refine ⟨⟨by omega,by omega,by omega,by omega⟩,?_⟩
   rw [show ((cw.length:Int) + 1 - 1).toNat = cw.length by omega]
   have s3:=s2.trans (aD hpt (HO.tup [V.int ((0 + i:Nat):Int),V.str (aY cw)]))
   have hH3:=aD hpt (HO.tup [V.int ((0 + i:Nat):Int),V.str (aY cw)]) _ _ hH
   have tp3:=tp.keep (aD hpt (HO.tup [V.int ((0 + i:Nat):Int),V.str (aY cw)]))
   generalize upd H2 pt (HO.tup [V.int ((0 + i:Nat):Int),V.str (aY cw)]) = H3 at s3 hH3 tp3 ⊢
   refine zX (fun j => [V.int ((0 + i:Nat):Int),V.int (1 + (j:Int))]) (aT (by omega)) (fun j Hc A B hj hs hA => ?_) (fun D Hd qs hD sD hDd hqn tq => ?_)
   · walk_at "go"
     refine ⟨Wk.set rfl (Wk.refl _),?_⟩
     walk_at "go"
     exact ⟨by show 2 ≤ sizeLine; decide,fun pp hpp => hA pp _ hpp (aD hpp _) aB⟩
   · have hpd:=sD _ _ hH3
     have hpl:ps.length ≤ 7 * i:=by rw [tp.1]; exact iT h7 i
     have e:(List.range cw.length).map (fun j:Nat => [V.int ((0 + i:Nat):Int),V.int (1 + (j:Int))]) = tG cws i:=by
       unfold tG
       rw [Af,hcw,Nat.zero_add]
       rfl
     rw [e] at tq
     walk_at "go"
     refine ⟨ps ++ qs,_,_,rfl,bA hp (s3.trans sD),by rw [aB,Aj],?_⟩
     rw [gL]
     exact ((tp3.keep sD).app (tq.older s3)).put hpd
 · rintro σ H2 ⟨ps,v1,v2,rfl,s2,hH,tp⟩
   walk_at "go"
   rw [show ((cws.map aY).map V.str).length = cws.length by rw [Ab,Ab]] at tp
   exact q p ps H2 hp s2 hH tp
def mX (cws:List (List Nat)) (i:Nat):Nat:=((cws.take i).map List.length).sum
def kQ (cws:List (List Nat)) (cs:List Nat) (i:Nat):List V:=(((cs.drop (mX cws i)).take (cws.getD i []).length).map one).map V.str
theorem xO {cws:List (List Nat)} {i:Nat} {cw:List Nat} (h:cws[i]? = some cw):mX cws (i + 1) = mX cws i + cw.length:=by
 unfold mX
 rw [Bb,h,Aj,List.sum_append]
 simp
theorem bQC {xs:List V} {i j:Nat} (hj:i ≤ j):gR xs (some (i:Int)) (some (j:Int)) = (xs.drop i).take (j - i):=by
 unfold gR
 show (xs.drop (if (i:Int) < 0 then ((i:Int) + (xs.length:Int)).toNat else min (i:Int).toNat xs.length)).take ((if (j:Int) < 0 then ((j:Int) + (xs.length:Int)).toNat else min (j:Int).toNat xs.length) - (if (i:Int) < 0 then ((i:Int) + (xs.length:Int)).toNat else min (i:Int).toNat xs.length)) = _
 rw [if_neg (by omega),if_neg (by omega),Dc,Dc]
 by_cases h1:i ≤ xs.length
 · rw [Nat.min_eq_left h1]
   by_cases h2:j ≤ xs.length
   · rw [Nat.min_eq_left h2]
   · rw [Gm (by omega),Dw (by rw [Cf]; omega),Dw (by rw [Cf]; omega)]
 · rw [Gm (show xs.length ≤ i by omega),Gg (Ai _),Gg (by omega),List.take_nil,List.take_nil]
def jW:Sp:=fun vs H Q _ => ∃ (a b:Addr) (cws:List (List Nat)) (cs:List Nat),vs = [.ref a,.ref b] ∧ rdL H a = some ((cws.map aY).map V.str) ∧ rdL H b = some ((cs.map one).map V.str) ∧ cws.length ≤ 8 ∧ (∀ c ∈ cws,c.length ≤ 7) ∧
 ∀ (r:Addr) (ps:List Addr) (H':Hp),H r = none → Same H H' → H' r = some (.lst (ps.map V.ref)) → (∀ p ∈ ps,p ≠ r) → Lsts H H' ps ((List.range cws.length).map (kQ cws cs)) → Q (.ref r) H'
theorem sc_hoists_of:FnScope ["words", "flags", "hoists", "start", "word", "end"] ["words", "flags"] (aG dJ):=⟨rfl,rfl,rfl,by decide +kernel,rfl,by decide +kernel,by decide +kernel⟩
theorem pW {Zy Zz:Addr} {f:Addr} {fd:FuncData} (F:Fun K "hoists_of" "hoists_of" dJ f fd) (G:Gs K mg Zy Zz)  : FnOk P w K mg base CX0 1 f fd ["words", "flags"] jW:=by
 refine F.ok sc_hoists_of (fun vs H Q E h => ?_) (fun cdv A outer s H vs Q E hr h => ?_)
 · obtain ⟨a,b,cws,cs,rfl,_⟩:=h; rfl
 obtain ⟨a,b,cws,cs,rfl,ha,hb,h8,h7,q⟩:=h
 refine ⟨_,(@aF _ _ _ _ _ (@aQ _ _ 2 _ _ _ _ sc_hoists_of.nd (by rfl) (by exact (Or.inl rfl)) (cJ aE) (by rfl) (by first | exact Or.inl rfl | exact Or.inr rfl)) (@aF _ _ _ _ _ (@aQ _ _ 3 _ _ _ _ sc_hoists_of.nd (by rfl) (by exact (Or.inl rfl)) aI (by rfl) (by first | exact Or.inl rfl | exact Or.inr rfl)) (@aF _ _ _ _ _ (bZ Bc rfl (bV (mv 0)) (aP (i:=4) sc_hoists_of.nd rfl (Or.inl rfl)) (@aF _ _ _ _ _ (@aQ _ _ 5 _ _ _ _ sc_hoists_of.nd (by rfl) (by exact (Or.inl rfl)) (aR cI (mv 3) (aN eJ rfl G.b_len cH (aA (mv 4) aE))) (by rfl) (by first | exact Or.inl rfl | exact Or.inr rfl)) (@aF _ _ _ _ _ (cW (eX Bp Eg Eh vT (mv 2) (aA (aZ fB rfl G.b_list cE (aA (jS dQC (mv 1) (iD (mv 3)) (iD (mv 5))) aE)) aE))) (@aK _ _ _ (@aQ _ _ 3 _ _ _ _ sc_hoists_of.nd (by rfl) (by exact (Or.inl rfl)) (mv 5) (by rfl) (by first | exact Or.inl rfl | exact Or.inr rfl)))))) (@aK _ _ _ (aW (mv 2)))))),?_⟩
 have hll:((cws.map aY).map V.str).length = cws.length:=by rw [Ab,Ab]
 walk_at "go"
 refine ⟨by decide,fun p hp => ?_⟩
 have ha1:=aH (aD hp (HO.lst [])) ha
 walk_at "go"
 refine eF (xs:=(cws.map aY).map V.str) (fun i σ H' => ∃ (ps:List Addr) (v4 v5:Option V),σ = [some (.ref a),some (.ref b),some (.ref p),some (.int ((mX cws i:Nat):Int)),v4,v5] ∧ Same H H' ∧ H' p = some (.lst (ps.map V.ref)) ∧ (∀ x ∈ ps,x ≠ p) ∧ ps.length = i ∧ Lsts H H' ps ((List.range i).map (kQ cws cs)))
   ⟨[],_,_,rfl,aD hp _,aB,(fun x hx => nomatch hx),rfl,.nil⟩ (fun j σ H' _ ⟨_,_,_,_,e,_⟩ => aH e ha) ?_ ?_
 · rintro i x σ H2 hx ⟨ps,v4,v5,rfl,s2,hH,hne,hpl,tp⟩
   have hi:i < cws.length:=by have:=(Ad.mp hx).1; rw [hll] at this; exact this
   obtain ⟨cw,hcw,hm,rfl⟩:=nJ hx
   have hc7:=h7 cw hm
   have hwl:(aY cw).length = cw.length:=fE cw
   have hb2:=aH s2 hb
   walk_at "go"
   rw [hwl]
   intro r1 hr1
   rw [show ((mX cws i:Nat):Int) + ((cw.length:Nat):Int) = ((mX cws i + cw.length:Nat):Int) by push_cast; rfl,bQC (by omega),show mX cws i + cw.length - mX cws i = cw.length by omega]
   have hrow_e:(((cs.map one).map V.str).drop (mX cws i)).take cw.length = kQ cws cs i:=by
     unfold kQ
     rw [Af,hcw,List.map_take,List.map_take,List.map_drop,List.map_drop]
     rfl
   rw [hrow_e]
   walk_at "go"
   intro r2 hr2
   have hp1:r2 ≠ p:=fun z => by
     have:=aD hr1 (HO.lst (kQ cws cs i)) _ _ hH
     rw [← z,hr2] at this
     cases this
   have s3:Same H2 (upd (upd H2 r1 (HO.lst (kQ cws cs i))) r2 (HO.lst (kQ cws cs i))):=(aD hr1 _).trans (aD hr2 _)
   have hr3:(upd (upd H2 r1 (HO.lst (kQ cws cs i))) r2 (HO.lst (kQ cws cs i))) r2 = some (.lst (kQ cws cs i)):=aB
   have hr20:H2 r2 = none:=none_of (aD hr1 _) hr2
   generalize upd (upd H2 r1 (HO.lst (kQ cws cs i))) r2 (HO.lst (kQ cws cs i)) = H3 at s3 hr3 ⊢
   have hH3:=s3 _ _ hH
   have hm3:=bP hH3
   walk_at "go"
   have hne2:∀ x ∈ ps ++ [r2],x ≠ p:=fun x hx => by
     rcases Bk.mp hx with e | e
     · exact hne x e
     · rw [As.mp e]; exact hp1
   refine ⟨ps ++ [r2],some (.str (aY cw)),some (.int ((mX cws i + cw.length:Nat):Int)),?_,bA hp (s2.trans s3),by rw [aB,Aj]; rfl,hne2,by rw [Am,hpl]; rfl,?_⟩
   · rw [xO hcw]
     rfl
   · rw [Ck,Aj]
     exact ((tp.keep s3).snoc (none_of s2 hr20) hr3).put hne2
 · rintro σ H2 ⟨ps,v4,v5,rfl,s2,hH,hne,hpl,tp⟩
   walk_at "go"
   rw [hll] at tp
   exact q p ps H2 hp s2 hH hne tp
abbrev Wt:=Nat × Nat
def bU (w:Wt):List Key:=[Sum.inl (w.1:Int),Sum.inl (w.2:Int)]
theorem gI {a b:Wt} (h:bU a = bU b):a = b:=by
 unfold bU at h
 injection h with h1 h2
 injection h2 with h2 _
 have e1:=Sum.inl.inj h1
 have e2:=Sum.inl.inj h2
 exact Prod.ext (by omega) (by omega)
def cT (m:List (Wt × Nat)) (w:Wt):Option Nat:=(m.find? fun x => decide (x.1 = w)).map (·.2)
def dD (m:List (Wt × Nat)) (f:Nat):List Wt:=(m.filter fun x => decide (x.2 = f)).map (·.1)
def ctm (m:List (Wt × Nat)) (f:Nat):Nat:=m.countP fun x => decide (x.2 = f)
theorem dY {x:Wt × Nat} {m:List (Wt × Nat)} {w:Wt}:cT (x :: m) w = if x.1 = w then some x.2 else cT m w:=by
 unfold cT
 rw [List.find?_cons]
 by_cases h:x.1 = w
 · simp [h]
 · simp [h]
theorem sM {m:List (Wt × Nat)} {w:Wt} {f:Nat} (h:cT m w = some f):(w,f) ∈ m:=by
 induction m with
 | nil => cases h
 | cons x m ih =>
   rw [dY] at h
   by_cases e:x.1 = w
   · rw [if_pos e] at h
     cases h
     rw [← e]
     exact Aq
   · rw [if_neg e] at h
     exact Al _ (ih h)
theorem jO {m:List (Wt × Nat)} (nd:(m.map (·.1)).Nodup) {w:Wt} {f:Nat} (h:(w,f) ∈ m):cT m w = some f:=by
 induction m with
 | nil => cases h
 | cons x m ih =>
   rw [dY]
   rw [Aw,Bq] at nd
   rcases Bg.mp h with e | e
   · rw [← e,if_pos rfl]
   · rw [if_neg (fun z => nd.1 (by rw [z]; exact Ba.mpr ⟨_,e,rfl⟩)),ih nd.2 e]
theorem hget_none {m:List (Wt × Nat)} {w:Wt}:cT m w = none ↔ w ∉ m.map (·.1):=by
 induction m with
 | nil => exact ⟨fun _ z => (nomatch z),fun _ => rfl⟩
 | cons x m ih =>
   rw [dY,Aw,Bg]
   by_cases e:x.1 = w
   · rw [if_pos e]
     exact ⟨fun z => (nomatch z),fun z => absurd (Or.inl e.symm) z⟩
   · rw [if_neg e,ih]
     exact ⟨fun z y => y.elim (fun q => e q.symm) z,fun z y => z (Or.inr y)⟩
theorem by_mem {m:List (Wt × Nat)} {f:Nat} {w:Wt}:w ∈ dD m f ↔ (w,f) ∈ m:=by
 unfold dD
 rw [Ba]
 constructor
 · rintro ⟨x,hx,rfl⟩
   rw [Cs,Bh] at hx
   rw [← hx.2]
   exact hx.1
 · intro h
   exact ⟨(w,f),Cs.mpr ⟨h,Ap rfl⟩,rfl⟩
theorem vI (m:List (Wt × Nat)) (f:Nat):(dD m f).length = ctm m f:=by
 unfold dD ctm
 rw [Ab,List.countP_eq_length_filter]
structure Asking (ch:Wt → List Nat) (m:List (Wt × Nat)) (first:Wt) (A:List (Nat × Wt)):Prop where
 nd:(A.map (·.1)).Nodup
 ok:∀ (j:Nat) f w,A[j]? = some (f,w) → f ∈ ch w ∧ (w = first ∨ ∃ (g:Nat) (i:Nat) (v:Wt),i < j ∧ A[i]? = some (g,v) ∧ cT m w = some g)
def bK (m:List (Wt × Nat)) (first:Wt) (A:List (Nat × Wt)):List Wt:=first :: (A.map (·.1)).flatMap (dD m)
theorem iQ (m:List (Wt × Nat)) (first:Wt) (A:List (Nat × Wt)) (f:Nat) (w:Wt):bK m first (A ++ [(f,w)]) = bK m first A ++ dD m f:=by
 unfold bK
 rw [Aj,Fi]
 simp
theorem reach_mem {m:List (Wt × Nat)} {first:Wt} {A:List (Nat × Wt)} {w:Wt}:w ∈ bK m first A ↔ w = first ∨ ∃ f ∈ A.map (·.1),(w,f) ∈ m:=by
 unfold bK
 rw [Bg,Gp]
 constructor
 · rintro (h | ⟨f,hf,h⟩)
   · exact .inl h
   · exact .inr ⟨f,hf,by_mem.mp h⟩
 · rintro (h | ⟨f,hf,h⟩)
   · exact .inl h
   · exact .inr ⟨f,hf,by_mem.mpr h⟩
theorem lT (m:List (Wt × Nat)):∀ {fs:List Nat},fs.Nodup → (fs.flatMap (dD m)).length = m.countP (fun x => decide (x.2 ∈ fs))
 | [],_ => by simp
 | f :: fs,nd => by
   rw [Dr,Am,vI,lT m (Bq.mp nd).2]
   have hf:=(Bq.mp nd).1
   unfold ctm
   clear nd
   induction m with
   | nil => rfl
   | cons x m ih =>
     rw [Cw,Cw,Cw,← ih]
     by_cases h1:x.2 = f
     · rw [if_pos (Ap h1),if_neg (by rw [Bh,h1]; exact hf),if_pos (Ap (by rw [h1]; exact Aq))]
       omega
     · rw [if_neg (by rw [Bh]; exact h1)]
       by_cases h2:x.2 ∈ fs
       · rw [if_pos (Ap h2),if_pos (Ap (Al _ h2))]
         omega
       · rw [if_neg (by rw [Bh]; exact h2),if_neg (by rw [Bh]; exact fun z => (Bg.mp z).elim h1 h2)]
         omega
theorem kS {m:List (Wt × Nat)} {first:Wt} {A:List (Nat × Wt)} (nd:(A.map (·.1)).Nodup):(bK m first A).length ≤ 1 + m.length:=by
 unfold bK
 rw [Bn,lT m nd]
 have:=List.countP_le_length (p:=fun x:Wt × Nat => decide (x.2 ∈ A.map (·.1))) (l:=m)
 omega
theorem Asking.snoc {ch:Wt → List Nat} {m:List (Wt × Nat)} {first w:Wt} {A:List (Nat × Wt)} {f:Nat} (ndm:(m.map (·.1)).Nodup) (h:Asking ch m first A) (hf:f ∉ A.map (·.1)) (hc:f ∈ ch w) (hw:w ∈ bK m first A):Asking ch m first (A ++ [(f,w)]):=by
 refine ⟨?_,fun j g v hj => ?_⟩
 · rw [Aj]
   exact List.nodup_append.mpr ⟨h.nd,by simp,fun x hx y hy => by rw [List.mem_singleton.mp hy]; intro z; have z2:x = f:=z; rw [z2] at hx; exact hf hx⟩
 · by_cases hlt:j < A.length
   · rw [Ay hlt] at hj
     obtain ⟨h1,h2⟩:=h.ok j g v hj
     refine ⟨h1,h2.imp id ?_⟩
     rintro ⟨g',i,v',hi,hA,hg⟩
     exact ⟨g',i,v',hi,by rw [Ay (by omega)]; exact hA,hg⟩
   · have hj2:j = A.length:=by
       have:=(Ad.mp hj).1
       rw [Am] at this
       have:j < A.length + 1:=this
       omega
     subst hj2
     rw [Bf (Ai _),Nat.sub_self] at hj
     cases hj
     refine ⟨hc,?_⟩
     rcases reach_mem.mp hw with e | ⟨g',hg',hm⟩
     · exact .inl e
     · obtain ⟨x,hx,rfl⟩:=Ba.mp hg'
       obtain ⟨i,hi,ei⟩:=Ca.mp hx
       exact .inr ⟨x.1,i,x.2,hi,by rw [Ay hi,Aa hi,ei],jO ndm hm⟩
structure Asked (ch:Wt → List Nat) (m:List (Wt × Nat)) (first:Wt) (A:List (Nat × Wt)):Prop extends Asking ch m first A where
 all1:∀ f ∈ ch first,f ∈ A.map (·.1)
 all:∀ w g,(w,g) ∈ m → g ∈ A.map (·.1) → ∀ f ∈ ch w,f ∈ A.map (·.1)
theorem Asking.done {ch:Wt → List Nat} {m:List (Wt × Nat)} {first:Wt} {A:List (Nat × Wt)} (h:Asking ch m first A) (hc:∀ w ∈ bK m first A,∀ f ∈ ch w,f ∈ A.map (·.1)):Asked ch m first A :=
 ⟨h,hc first (reach_mem.mpr (.inl rfl)),fun w g hm hg => hc w (reach_mem.mpr (.inr ⟨g,hg,hm⟩))⟩
def pT (m:List (Wt × Nat)) (w:Wt) (f:Nat):List (Wt × Nat):=if (cT m w).isSome = true then m.map fun x => if x.1 = w then (x.1,f) else x else m ++ [(w,f)]
theorem aJH {m:List (Wt × Nat)} {w v:Wt} {f:Nat}:cT (m.map fun x => if x.1 = w then (x.1,f) else x) v = (cT m v).map fun g => if v = w then f else g:=by
 induction m with
 | nil => rfl
 | cons x m ih =>
   rw [Aw,dY,dY,ih]
   by_cases e:x.1 = w
   · rw [if_pos e]
     by_cases e2:x.1 = v
     · rw [if_pos e2,if_pos e2,Ds,if_pos (e2.symm.trans e)]
     · rw [if_neg e2,if_neg e2]
   · rw [if_neg e]
     by_cases e2:x.1 = v
     · rw [if_pos e2,if_pos e2,Ds,if_neg (fun z => e (e2.trans z))]
     · rw [if_neg e2,if_neg e2]
theorem keys_map {m:List (Wt × Nat)} {w:Wt} {f:Nat}:(m.map fun x => if x.1 = w then (x.1,f) else x).map (·.1) = m.map (·.1):=by
 rw [Ce]
 refine Cd fun x _ => ?_
 show (if x.1 = w then (x.1,f) else x).1 = x.1
 by_cases e:x.1 = w
 · rw [if_pos e]
 · rw [if_neg e]
theorem cQX {m:List (Wt × Nat)} {w:Wt} {f g:Nat} (nd:(m.map (·.1)).Nodup) (h:cT m w = some g) (c:Nat) :
   ctm (m.map fun x => if x.1 = w then (x.1,f) else x) c + (if c = g then 1 else 0) = ctm m c + (if c = f then 1 else 0):=by
 induction m with
 | nil => cases h
 | cons x m ih =>
   rw [Aw,Bq] at nd
   rw [dY] at h
   unfold ctm at ih ⊢
   rw [Aw,Cw,Cw]
   by_cases e:x.1 = w
   · rw [if_pos e] at h
     cases h
     have hm:(m.map fun x => if x.1 = w then (x.1,f) else x) = m:=by
       refine (Cd fun y hy => ?_).trans (List.map_id _)
       show (if y.1 = w then (y.1,f) else y) = y
       rw [if_neg (fun z => nd.1 (by rw [e,← z]; exact Ba.mpr ⟨y,hy,rfl⟩))]
     rw [if_pos e,hm]
     have e1:(decide ((x.1,f).2 = c) = true) = (c = f):=by rw [Bh]; exact propext ⟨fun z => z.symm,fun z => z.symm⟩
     have e2:(decide (x.2 = c) = true) = (c = x.2):=by rw [Bh]; exact propext ⟨fun z => z.symm,fun z => z.symm⟩
     simp only [e1,e2]
     omega
   · rw [if_neg e] at h
     rw [if_neg e]
     have r:=ih nd.2 h
     omega
structure Along (ch:Wt → List Nat) (m0:List (Wt × Nat)) (A:List (Nat × Wt)) (f0:Nat) (m:List (Wt × Nat)) (c j:Nat) (w:Wt):Prop where
 keys:m.map (·.1) = m0.map (·.1)
 ok:∀ v f,(v,f) ∈ m → f ∈ ch v
 ct:∀ f,ctm m f + (if f = c then 1 else 0) = ctm m0 f + (if f = f0 then 1 else 0)
 at_:A[j]? = some (c,w)
 same:∀ v g i u,cT m0 v = some g → A[i]? = some (g,u) → i < j → cT m v = some g
theorem wK {A:List (Nat × Wt)} (nd:(A.map (·.1)).Nodup) {i j g:Nat} {u v:Wt} (hi:A[i]? = some (g,u)) (hj:A[j]? = some (g,v)):i = j:=by
 obtain ⟨h1,e1⟩:=Ad.mp hi
 obtain ⟨h2,e2⟩:=Ad.mp hj
 refine (Fc (h₀:=by rw [Ab]; exact h1) (h₁:=by rw [Ab]; exact h2) nd).mp ?_
 rw [Gk,Gk,e1,e2]
theorem Along.step {ch:Wt → List Nat} {m0 m:List (Wt × Nat)} {A:List (Nat × Wt)} {f0 c j g i:Nat} {first w v:Wt} (ha:Asking ch m0 first A) (nd0:(m0.map (·.1)).Nodup) (h:Along ch m0 A f0 m c j w) (hg:cT m0 w = some g) (hi:A[i]? = some (g,v)) (hij:i < j) :
   cT m w = some g ∧ Along ch m0 A f0 (m.map fun x => if x.1 = w then (x.1,c) else x) g i v:=by
 have nd:(m.map (·.1)).Nodup:=by rw [h.keys]; exact nd0
 have hw:=h.same w g i v hg hi hij
 refine ⟨hw,keys_map.trans h.keys,fun u f hu => ?_,fun f => ?_,hi,fun u g' i' u' h1 h2 h3 => ?_⟩
 · obtain ⟨x,hx,e⟩:=Ba.mp hu
   by_cases ex:x.1 = w
   · rw [if_pos ex] at e
     cases e
     rw [ex]
     exact (ha.ok j c w h.at_).1
   · rw [if_neg ex] at e
     exact h.ok u f (e ▸ hx)
 · have r1:=cQX (f:=c) nd hw f
   have r2:=h.ct f
   omega
 · rw [aJH,h.same u g' i' u' h1 h2 (by omega),Ds]
   by_cases e:u = w
   · subst e
     rw [hg] at h1
     cases h1
     exact absurd (wK ha.nd hi h2) (by omega)
   · rw [if_neg e]
theorem Along.last {ch:Wt → List Nat} {m0 m:List (Wt × Nat)} {A:List (Nat × Wt)} {f0 c j:Nat} {first:Wt} (ha:Asking ch m0 first A) (hf:first ∉ m0.map (·.1)) (h:Along ch m0 A f0 m c j first) :
   cT m first = none ∧ (m ++ [(first,c)]).map (·.1) = m0.map (·.1) ++ [first] ∧ (∀ v f,(v,f) ∈ m ++ [(first,c)] → f ∈ ch v) ∧ ∀ f,ctm (m ++ [(first,c)]) f = ctm m0 f + (if f = f0 then 1 else 0):=by
 refine ⟨hget_none.mpr (by rw [h.keys]; exact hf),by rw [Aj,h.keys]; rfl,fun v f hv => ?_,fun f => ?_⟩
 · rcases Bk.mp hv with e | e
   · exact h.ok v f e
   · cases As.mp e
     exact (ha.ok j c first h.at_).1
 · have r:=h.ct f
   unfold ctm at r ⊢
   rw [List.countP_append]
   have e:List.countP (fun x:Wt × Nat => decide (x.2 = f)) [(first,c)] = if f = c then 1 else 0:=by
     rw [List.countP_singleton]
     by_cases z:f = c
     · rw [if_pos z,if_pos (Ap z.symm)]
     · rw [if_neg z,if_neg (by rw [Bh]; exact fun y => z y.symm)]
   rw [e]
   exact r
def gA (m:List (Wt × Nat)) (first:Wt) (A:List (Nat × Wt)) (wl:List Wt):List Wt:=wl.filter fun w => decide (w = first) || (match cT m w with | some g => decide (g ∈ A.map (·.1)) | none => false)
def gD (m:List (Wt × Nat)) (first:Wt) (A:List (Nat × Wt)) (w:Wt):Bool:=decide (w = first) || (match cT m w with | some g => decide (g ∈ A.map (·.1)) | none => false)
theorem rS {m:List (Wt × Nat)} {first w:Wt} {A:List (Nat × Wt)} (h:w = first):gD m first A w = true:=by
 unfold gD
 rw [Ap h,Bool.true_or]
theorem mG {m:List (Wt × Nat)} {first w:Wt} {A:List (Nat × Wt)} (h:w ≠ first) (e:cT m w = none):gD m first A w = false:=by
 unfold gD
 rw [Av h,e]
 rfl
theorem lR {m:List (Wt × Nat)} {first w:Wt} {A:List (Nat × Wt)} {g:Nat} (h:w ≠ first) (e:cT m w = some g):gD m first A w = decide (g ∈ A.map (·.1)):=by
 unfold gD
 rw [Av h,e,Eo]
theorem mE {m:List (Wt × Nat)} {first:Wt} {A:List (Nat × Wt)} {ws:List Wt} {w:Wt}:gA m first A (ws ++ [w]) = gA m first A ws ++ if gD m first A w = true then [w] else []:=by
 have e:∀ l,gA m first A l = l.filter (gD m first A):=fun l => rfl
 rw [e,e,En,Ej]
 rfl
theorem lackW_mem {m:List (Wt × Nat)} {first w:Wt} {A:List (Nat × Wt)} {ws:List Wt}:w ∈ gA m first A ws ↔ w ∈ ws ∧ gD m first A w = true:=by
 have e:∀ l,gA m first A l = l.filter (gD m first A):=fun l => rfl
 rw [e,Cs]
theorem aQO {m:List (Wt × Nat)} {first:Wt} {A:List (Nat × Wt)} {l r:List Wt} (hk:m.map (·.1) = l) (nd:(l ++ first :: r).Nodup):(gA m first A (l ++ first :: r)).length = 1 + m.countP (fun x => decide (x.2 ∈ A.map (·.1))):=by
 have hl:(m.map (·.1)).Nodup:=by rw [hk]; exact (Ee.mp nd).1
 have hfl:first ∉ l:=fun z => (Ee.mp nd).2.2 first z first Aq rfl
 have hfr:first ∉ r:=(Bq.mp (Ee.mp nd).2.1).1
 have hrl:∀ w ∈ r,w ∉ l:=fun w hw z => (Ee.mp nd).2.2 w z w (Al _ hw) rfl
 unfold gA
 rw [En,Am,Ej,if_pos (by rw [Ap rfl]; rfl),Bn]
 have er:r.filter (fun w => decide (w = first) || (match cT m w with | some g => decide (g ∈ A.map (·.1)) | none => false)) = []:=by
   refine List.filter_eq_nil_iff.mpr fun w hw => ?_
   have e:cT m w = none:=hget_none.mpr (by rw [hk]; exact hrl w hw)
   rw [Av (show ¬ w = first from fun z => by rw [z] at hw; exact hfr hw),e,Eo]
   exact Ao
 have el:(l.filter (fun w => decide (w = first) || (match cT m w with | some g => decide (g ∈ A.map (·.1)) | none => false))).length = m.countP (fun x => decide (x.2 ∈ A.map (·.1))):=by
   rw [← hk,List.filter_map,Ab,← List.countP_eq_length_filter]
   refine List.countP_congr fun x hx => ?_
   show (decide (x.1 = first) || (match cT m x.1 with | some g => decide (g ∈ A.map (·.1)) | none => false)) = true ↔ _
   rw [jO hl (w:=x.1) (f:=x.2) hx,Av (fun z => hfl (by rw [← z,← hk]; exact Ba.mpr ⟨x,hx,rfl⟩)),Eo]
 rw [er,el,List.length_nil]
 omega
theorem bJI (m:List (Wt × Nat)):∀ {fs:List Nat},fs.Nodup → m.countP (fun x => decide (x.2 ∈ fs)) = (fs.map (ctm m)).sum:=fun {fs} nd => by
 rw [← lT m nd]
 induction fs with
 | nil => rfl
 | cons f fs ih => rw [Dr,Am,vI,Aw,Cy,ih (Bq.mp nd).2]
def gB (cws:List (List Nat)) (k:Nat):List Wt:=(List.range (cws.getD k []).length).map fun j => (k,1 + j)
def wlP (cws:List (List Nat)) (i:Nat):List Wt:=(List.range i).flatMap (gB cws)
def wl (cws:List (List Nat)):List Wt:=wlP cws cws.length
def wV (w:Wt):List V:=[.int (w.1:Int),.int (w.2:Int)]
theorem jY (cws:List (List Nat)) (i:Nat):wlP cws (i + 1) = wlP cws i ++ gB cws i:=by
 unfold wlP
 rw [Ck,Fi]
 simp
theorem mV (cws:List (List Nat)):∀ i,iY cws i = (wlP cws i).map wV
 | 0 => rfl
 | i + 1 => by
   rw [gL,jY,Aj,mV cws i]
   congr 1
   unfold tG gB
   rw [Ce]
   refine Cd fun j _ => ?_
   show [V.int ((i:Nat):Int),V.int (1 + (j:Int))] = [V.int ((i:Nat):Int),V.int ((1 + j:Nat):Int)]
   rw [show ((1 + j:Nat):Int) = 1 + (j:Int) by omega]
theorem wlP_mem {cws:List (List Nat)} {w:Wt}:∀ {i:Nat},w ∈ wlP cws i ↔ w.1 < i ∧ 1 ≤ w.2 ∧ w.2 ≤ (cws.getD w.1 []).length:=fun {i} => by
 unfold wlP gB
 rw [Gp]
 constructor
 · rintro ⟨k,hk,h⟩
   obtain ⟨j,hj,rfl⟩:=Ba.mp h
   have:=Bz.mp hk
   have:=Bz.mp hj
   exact ⟨by omega,by show 1 ≤ 1 + j; omega,by show 1 + j ≤ (cws.getD k []).length; omega⟩
 · rintro ⟨h1,h2,h3⟩
   refine ⟨w.1,Bz.mpr h1,Ba.mpr ⟨w.2 - 1,Bz.mpr (by omega),?_⟩⟩
   exact Prod.ext rfl (by show 1 + (w.2 - 1) = w.2; omega)
theorem jA (cws:List (List Nat)):∀ i,(wlP cws i).Nodup
 | 0 => List.nodup_nil
 | i + 1 => by
   rw [jY]
   refine Ee.mpr ⟨jA cws i,?_,fun a ha b hb e => ?_⟩
   · unfold gB
     exact List.Pairwise.map _ (fun a b h => fun z => h (by have:=Cp Prod.snd z; have e:1 + a = 1 + b:=this; omega)) List.nodup_range
   · subst e
     have h1:=(wlP_mem.mp ha).1
     unfold gB at hb
     obtain ⟨j,_,rfl⟩:=Ba.mp hb
     exact absurd h1 (Dn _)
theorem jH {cws:List (List Nat)} (h7:∀ c ∈ cws,c.length ≤ 7) (i:Nat):(wlP cws i).length ≤ 7 * i:=by
 have:=iT h7 i
 rw [mV,Ab] at this
 exact this
def chW (cws:List (List Nat)) (w:Wt):List Nat:=chs (cws.getD w.1 []) (w.2 - 1)
def dC (ws:List Wt) (ds:List Addr):List (List Key × V):=List.zipWith (fun w d => (bU w,V.ref d)) ws ds
def cJ0 (H:Hp) (r:Addr) (cws:List (List Nat)) (i:Nat):Prop:=∃ ds:List Addr,ds.length = i ∧ H r = some (.dT (dC ((wl cws).take i) ds)) ∧ ∀ (j:Nat) w d,j < i → (wl cws)[j]? = some w → ds[j]? = some d → H d = some (.lst (((chW cws w).map one).map V.str))
theorem yZ {ws:List Wt} {ds:List Addr} (nd:ws.Nodup) (hl:ds.length = ws.length) {j:Nat} {w:Wt} {d:Addr} (hw:ws[j]? = some w) (hd:ds[j]? = some d):bJ (dC ws ds) (bU w) = some (.ref d):=by
 induction ws generalizing ds j with
 | nil => cases hw
 | cons x ws ih =>
   cases ds with
   | nil => cases hl
   | cons e ds =>
     show bJ ((bU x,V.ref e) :: dC ws ds) _ = _
     cases j with
     | zero => cases hw; cases hd; exact bT rfl
     | succ j =>
       have hm:=Ak (show ws[j]? = some w from hw)
       rw [bN (fun z => (Bq.mp nd).1 (by rw [gI z]; exact hm))]
       exact ih (List.nodup_cons.mp nd).2 (by simpa using hl) hw hd
theorem vC {ws:List Wt} {ds:List Addr} {w:Wt} (h:w ∉ ws):bJ (dC ws ds) (bU w) = none:=by
 induction ws generalizing ds with
 | nil => rfl
 | cons x ws ih =>
   cases ds with
   | nil => rfl
   | cons e ds =>
     show bJ ((bU x,V.ref e) :: dC ws ds) _ = _
     rw [bN (fun z => h (by rw [gI z]; exact Aq))]
     exact ih fun z => h (Al _ z)
theorem pC {ws:List Wt} {ds:List Addr} (hl:ds.length = ws.length):(dC ws ds).length = ws.length:=by
 unfold dC
 rw [List.length_zipWith]
 omega
theorem uJ {ws:List Wt} {ds:List Addr} {w:Wt} {d:Addr} (hl:ds.length = ws.length):dC (ws ++ [w]) (ds ++ [d]) = dC ws ds ++ [(bU w,V.ref d)]:=by
 unfold dC
 rw [List.zipWith_append (by omega)]
 rfl
def iN:Sp:=fun vs H Q _ => ∃ (a:Addr) (cws:List (List Nat)),vs = [.ref a] ∧ rdL H a = some ((cws.map aY).map V.str) ∧ cws.length ≤ 8 ∧ (∀ c ∈ cws,c.length ≤ 7) ∧
 ∀ (r:Addr) (H':Hp),H r = none → Same H H' → cJ0 H' r cws (wl cws).length → Q (.ref r) H'
theorem sc_choices_of:FnScope ["words", "choices", "want"] ["words"] (aG cV):=⟨rfl,rfl,rfl,by decide +kernel,rfl,by decide +kernel,by decide +kernel⟩
theorem nY {Zy Zz:Addr} {f:Addr} {fd:FuncData} (F:Fun K "choices_of" "choices_of" cV f fd) (G:Gs K mg Zy Zz) (c_wants_of:Cal P w K mg base 1 "wants_of" ["words"] lE) (c_choices_at:Cal P w K mg base 1 "choices_at" ["word", "place"] iM):FnOk P w K mg base CX0 2 f fd ["words"] iN:=by
 refine F.ok sc_choices_of (fun vs H Q E h => ?_) (fun cdv A outer s H vs Q E hr h => ?_)
 · obtain ⟨a,cws,rfl,_⟩:=h; rfl
 obtain ⟨a,cws,rfl,ha,h8,h7,q⟩:=h
 refine ⟨_,(@aF _ _ _ _ _ (@aQ _ _ 1 _ _ _ _ sc_choices_of.nd (by rfl) (by exact (Or.inl rfl)) mQ (by rfl) (by first | exact Or.inl rfl | exact Or.inr rfl)) (@aF _ _ _ _ _ (bZ Bc rfl (bV (bB c_wants_of hr (by decide) rfl (aA (mv 0) aE))) (aP (i:=2) sc_choices_of.nd rfl (Or.inl rfl)) (@aK _ _ _ (eG (Room.u1 hr) (mv 1) (mv 2) (bB c_choices_at hr (by decide) rfl (aA (bC cA (mv 0) (bC cA (mv 2) aI (fun _ _ => rfl)) (fun _ _ => rfl)) (aA (bC cA (mv 2) aI (fun _ _ => rfl)) aE))) rfl))) (@aK _ _ _ (aW (mv 1))))),?_⟩
 walk_at "go"
 intro pc hpc
 walk_at "go"
 refine ⟨a,cws,rfl,aH (aD hpc _) ha,h8,h7,fun r ps H1 hr s1 e1 tp => ?_⟩
 have s01:=(aD hpc (.dT [])).trans s1
 have ec1:=s1 _ _ (aB (H:=H) (a:=pc) (o:=.dT []))
 have hlw:(wl cws).length ≤ 56:=Ax (jH h7 _) (by omega)
 rw [mV] at tp
 have hpl:ps.length = (wl cws).length:=by rw [tp.1,Ab]; rfl
 have hpm:(ps.map V.ref).length = (wl cws).length:=by rw [Ab,hpl]
 have tat:∀ (j:Nat) p w,ps[j]? = some p → (wl cws)[j]? = some w → H1 p = some (.tup (wV w)):=fun j p w hp hw => (tp.2 j p _ hp (by rw [Ag]; exact Cp (Option.map wV) hw)).2
 have r1:=aM e1
 have hcr:pc ≠ r:=fun z => by rw [← z,aB] at hr; cases hr
 walk_at "go"
 refine eF (xs:=ps.map V.ref) (fun i σ H' => ∃ (v:Option V),σ = [some (.ref a),some (.ref pc),v] ∧ Same H H' ∧ (∀ b u,b ≠ pc → H1 b = some u → H' b = some u) ∧ cJ0 H' pc cws i)
   ⟨_,rfl,s01,fun b u _ h => h,[],rfl,ec1,fun j w d hj => absurd hj (Fp _)⟩ (fun i σ H' _ ⟨_,_,_,k,_⟩ => aM (k _ _ (Ne.symm hcr) e1)) ?_ ?_
 · rintro i x σ H2 hx ⟨v,rfl,s2,k2,ds,dl,ed,hds⟩
   rw [Ag] at hx
   cases e:ps[i]? with
   | none => rw [e] at hx; cases hx
   | some p =>
     rw [e] at hx
     cases hx
     have hi:i < (wl cws).length:=by rw [← hpl]; exact (Ad.mp e).1
     have ew:(wl cws)[i]? = some (wl cws)[i]:=Aa hi
     have hm:=wlP_mem.mp (Bx hi)
     have htp1:=tat i p _ e ew
     have hpne:p ≠ pc:=fun z => by rw [z,ec1] at htp1; cases htp1
     have ht:=k2 _ _ hpne htp1
     have hnew:(wl cws)[i] ∉ (wl cws).take i:=fun z => by
       obtain ⟨j,hj,ej⟩:=Ca.mp z
       rw [Bl] at hj
       rw [List.getElem_take] at ej
       have:=(Fc (jA cws cws.length)).mp ej
       omega
     have htk:(wl cws).take (i + 1) = (wl cws).take i ++ [(wl cws)[i]]:=by rw [Bb,ew]; rfl
     generalize hw:(wl cws)[i] = w at hm ht hnew htk ew
     obtain ⟨h1,h2,h3⟩:=hm
     have ecw:cws[w.1]? = some (cws.getD w.1 []):=by rw [Af,Aa h1]; rfl
     have h7w:=h7 _ (Ak ecw)
     have ha2:=aH s2 ha
     walk_at "go"
     refine dQ ht (v:=.int (w.1:Int)) rfl ?_
     walk_at "go"
     refine dR ha2 (v:=.str (aY (cws.getD w.1 []))) (fQ (by rw [Ag,Ag,ecw]; rfl)) ?_
     walk_at "go"
     refine dQ ht (v:=.int (w.2:Int)) rfl ?_
     walk_at "go"
     refine ⟨cws.getD w.1 [],w.2 - 1,_,rfl,by omega,by omega,h7w,fun d H3 hd s3 e3 => ?_⟩
     walk_at "go"
     have dl2:ds.length = ((wl cws).take i).length:=by rw [dl,Bl]; omega
     refine lM (k:=bU w) (s3 _ _ ed) (s3 _ _ ht) (aT (by rw [pC dl2,Bl]; omega)) ?_
     have hdp:d ≠ pc:=fun z => by rw [z,ed] at hd; cases hd
     refine ⟨_,rfl,bA hpc (s2.trans s3),fun b u hb hu => by rw [aJ hb]; exact s3 _ _ (k2 b u hb hu),ds ++ [d],by rw [Am,dl]; rfl,?_,fun j v' d' hj hv hd' => ?_⟩
     · rw [aB,fM _ (vC hnew),htk,uJ dl2]
     · by_cases hjl:j < i
       · rw [Ay (by omega)] at hd'
         have hold:=hds j v' d' hjl hv hd'
         rw [aJ (fun z => by rw [z,ed] at hold; cases hold)]
         exact s3 _ _ hold
       · have hj2:j = i:=by omega
         subst hj2
         rw [ew] at hv
         cases hv
         rw [Bf (by omega),dl,Nat.sub_self] at hd'
         cases hd'
         rw [aJ hdp]
         exact e3
 · rintro σ H2 ⟨v,rfl,s2,k2,hch⟩
   rw [hpm] at hch
   walk_at "go"
   exact q pc H2 hpc s2 hch
def tV (w:Wt) (A:List (Nat × Wt)) (f:Nat):List (Nat × Wt):=if f ∈ A.map (·.1) then A else A ++ [(f,w)]
def dB (ch:Wt → List Nat) (m:List (Wt × Nat)) (first:Wt):Nat → List (Nat × Wt)
 | 0 => []
 | t + 1 => match (bK m first (dB ch m first t))[t]? with
   | some w => (ch w).foldl (tV w) (dB ch m first t)
   | none => dB ch m first t
theorem nD {ch:Wt → List Nat} {m:List (Wt × Nat)} {first:Wt} {t:Nat} (h:(bK m first (dB ch m first t)).length ≤ t):∀ k,dB ch m first (t + k) = dB ch m first t
 | 0 => rfl
 | k + 1 => by
   have ih:=nD h k
   show (match (bK m first (dB ch m first (t + k)))[t + k]? with
     | some w => (ch w).foldl (tV w) (dB ch m first (t + k))
     | none => dB ch m first (t + k)) = _
   rw [ih,Er (by omega)]
def lF (ch:Wt → List Nat) (m:List (Wt × Nat)) (first:Wt):List (Nat × Wt):=dB ch m first 57
theorem bQW {ch:Wt → List Nat} {m:List (Wt × Nat)} {first:Wt} {t:Nat} (h:(bK m first (dB ch m first t)).length ≤ t) (ht:t ≤ 57):dB ch m first t = lF ch m first:=by
 unfold lF
 have e:57 = t + (57 - t):=by omega
 rw [e,nD h (57 - t)]
inductive AlongR (A:List (Nat × Wt)):Nat → List (Wt × Nat) → List (Wt × Nat) → Prop
 | stop {c j:Nat} {w:Wt} {m:List (Wt × Nat)}:A[j]? = some (c,w) → cT m w = none → AlongR A c m (pT m w c)
 | step {c j g:Nat} {w:Wt} {m m':List (Wt × Nat)}:A[j]? = some (c,w) → cT m w = some g → AlongR A g (pT m w c) m' → AlongR A c m m'
theorem qR {A:List (Nat × Wt)} (nd:(A.map (·.1)).Nodup) {c i j:Nat} {u v:Wt} (hi:A[i]? = some (c,u)) (hj:A[j]? = some (c,v)):u = v:=by
 have e:=wK nd hi hj
 subst e
 rw [hi] at hj
 cases hj
 rfl
theorem AlongR.one {A:List (Nat × Wt)} (nd:(A.map (·.1)).Nodup) {c:Nat} {m m1:List (Wt × Nat)} (h:AlongR A c m m1):∀ {m2},AlongR A c m m2 → m1 = m2:=by
 induction h with
 | stop ha hg =>
   intro m2 h2
   cases h2 with
   | stop hb hg2 => rw [qR nd ha hb]
   | step hb hg2 _ => rw [qR nd hb ha,hg] at hg2; cases hg2
 | step ha hg _ ih =>
   intro m2 h2
   cases h2 with
   | stop hb hg2 => rw [qR nd hb ha,hg] at hg2; cases hg2
   | step hb hg2 r =>
     obtain rfl:=qR nd ha hb
     rw [hg] at hg2
     cases hg2
     exact ih r
def oR (n:Nat → Int) (m:List (Wt × Nat)) (A:List (Nat × Wt)):List Nat:=(A.map (·.1)).filter fun c => decide (0 < n c - (ctm m c:Int))
inductive StateR (cws:List (List Nat)) (n:Nat → Int):Nat → List (Wt × Nat) → Prop
 | zero:StateR cws n 0 []
 | succ {i c:Nat} {m m':List (Wt × Nat)} {w:Wt}:StateR cws n i m → (wl cws)[i]? = some w → ((lF (chW cws) m w).map (·.1)).Nodup → (oR n m (lF (chW cws) m w)).head? = some c → AlongR (lF (chW cws) m w) c m m' → StateR cws n (i + 1) m'
theorem StateR.one {cws:List (List Nat)} {n:Nat → Int} {i:Nat} {m:List (Wt × Nat)} (h:StateR cws n i m):∀ {m'},StateR cws n i m' → m = m':=by
 induction h with
 | zero => intro m' h2; cases h2; rfl
 | succ _ hw nd hf ha ih =>
   intro m2 h2
   cases h2 with
   | succ s2 hw2 _ hf2 ha2 =>
     obtain rfl:=ih s2
     rw [hw] at hw2
     cases hw2
     rw [hf] at hf2
     cases hf2
     exact ha.one nd ha2
theorem StateR.down {cws:List (List Nat)} {n:Nat → Int} {i j:Nat} {m:List (Wt × Nat)} (h:StateR cws n j m):i < j → ∃ m1 w c,StateR cws n i m1 ∧ (wl cws)[i]? = some w ∧ (oR n m1 (lF (chW cws) m1 w)).head? = some c:=by
 induction h with
 | zero => exact fun z => absurd z (Fp _)
 | @succ k c m m' w s hw nd hf ha ih =>
   intro hi
   by_cases e:i = k
   · subst e
     exact ⟨m,w,c,s,hw,hf⟩
   · exact ih (by omega)
def LackIs (cws:List (List Nat)) (n:Nat → Int) (W:List Wt) (F:List Nat):Prop:=∃ (i:Nat) (m:List (Wt × Nat)) (w:Wt),StateR cws n i m ∧ (wl cws)[i]? = some w ∧ oR n m (lF (chW cws) m w) = [] ∧ W = gA m w (lF (chW cws) m w) (wl cws) ∧ F = flagsT.cps.toList.filter fun c => decide (c ∈ (lF (chW cws) m w).map (·.1))
theorem bXA {l:List Nat} {c:Nat} (h:l = []) (h':l.head? = some c):False:=by
 rw [h] at h'
 cases h'
theorem LackIs.one {cws:List (List Nat)} {n:Nat → Int} {W W':List Wt} {F F':List Nat} (h:LackIs cws n W F) (h':LackIs cws n W' F'):W = W' ∧ F = F':=by
 obtain ⟨i,m,w,s,hw,hf,hW,hF⟩:=h
 obtain ⟨j,m2,w2,s2,hw2,hf2,hW2,hF2⟩:=h'
 have key:∀ {i j:Nat} {m m2:List (Wt × Nat)} {w:Wt},StateR cws n i m → (wl cws)[i]? = some w → oR n m (lF (chW cws) m w) = [] → StateR cws n j m2 → ¬ i < j:=fun {i j m m2 w} s hw hf s2 l => by
   obtain ⟨m1,w1,c,s1,hw1,hf1⟩:=s2.down l
   have em:m = m1:=s.one s1
   have ew:w = w1:=Bi (hw.symm.trans hw1)
   rw [← em,← ew] at hf1
   exact bXA hf hf1
 have e:i = j:=Nat.le_antisymm (Nat.not_lt.mp (key s2 hw2 hf2 s)) (Nat.not_lt.mp (key s hw hf s2))
 rw [← e] at s2 hw2
 have em:m = m2:=s.one s2
 have ew:w = w2:=Bi (hw.symm.trans hw2)
 rw [hW,hW2,hF,hF2,em,ew]
 exact ⟨rfl,rfl⟩
def HungIs (cws:List (List Nat)) (n:Nat → Int) (fs:List Nat):Prop:=∃ m,StateR cws n (wl cws).length m ∧ fs = m.map (·.2)
theorem HungIs.one {cws:List (List Nat)} {n:Nat → Int} {fs fs':List Nat} (h:HungIs cws n fs) (h':HungIs cws n fs'):fs = fs':=by
 obtain ⟨m,s,rfl⟩:=h
 obtain ⟨m',s',rfl⟩:=h'
 rw [s.one s']
def eU (m:List (Wt × Nat)):List (List Key × V):=m.map fun x => (bU x.1,V.str (one x.2))
theorem gO (m:List (Wt × Nat)) (w:Wt):bJ (eU m) (bU w) = (cT m w).map fun f => V.str (one f):=by
 induction m with
 | nil => rfl
 | cons x m ih =>
   show bJ ((bU x.1,V.str (one x.2)) :: eU m) _ = _
   rw [dY]
   by_cases e:x.1 = w
   · rw [if_pos e,bT (by show bU x.1 = bU w; rw [e])]
     rfl
   · rw [if_neg e,bN (fun z => e (gI z)),ih]
def eN (A:List (Nat × Wt)) (bs:List Addr):List (Key × V):=List.zipWith (fun x b => (Sum.inr (one x.1),V.ref b)) A bs
theorem iE {A:List (Nat × Wt)} {bs:List Addr} (hl:bs.length = A.length) (f:Nat):(bJ (eN A bs) (Sum.inr (one f))).isSome = decide (f ∈ A.map (·.1)):=by
 induction A generalizing bs with
 | nil => rfl
 | cons x A ih =>
   cases bs with
   | nil => cases hl
   | cons b bs =>
     show (bJ ((Sum.inr (one x.1),V.ref b) :: eN A bs) _).isSome = _
     by_cases e:x.1 = f
     · rw [bT (by show (Sum.inr (one x.1):Key) = Sum.inr (one f); rw [e]),Ap (by rw [← e]; exact Aq)]
       rfl
     · rw [bN (fun z => e (key_one.mp z)),ih (by simpa using hl)]
       exact Dx.mpr ⟨fun z => Al _ z,fun z => (Bg.mp z).resolve_left fun y => e y.symm⟩
theorem xS {A:List (Nat × Wt)} {bs:List Addr} (hl:bs.length = A.length) {f:Nat} (h:f ∉ A.map (·.1)):bJ (eN A bs) (Sum.inr (one f)) = none:=by
 have r:=iE hl f
 rw [Av h] at r
 cases e:bJ (eN A bs) (Sum.inr (one f)) with
 | none => rfl
 | some v => rw [e] at r; cases r
theorem zL {A:List (Nat × Wt)} {bs:List Addr} {x:Nat × Wt} {b:Addr} (hl:bs.length = A.length):eN (A ++ [x]) (bs ++ [b]) = eN A bs ++ [(Sum.inr (one x.1),V.ref b)]:=by
 unfold eN
 rw [List.zipWith_append (by omega)]
 rfl
theorem nA {A:List (Nat × Wt)} {bs:List Addr} (hl:bs.length = A.length):(eN A bs).length = A.length:=by
 unfold eN
 rw [List.length_zipWith]
 omega
theorem aZX {A:List (Nat × Wt)} {bs:List Addr} (nd:(A.map (·.1)).Nodup) (hl:bs.length = A.length) {j f:Nat} {w:Wt} {b:Addr} (hA:A[j]? = some (f,w)) (hb:bs[j]? = some b):bJ (eN A bs) (Sum.inr (one f)) = some (.ref b):=by
 induction A generalizing bs j with
 | nil => cases hA
 | cons x A ih =>
   cases bs with
   | nil => cases hl
   | cons e bs =>
     show bJ ((Sum.inr (one x.1),V.ref e) :: eN A bs) _ = _
     rw [Aw,Bq] at nd
     cases j with
     | zero => cases hA; cases hb; exact bT rfl
     | succ j =>
       have hm:f ∈ A.map (·.1):=Ba.mpr ⟨(f,w),Ak (show A[j]? = some (f,w) from hA),rfl⟩
       rw [bN (fun z => nd.1 (by rw [key_one.mp z]; exact hm))]
       exact ih nd.2 (by simpa using hl) hA hb
def WtsAt (H:Hp) (rs:List Addr) (ws:List Wt):Prop:=rs.length = ws.length ∧ ∀ (j:Nat) r w,rs[j]? = some r → ws[j]? = some w → H r = some (.tup (wV w))
theorem WtsAt.keep {H H':Hp} {rs:List Addr} {ws:List Wt} (h:WtsAt H rs ws) (k:∀ r w,H r = some (.tup (wV w)) → H' r = some (.tup (wV w))):WtsAt H' rs ws:=⟨h.1,fun j r w hr hw => k _ _ (h.2 j r w hr hw)⟩
theorem WtsAt.app {H:Hp} {rs qs:List Addr} {ws vs:List Wt} (h:WtsAt H rs ws) (g:WtsAt H qs vs):WtsAt H (rs ++ qs) (ws ++ vs):=by
 refine ⟨by rw [Am,Am,h.1,g.1],fun j r w hr hw => ?_⟩
 by_cases hj:j < rs.length
 · rw [Ay hj] at hr
   rw [Ay (by rw [← h.1]; exact hj)] at hw
   exact h.2 j r w hr hw
 · rw [Bf (by omega)] at hr
   rw [Bf (by rw [← h.1]; omega),← h.1] at hw
   exact g.2 _ r w hr hw
theorem WtsAt.one {H:Hp} {r:Addr} {w:Wt} (h:H r = some (.tup (wV w))):WtsAt H [r] [w]:=⟨rfl,fun j q v hq hv => by
 cases j with
 | zero => cases hq; cases hv; exact h
 | succ j => cases hq⟩
def ChRd (H:Hp) (r:Addr) (cws:List (List Nat)):Prop:=∃ ds:List Addr,ds.length = (wl cws).length ∧ Rd H r (.dT (dC (wl cws) ds)) ∧ ∀ (j:Nat) w d,(wl cws)[j]? = some w → ds[j]? = some d → H d = some (.lst (((chW cws w).map one).map V.str))
theorem ChRd.keep {H H':Hp} {r:Addr} {cws:List (List Nat)} (h:ChRd H r cws) (s:Same H H'):ChRd H' r cws:=by
 obtain ⟨ds,h1,h2,h3⟩:=h
 exact ⟨ds,h1,h2.elim (fun e => .inl (s _ _ e)) fun ⟨o,e⟩ => .inr ⟨o,s _ _ e⟩,fun j w d hw hd => s _ _ (h3 j w d hw hd)⟩
structure HungOk (cws:List (List Nat)) (m:List (Wt × Nat)):Prop where
 nd:(m.map (·.1)).Nodup
 sub:∀ x ∈ m,x.1 ∈ wl cws
theorem aX5 {cws:List (List Nat)} (hL:∀ c ∈ cws,c.length ≤ 7 ∧ ∀ d ∈ c,bL d) {w:Wt} (hw:w ∈ wl cws) {f:Nat} (hf:f ∈ chW cws w):uM f:=by
 obtain ⟨h1,h2,h3⟩:=wlP_mem.mp hw
 have ecw:cws[w.1]? = some (cws.getD w.1 []):=by rw [Af,Aa h1]; rfl
 rcases ch_iff.mp hf with e | ⟨n,_,h4,_,e⟩
 · rw [e]
   exact .inl (aJR (hL _ (Ak ecw)).2 (by omega))
 · rw [e]
   exact .inr ⟨by omega,by omega⟩
theorem aZT {cws:List (List Nat)} {m:List (Wt × Nat)} {first:Wt} {A:List (Nat × Wt)} (hm:HungOk cws m) (hfw:first ∈ wl cws) (h:Asking (chW cws) m first A) {j f:Nat} {w:Wt} (hj:A[j]? = some (f,w)):w ∈ wl cws:=by
 rcases (h.ok j f w hj).2 with e | ⟨g,i,v,_,_,hg⟩
 · rw [e]; exact hfw
 · exact hm.sub _ (sM hg)
theorem xJ {cws:List (List Nat)} {m:List (Wt × Nat)} {first:Wt} {A:List (Nat × Wt)} (hm:HungOk cws m) (hfw:first ∈ wl cws) (hL:∀ c ∈ cws,c.length ≤ 7 ∧ ∀ d ∈ c,bL d) (h:Asking (chW cws) m first A):A.length ≤ 27:=by
 have r:=aJS (m:=flagsT.cps.toList) h.nd fun f hf => by
   obtain ⟨x,hx,rfl⟩:=Ba.mp hf
   obtain ⟨j,hj,e⟩:=Ca.mp hx
   have hj2:A[j]? = some (x.1,x.2):=by rw [Aa hj,e]
   exact flags_mem.mpr (aX5 hL (aZT hm hfw h hj2) (h.ok j _ _ hj2).1)
 rw [Ab] at r
 exact r
def iI:Sp:=fun vs H Q _ => ∃ (bf ac ah:Addr) (cws:List (List Nat)) (m:List (Wt × Nat)) (first:Wt),vs = [.ref bf,.ref ac,.ref ah] ∧ H bf = some (.tup (wV first)) ∧ first ∈ wl cws ∧ ChRd H ac cws ∧ H ah = some (.dT (eU m)) ∧ HungOk cws m ∧ m.length ≤ 56 ∧ cws.length ≤ 8 ∧ (∀ c ∈ cws,c.length ≤ 7 ∧ ∀ d ∈ c,bL d) ∧
 ∀ (r:Addr) (A:List (Nat × Wt)) (bs:List Addr) (H':Hp),H r = none → Same H H' → H' r = some (.dK (eN A bs)) → WtsAt H' bs (A.map (·.2)) → Asked (chW cws) m first A → A = lF (chW cws) m first → Q (.ref r) H'
theorem sc_asked_from:FnScope ["first", "choices", "hung", "asked", "reached", "at", "asking", "flag"] ["first", "choices", "hung"] (aG cN):=⟨rfl,rfl,rfl,by decide +kernel,rfl,by decide +kernel,by decide +kernel⟩
theorem nS {Zy Zz:Addr} {f:Addr} {fd:FuncData} (F:Fun K "asked_from" "asked_from" cN f fd) (G:Gs K mg Zy Zz)  : FnOk P w K mg base CX0 1 f fd ["first", "choices", "hung"] iI:=by
 refine F.ok sc_asked_from (fun vs H Q E h => ?_) (fun cdv A outer s H vs Q E hr h => ?_)
 · obtain ⟨bf,ac,ah,cws,m,first,rfl,_⟩:=h; rfl
 obtain ⟨bf,ac,ah,cws,m,first,rfl,hbf,hfw,hch,hah,hm,hml,h8,hL,q⟩:=h
 refine ⟨_,(@aF _ _ _ _ _ (@aQ _ _ 3 _ _ _ _ sc_asked_from.nd (by rfl) (by exact (Or.inl rfl)) mR (by rfl) (by first | exact Or.inl rfl | exact Or.inr rfl)) (@aF _ _ _ _ _ (@aQ _ _ 4 _ _ _ _ sc_asked_from.nd (by rfl) (by exact (Or.inl rfl)) (cJ (aA (mv 0) aE)) (by rfl) (by first | exact Or.inl rfl | exact Or.inr rfl)) (@aF _ _ _ _ _ (@aQ _ _ 5 _ _ _ _ sc_asked_from.nd (by rfl) (by exact (Or.inl rfl)) aI (by rfl) (by first | exact Or.inl rfl | exact Or.inr rfl)) (@aF _ _ _ _ _ (mD Bc (bH bJY (mv 5) (aN eJ rfl G.b_len cH (aA (mv 4) aE)) (bS _)) (@aF _ _ _ _ _ (@aQ _ _ 6 _ _ _ _ sc_asked_from.nd (by rfl) (by exact (Or.inl rfl)) (bC cA (mv 4) (mv 5) (fun _ _ => rfl)) (by rfl) (by first | exact Or.inl rfl | exact Or.inr rfl)) (@aF _ _ _ _ _ (bZ Bc rfl (bV (fU (Room.u1 hr) (mv 1) (mv 6) (fun _ _ => rfl))) (aP (i:=7) sc_asked_from.nd rfl (Or.inr rfl)) (@aK _ _ _ (dM (bH (aQI (Room.u1 hr)) (mv 7) (mv 3) (by rfl)) (@aF _ _ _ _ _ (eG (Room.u1 hr) (mv 3) (mv 7) (mv 6) rfl) (@aK _ _ _ (cW (eX Bp Fm Fn aZS (mv 4) (aA (aZA (dN rfl (jX (mv 2)) (eO (N:=["want", "flag", "hung"]) ["first", "choices", "hung", "asked", "reached", "at", "asking", "flag"] (aG cN) [none,some 7,some 2] rfl rfl rfl (fun x h => bM h) (by decide +kernel)) (by decide +kernel) rfl (by decide +kernel) (fun C s₀ H₀ ex => (aP (i:=0) (show List.Nodup (["want", "flag", "hung"]:List Str) by decide +kernel) rfl (Or.inl rfl))) (fun C s₀ H₀ ex => (iP (bH aQC (fU (Room.u1 hr) (mv 2) (mv 0) (fun _ _ => rfl)) (mv 1) (bS _)))) (fun C s₀ H₀ ex => (mv 0)))) aE))))) bQ))) (@aK _ _ _ (@aQ _ _ 5 _ _ _ _ sc_asked_from.nd (by rfl) (by exact (Or.inl rfl)) (aR cI (mv 5) aI) (by rfl) (by first | exact Or.inl rfl | exact Or.inr rfl)))))) (@aK _ _ _ (aW (mv 3))))))),?_⟩
 walk_at "go"
 intro pa hpa
 walk_at "go"
 refine ⟨by show 1 ≤ sizeLine; decide,fun pr hpr => ?_⟩
 have s1:=(aD hpa (.dK [])).trans (aD hpr (.lst [.ref bf]))
 have npr:pa ≠ pr:=fun z => by rw [← z,aB] at hpr; cases hpr
 have ea1:(upd (upd H pa (.dK [])) pr (.lst [.ref bf])) pa = some (.dK []):=by rw [aJ npr,aB]
 have er1:(upd (upd H pa (.dK [])) pr (.lst [.ref bf])) pr = _:=aB
 have hpr0:H pr = none:=none_of (aD hpa _) hpr
 generalize upd (upd H pa (.dK [])) pr (.lst [.ref bf]) = H1 at s1 ea1 er1 ⊢
 walk_at "go"
 refine ⟨fun n σ H' => ∃ (A:List (Nat × Wt)) (bs rs:List Addr) (t:Nat) (v1 v2:Option V),σ = [some (.ref bf),some (.ref ac),some (.ref ah),some (.ref pa),some (.ref pr),some (.int (t:Int)),v1,v2] ∧ Same H H' ∧ H' pa = some (.dK (eN A bs)) ∧ WtsAt H' bs (A.map (·.2)) ∧ H' pr = some (.lst (rs.map V.ref)) ∧ WtsAt H' rs (bK m first A) ∧
     Asking (chW cws) m first A ∧ t ≤ (bK m first A).length ∧ (∀ (j:Nat) w,j < t → (bK m first A)[j]? = some w → ∀ f ∈ chW cws w,f ∈ A.map (·.1)) ∧ A = dB (chW cws) m first t ∧ n = 1 + m.length - t,⟨_,[],[],[bf],0,_,_,rfl,s1,ea1,⟨rfl,fun j r w hr => (nomatch hr)⟩,er1,.one (s1 _ _ hbf),⟨List.nodup_nil,fun j f w hj => (nomatch hj)⟩,By _,fun j w hj => absurd hj (Fp _),rfl,rfl⟩,?_⟩
 rintro n σ H2 ⟨A,bs,rs,t,v1,v2,rfl,s2,ea2,wb2,er2,wr2,hask,htl,hcl,hai,rfl⟩
 have hrl:(rs.map V.ref).length = (bK m first A).length:=by rw [Ab,wr2.1]
 have rr2:=aM er2
 walk_at "go"
 rw [hrl]
 refine lJ (fun hd => ?_) (fun hd => ?_)
 · have hd':=Cb hd
   have ht:t < (bK m first A).length:=by omega
   have hrm:=kS (m:=m) (first:=first) hask.nd
   have htr:t < rs.length:=by rw [wr2.1]; exact ht
   have ew:(bK m first A)[t]? = some (bK m first A)[t]:=Aa ht
   have er:rs[t]? = some rs[t]:=Aa htr
   have hwt:=wr2.2 t _ _ er ew
   have hww:(bK m first A)[t] ∈ wl cws:=by
     rcases reach_mem.mp (Bx ht) with e | ⟨f,_,hm2⟩
     · rw [e]; exact hfw
     · exact hm.sub _ hm2
   generalize hbw:rs[t] = b at hwt er
   generalize hwe:(bK m first A)[t] = w at hwt hww ew
   clear hbw hwe hd hd'
   obtain ⟨ds,d1,d2,d3⟩:=id hch
   obtain ⟨jw,hjw,ejw⟩:=Ca.mp hww
   have ejw2:(wl cws)[jw]? = some w:=by rw [Aa hjw,ejw]
   have edw:ds[jw]? = some (ds[jw]'(by omega)):=Aa (by omega)
   have hdlH:=d3 jw w _ ejw2 edw
   have hdv:=yZ (jA cws cws.length) d1 ejw2 edw
   generalize (ds[jw]'(by omega)) = dl at hdlH hdv
   have hdl:=s2 _ _ hdlH
   have d22:Rd H2 ac (.dT (dC (wl cws) ds)):=d2.elim (fun e => .inl (s2 _ _ e)) fun ⟨o,e⟩ => .inr ⟨o,s2 _ _ e⟩
   refine ⟨fun σ' H' => ∃ (A:List (Nat × Wt)) (bs rs:List Addr) (v1 v2:Option V),σ' = [some (.ref bf),some (.ref ac),some (.ref ah),some (.ref pa),some (.ref pr),some (.int ((t + 1:Nat):Int)),v1,v2] ∧ Same H H' ∧ H' pa = some (.dK (eN A bs)) ∧ WtsAt H' bs (A.map (·.2)) ∧ H' pr = some (.lst (rs.map V.ref)) ∧ WtsAt H' rs (bK m first A) ∧
     Asking (chW cws) m first A ∧ t + 1 ≤ (bK m first A).length ∧ (∀ (j:Nat) w,j < t + 1 → (bK m first A)[j]? = some w → ∀ f ∈ chW cws w,f ∈ A.map (·.1)) ∧ A = dB (chW cws) m first (t + 1),?_,?_⟩
   · rintro σ' H' ⟨A',bs',rs',v1',v2',rfl,g1,g2,g3,g4,g5,g6,g7,g8,g9⟩
     exact ⟨1 + m.length - (t + 1),by omega,A',bs',rs',t + 1,v1',v2',rfl,g1,g2,g3,g4,g5,g6,g7,g8,g9,rfl⟩
   have hits:dB (chW cws) m first (t + 1) = (chW cws w).foldl (tV w) (dB (chW cws) m first t):=by
     show (match (bK m first (dB (chW cws) m first t))[t]? with | some w => (chW cws w).foldl (tV w) (dB (chW cws) m first t) | none => dB (chW cws) m first t) = _
     rw [← hai,ew]
   walk_at "go"
   refine dR rr2 (v:=.ref b) (fQ (by rw [Ag,er]; rfl)) ?_
   walk_at "go"
   refine uR (k:=bU w) d22 hwt hdv ?_
   have rdl:=aM hdl
   have hcl5:=(bQK (cws.getD w.1 []) (w.2 - 1)).2
   have hcm:(((chW cws w).map one).map V.str).length = (chW cws w).length:=by rw [Ab,Ab]
   walk_at "go"
   have kt:∀ {H':Hp} {p:Addr} {u u':HO},H' p = some u → (∀ ws,u ≠ .tup ws) → ∀ r w,H' r = some (.tup (wV w)) → (upd H' p u') r = some (.tup (wV w)):=fun {H' p u u'} e ne r w h => by
     rw [aJ (fun z => by rw [z,e] at h; cases h; exact ne _ rfl)]
     exact h
   refine eF (xs:=((chW cws w).map one).map V.str) (fun i σ H' => ∃ (A:List (Nat × Wt)) (bs rs:List Addr) (v2:Option V),σ = [some (.ref bf),some (.ref ac),some (.ref ah),some (.ref pa),some (.ref pr),some (.int (t:Int)),some (.ref b),v2] ∧ Same H H' ∧ H' pa = some (.dK (eN A bs)) ∧ WtsAt H' bs (A.map (·.2)) ∧ H' pr = some (.lst (rs.map V.ref)) ∧ WtsAt H' rs (bK m first A) ∧
       H' b = some (.tup (wV w)) ∧ Asking (chW cws) m first A ∧ (bK m first A)[t]? = some w ∧ (∀ (j:Nat) v,j < t → (bK m first A)[j]? = some v → ∀ f ∈ chW cws v,f ∈ A.map (·.1)) ∧ (∀ f ∈ (chW cws w).take i,f ∈ A.map (·.1)) ∧ A = ((chW cws w).take i).foldl (tV w) (dB (chW cws) m first t))
     ⟨A,bs,rs,_,rfl,s2,ea2,wb2,er2,wr2,hwt,hask,ew,hcl,(fun f hf => (nomatch hf)),hai⟩ (fun i σ H' _ ⟨_,_,_,_,_,e,_⟩ => aM (e _ _ hdlH)) ?_ ?_
   · clear hask ew hcl hrm htl hrl rr2 wr2 er2 wb2 ea2 er hai
     rintro i x σ H3 hx ⟨A,bs,rs,v2,rfl,s3,ea,wb,er,wr,hb,hask,ew,hcl,hpre,hfo⟩
     rw [Ag,Ag] at hx
     cases ef:(chW cws w)[i]? with
     | none => rw [ef] at hx; cases hx
     | some f =>
       rw [ef] at hx
       cases hx
       have hfc:=Ak ef
       have htk:(chW cws w).take (i + 1) = (chW cws w).take i ++ [f]:=by rw [Bb,ef]; rfl
       have hbl:bs.length = A.length:=by rw [wb.1,Ab]
       have hAl:=xJ hm hfw hL hask
       have hfo1:((chW cws w).take (i + 1)).foldl (tV w) (dB (chW cws) m first t) = tV w A f:=by rw [htk,List.foldl_append,← hfo]; rfl
       walk_at "go"
       refine bZ0 (neg:=true) (z:=one f) (.inl ea) ?_
       rw [if_pos rfl,iE hbl]
       refine lJ (fun hd => ?_) (fun hd => ?_)
       · have hni:f ∉ A.map (·.1):=fun z => by rw [Ap z] at hd; cases hd
         walk_at "go"
         refine fP (z:=one f) ea (aT (by rw [nA hbl]; omega)) ?_
         rw [fM _ (xS hbl hni),← zL (x:=(f,w)) hbl]
         have s4:Same H (upd H3 pa (.dK (eN (A ++ [(f,w)]) (bs ++ [b])))):=bA hpa s3
         have ea4:(upd H3 pa (.dK (eN (A ++ [(f,w)]) (bs ++ [b])))) pa = _:=aB
         have er4:(upd H3 pa (.dK (eN (A ++ [(f,w)]) (bs ++ [b])))) pr = _:=(aJ (Ne.symm npr)).trans er
         have k4:=kt (u':=.dK (eN (A ++ [(f,w)]) (bs ++ [b]))) ea (fun ws z => nomatch z)
         have wb4:=wb.keep k4
         have wr4:=wr.keep k4
         have hb4:=k4 _ _ hb
         generalize upd H3 pa (.dK (eN (A ++ [(f,w)]) (bs ++ [b]))) = H4 at s4 ea4 er4 wb4 wr4 hb4 ⊢
         have ah4:=s4 _ _ hah
         clear k4 wb wr er ea s3 hb
         walk_at "go"
         refine qL ah4 fun o => ?_
         have fz:(upd H4 ah (.frz o (.dT (eU m)))) ah = _:=aB
         have hkl:(eU m).length = m.length:=by unfold eU; rw [Ab]
         refine eS (n:=m.length) (fun D i ys Hc => Same (upd H4 ah (.frz o (.dT (eU m)))) Hc ∧ ∃ qs,ys = qs.map V.ref ∧ WtsAt Hc qs (dD (m.take i) f)) (aT (by omega)) (fun D hD => ⟨aD hD _,[],rfl,rfl,fun j r w hr => (nomatch hr)⟩) (fun D i ys Hc _ r h => ⟨r.1 _ _ fz,by omega⟩) (fun D ys Hc _ r => ⟨r.1 _ _ fz,hkl⟩) ?_ ?_
         · rintro D i2 ys Hc x H' A' B' hD hi2 ⟨sm,qs,rfl,wq⟩ hDc ⟨rfl,kv,b2,hkv,rfl,hb2⟩ hA' hB'
           have em:m[i2]? = some m[i2]:=Aa hi2
           unfold eU at hkv
           rw [Ag,em] at hkv
           cases hkv
           have hbt:H' b2 = some (.tup (wV m[i2].1)):=hb2
           have hv:bJ (eU m) (bU m[i2].1) = some (.str (one m[i2].2)):=by
             rw [gO,jO hm.nd (w:=m[i2].1) (f:=m[i2].2) (Bx hi2)]
             rfl
           have tk:m.take (i2 + 1) = m.take i2 ++ [m[i2]]:=by rw [Bb,em]; rfl
           rw [tk] at hA' hB'
           generalize m[i2] = x2 at hbt hv hA' hB'
           walk_at "go"
           refine ⟨Wk.set rfl (Wk.refl _),?_⟩
           walk_at "go"
           refine uR (k:=bU x2.1) (.inr ⟨o,sm _ _ fz⟩) hbt hv ?_
           walk_at "go"
           rw [show decide (one x2.2 = one f) = decide (x2.2 = f) from pY _ _]
           refine lJ (fun he => ?_) (fun he => ?_)
           · have he':=Cb he
             walk_at "go"
             refine hA' _ _ hDc ⟨bA hD sm,qs ++ [b2],by rw [Aj]; rfl,?_⟩
             rw [show dD (m.take i2 ++ [x2]) f = dD (m.take i2) f ++ [x2.1] by unfold dD; rw [List.filter_append,List.map_append]; simp [he']]
             exact (wq.app (.one hbt)).keep (kt hDc (fun ws z => nomatch z))
           · have he':=Ec (Dq.mpr he)
             walk_at "go"
             refine hB' _ hDc ⟨sm,qs,rfl,?_⟩
             rw [show dD (m.take i2 ++ [x2]) f = dD (m.take i2) f by unfold dD; rw [List.filter_append,List.map_append]; simp [he']]
             exact wq
         · rintro D ys Hc hD ⟨sm,qs,rfl,wq⟩ hDc _
           rw [Bo] at wq
           have hD4:H4 D = none:=by
             by_cases z:D = ah
             · rw [z,aB] at hD; cases hD
             · rw [aJ z] at hD; exact hD
           have su:=lX ah4 (fun o v z => nomatch z) sm
           have eu:=dO (Hs:=H4) hDc (fun o v z => nomatch z)
           have wqu:WtsAt (unf H4 Hc) qs (dD m f):=wq.keep fun r w h => dO h (fun o v z => nomatch z)
           generalize unf H4 Hc = Hu at su eu wqu
           have eru:=su _ _ er4
           have hmr:=bP eru
           have hmd:=bP eu
           have nDr:pr ≠ D:=bG er4 hD4
           have hq1:qs.length ≤ 56:=by rw [wqu.1,vI]; unfold ctm; exact Ax List.countP_le_length hml
           have hr1:rs.length ≤ 57:=by rw [wr4.1]; exact Ax (kS hask.nd) (by omega)
           have hlen:(rs.map V.ref).length + (qs.map V.ref).length ≤ sizeLine:=bX (by rw [Ab,Ab]; omega)
           walk_at "go"
           have kr:=kt (u':=.lst (rs.map V.ref ++ qs.map V.ref)) eru (fun ws z => nomatch z)
           have hRt:=(Ad.mp ew).1
           refine ⟨A ++ [(f,w)],bs ++ [b],rs ++ qs,_,rfl,bA hpr0 (s4.trans su),?_,?_,?_,?_,?_,hask.snoc hm.nd hni hfc (Ak ew),?_,fun j v hj hv => ?_,fun g hg => ?_,by rw [hfo1]; exact (if_neg hni).symm⟩
           · rw [aJ npr]
             exact su _ _ ea4
           · rw [Aj]
             exact ((wb4.keep fun r w h => su _ _ h).app (.one (su _ _ hb4))).keep kr
           · rw [aB,Aj]
           · rw [iQ]
             exact ((wr4.keep fun r w h => su _ _ h).app wqu).keep kr
           · exact kr _ _ (su _ _ hb4)
           · rw [iQ,Ay hRt]
             exact ew
           · rw [iQ,Ay (by omega)] at hv
             intro g hg
             rw [Aj]
             exact Ct _ (hcl j v hj hv g hg)
           · rw [htk] at hg
             rw [Aj]
             rcases Bk.mp hg with z | z
             · exact Ct _ (hpre g z)
             · rw [As.mp z]; exact Bm _ (As.mpr rfl)
       · have hin:f ∈ A.map (·.1):=by
           rw [Bool.not_eq_true,Bool.not_eq_false'] at hd
           exact Cb hd
         walk_at "go"
         refine ⟨A,bs,rs,_,rfl,s3,ea,wb,er,wr,hb,hask,ew,hcl,fun g hg => ?_,by rw [hfo1]; exact (if_pos hin).symm⟩
         rw [htk] at hg
         rcases Bk.mp hg with z | z
         · exact hpre g z
         · rw [As.mp z]; exact hin
   · clear hask ew hcl hrm htl hrl rr2 wr2 er2 wb2 ea2 er hai
     rintro σ H3 ⟨A,bs,rs,v2,rfl,s3,ea,wb,er,wr,hb,hask,ew,hcl,hpre,hfo⟩
     rw [hcm,Bo] at hpre
     rw [hcm,Bo] at hfo
     walk_at "go"
     refine ⟨A,bs,rs,_,_,rfl,s3,ea,wb,er,wr,hask,(Ad.mp ew).1,fun j v hj hv => ?_,by rw [hits]; exact hfo⟩
     by_cases hjt:j < t
     · exact hcl j v hjt hv
     · have:j = t:=by omega
       subst this
       rw [ew] at hv
       cases hv
       exact hpre
 · have hd':=Ec (Dq.mpr hd)
   walk_at "go"
   refine q pa A bs H2 hpa s2 ea2 wb2 (hask.done fun w hw f hf => ?_) (by rw [hai]; exact bQW (by rw [← hai]; omega) (by have:=kS (m:=m) (first:=first) hask.nd; omega))
   obtain ⟨j,hj,ej⟩:=Ca.mp hw
   exact hcl j w (by omega) (by rw [Aa hj,ej]) f hf
theorem sY {m:List (Wt × Nat)} {w:Wt} {f:Nat}:cY (eU m) (bU w) (.str (one f)) = eU (pT m w f):=by
 have e:((eU m).any fun kv => decide (kv.1 = bU w)) = (cT m w).isSome:=by
   rw [dL,gO]
   cases cT m w <;> rfl
 unfold cY pT
 rw [e]
 by_cases h:(cT m w).isSome = true
 · rw [if_pos h,if_pos h]
   unfold eU
   rw [Ce,Ce]
   refine Cd fun x _ => ?_
   show (if bU x.1 = bU w then (bU x.1,V.str (one f)) else (bU x.1,V.str (one x.2))) = (fun x:Wt × Nat => (bU x.1,V.str (one x.2))) (if x.1 = w then (x.1,f) else x)
   by_cases ex:x.1 = w
   · rw [if_pos ex,if_pos (by rw [ex])]
   · rw [if_neg ex,if_neg (fun z => ex (gI z))]
 · rw [if_neg h,if_neg h]
   unfold eU
   rw [Aj]
   rfl
def iG:Sp:=fun vs H Q _ => ∃ (aa ah:Addr) (cws:List (List Nat)) (m:List (Wt × Nat)) (first:Wt) (A:List (Nat × Wt)) (bs:List Addr) (f0:Nat),vs = [.str (one f0),.ref aa,.ref ah] ∧ H aa = some (.dK (eN A bs)) ∧ WtsAt H bs (A.map (·.2)) ∧ Asking (chW cws) m first A ∧ H ah = some (.dT (eU m)) ∧ (m.map (·.1)).Nodup ∧ first ∉ m.map (·.1) ∧ (∀ v f,(v,f) ∈ m → f ∈ chW cws v) ∧ f0 ∈ A.map (·.1) ∧ m.length ≤ 56 ∧
 ∀ (m':List (Wt × Nat)) (H':Hp),(∀ b u,b ≠ ah → H b = some u → H' b = some u) → H' ah = some (.dT (eU m')) → m'.map (·.1) = m.map (·.1) ++ [first] → (∀ v f,(v,f) ∈ m' → f ∈ chW cws v) → (∀ f,ctm m' f = ctm m f + (if f = f0 then 1 else 0)) → AlongR A f0 m m' → Q .non H'
theorem sc_hang_along:FnScope ["flag", "asked", "hung", "want", "given"] ["flag", "asked", "hung"] (aG cX):=⟨rfl,rfl,rfl,by decide +kernel,rfl,by decide +kernel,by decide +kernel⟩
theorem nU {Zy Zz:Addr} {f:Addr} {fd:FuncData} (F:Fun K "hang_along" "hang_along" cX f fd) (G:Gs K mg Zy Zz)  : FnOk P w K mg base CX0 1 f fd ["flag", "asked", "hung"] iG:=by
 refine F.ok sc_hang_along (fun vs H Q E h => ?_) (fun cdv A outer s H vs Q E hr h => ?_)
 · obtain ⟨aa,ah,cws,m,first,A,bs,f0,rfl,_⟩:=h; rfl
 obtain ⟨aa,ah,cws,m,first,A,bs,f0,rfl,haa,hwb,hask,hah,nd,hnf,hmc,hf0,hml,q⟩:=h
 refine ⟨_,(@aK _ _ _ (mD Bc (bH bJO (mv 0) lW (bS _)) (@aF _ _ _ _ _ (@aQ _ _ 3 _ _ _ _ sc_hang_along.nd (by rfl) (by exact (Or.inl rfl)) (fU (Room.u1 hr) (mv 1) (mv 0) (fun _ _ => rfl)) (by rfl) (by first | exact Or.inl rfl | exact Or.inr rfl)) (@aF _ _ _ _ _ (@aQ _ _ 4 _ _ _ _ sc_hang_along.nd (by rfl) (by exact (Or.inl rfl)) (fK Bs Di (aQ5 (Room.u1 hr)) (mv 2) (aA (mv 3) aE)) (by rfl) (by first | exact Or.inl rfl | exact Or.inr rfl)) (@aF _ _ _ _ _ (eG (Room.u1 hr) (mv 2) (mv 3) (mv 0) rfl) (@aK _ _ _ (@aQ _ _ 0 _ _ _ _ sc_hang_along.nd (by rfl) (by exact (Or.inl rfl)) (mv 4) (by rfl) (by first | exact Or.inl rfl | exact Or.inr rfl)))))))),?_⟩
 have hbl:bs.length = A.length:=by rw [hwb.1,Ab]
 have nah:aa ≠ ah:=fun z => by rw [z,hah] at haa; cases haa
 obtain ⟨x0,hx0,e0⟩:=Ba.mp hf0
 obtain ⟨j0,hj0,ej0⟩:=Ca.mp hx0
 have ej:A[j0]? = some (f0,x0.2):=by rw [Aa hj0,ej0,← e0]
 walk_at "go"
 refine ⟨fun n σ H' => (∃ (m2:List (Wt × Nat)) (c j:Nat) (w:Wt) (v1 v2:Option V),σ = [some (.str (one c)),some (.ref aa),some (.ref ah),v1,v2] ∧ (∀ b u,b ≠ ah → H b = some u → H' b = some u) ∧ H' ah = some (.dT (eU m2)) ∧ Along (chW cws) m A f0 m2 c j w ∧ (∀ m',AlongR A c m2 m' → AlongR A f0 m m') ∧ n = j + 1) ∨
     (∃ (m':List (Wt × Nat)) (v1 v2:Option V),σ = [some .non,some (.ref aa),some (.ref ah),v1,v2] ∧ (∀ b u,b ≠ ah → H b = some u → H' b = some u) ∧ H' ah = some (.dT (eU m')) ∧ m'.map (·.1) = m.map (·.1) ++ [first] ∧ (∀ v f,(v,f) ∈ m' → f ∈ chW cws v) ∧ (∀ f,ctm m' f = ctm m f + (if f = f0 then 1 else 0)) ∧ AlongR A f0 m m' ∧ n = 0),
   ⟨_,.inl ⟨m,f0,j0,x0.2,none,none,rfl,fun b u _ h => h,hah,⟨rfl,hmc,fun f => rfl,ej,fun v g i u hg _ _ => hg⟩,fun _ h => h,rfl⟩⟩,?_⟩
 rintro n σ H2 (⟨m2,c,j,w,v1,v2,rfl,fr,eh,al,hR,rfl⟩ | ⟨m',v1,v2,rfl,fr,eh,hk,hc,hct,hR,rfl⟩)
 · walk_at "go"
   rw [show (!decide (V.str (one c) = V.non)) = true from rfl]
   walk_at "go"
   have hjl:=(Ad.mp al.at_).1
   have ebj:bs[j]? = some (bs[j]'(by omega)):=Aa (by omega)
   have hbt:=hwb.2 j _ w ebj (by rw [Ag,al.at_]; rfl)
   have hav:=aZX hask.nd hbl al.at_ ebj
   generalize (bs[j]'(by omega)) = b at hbt hav
   have nb:b ≠ ah:=fun z => by rw [z,hah] at hbt; cases hbt
   have haa2:=fr _ _ nah haa
   have hb2:=fr _ _ nb hbt
   have hkl:(eU m2).length < sizeLine:=by
     have:m2.length = m.length:=by rw [← Ab (f:=(·.1)) (as:=m2),al.keys,Ab]
     unfold eU
     rw [Ab]
     exact aT (by omega)
   have hdd:isD H2 ah = true:=by unfold isD; rw [eh]
   refine ⟨_,fun σ' H' h => h,?_⟩
   walk_at "go"
   refine pV (z:=one c) (.inl haa2) hav ?_
   walk_at "go"
   refine vM (k:=bU w) (.inl eh) hb2 ?_
   rw [gO]
   have fr2:∀ o,∀ b u,b ≠ ah → H b = some u → (upd H2 ah o) b = some u:=fun o b u hb hu => by rw [aJ hb]; exact fr b u hb hu
   rcases (hask.ok j c w al.at_).2 with rfl | ⟨g,i,v,hij,hi,hg⟩
   · obtain ⟨l1,l2,l3,l4⟩:=al.last hask hnf
     rw [l1]
     walk_at "go"
     refine lM (k:=bU w) eh hb2 hkl ?_
     have hR':=hR _ (.stop al.at_ l1)
     have hpe:pT m2 w c = m2 ++ [(w,c)]:=by unfold pT; rw [l1]; rfl
     rw [sY,hpe]
     rw [hpe] at hR'
     walk_at "go"
     exact ⟨0,by omega,.inr ⟨m2 ++ [(w,c)],_,_,rfl,fr2 _,aB,l2,l3,l4,hR',rfl⟩⟩
   · obtain ⟨l1,l2⟩:=al.step hask nd hg hi hij
     rw [l1]
     walk_at "go"
     refine lM (k:=bU w) eh hb2 hkl ?_
     have hR':∀ m',AlongR A g (pT m2 w c) m' → AlongR A f0 m m':=fun m' h => hR _ (.step al.at_ l1 h)
     have hpe:pT m2 w c = m2.map fun x => if x.1 = w then (x.1,c) else x:=by unfold pT; rw [l1]; rfl
     rw [sY,hpe]
     rw [hpe] at hR'
     walk_at "go"
     exact ⟨i + 1,by omega,.inl ⟨_,g,i,v,_,_,rfl,fr2 _,aB,l2,hR',rfl⟩⟩
 · walk_at "go"
   exact q m' H2 fr eh hk hc hct hR
def fT (aC:Addr):Sp:=fun vs H Q _ => ∃ (ea p q:Addr) (xs ys:List V),vs = [.ref ea,.ref p,.ref q] ∧ H ea = some (dW ea aC none) ∧ rdL H p = some xs ∧ rdL H q = some ys ∧
 ∀ (dx l1 l2:Addr) (H':Hp),(∀ b u,b ≠ ea → H b = some u → H' b = some u) → H dx = none → dx ≠ ea → H' ea = some (dW ea aC (some dx)) → H' dx = some (xdO dx [("flags",.ref l2),("wants",.ref l1)]) → H' l1 = some (.lst xs) → H' l2 = some (.lst ys) → H l1 = none → H l2 = none → Q .non H'
theorem pO:FnScope ["self", "wants", "flags"] ["self", "wants", "flags"] (aG dG):=⟨rfl,rfl,rfl,by decide +kernel,rfl,by decide +kernel,by decide +kernel⟩
theorem qU {Zy Zz:Addr} {f:Addr} {fd:FuncData} (F:Fun K "__init__" "Lack.__init__" dG f fd) (G:Gs K mg Zy Zz)  : FnOk P w K mg base CX0 1 f fd ["self", "wants", "flags"] (fT Zy):=by
 refine F.ok pO (fun vs H Q E h => ?_) (fun cdv A outer s H vs Q E hr h => ?_)
 · obtain ⟨ea,p,q,xs,ys,rfl,_⟩:=h; rfl
 obtain ⟨ea,p,q,xs,ys,rfl,he,hp,hq,qq⟩:=h
 refine ⟨_,(@aF _ _ _ _ _ (cW (aJQ rfl G.c_TowerError G.t1_TowerError G.t2_TowerError G.t3_TowerError (aA (mv 0) (aA (aZ fB rfl G.b_list cE (aA (mv 1) aE)) (aA (aZ fB rfl G.b_list cE (aA (mv 2) aE)) aE))))) (@aF _ _ _ _ _ (vK (mv 0) (aZ fB rfl G.b_list cE (aA (mv 1) aE)) rfl) (@aK _ _ _ (vK (mv 0) (aZ fB rfl G.b_list cE (aA (mv 2) aE)) rfl)))),?_⟩
 walk_at "go"
 intro l1 hl1
 have s1:=aD hl1 (.lst xs)
 generalize upd H l1 (.lst xs) = H1 at s1 ⊢
 have hq1:=aH s1 hq
 walk_at "go"
 intro l2 hl2
 have s2:=s1.trans (aD hl2 (.lst ys))
 generalize upd H1 l2 (.lst ys) = H2 at s2 ⊢
 have he2:=s2 _ _ he
 walk_at "go"
 refine ⟨ea,[.ref l1,.ref l2],Zy,Zz,none,rfl,by show 2 ≤ sizeLine; decide,he2,(fun _ z => nomatch z),G.xc_Lack,?_⟩
 have hp2:=aH s2 hp
 walk_at "go"
 intro l3 hl3
 have s3:=s2.trans (aD hl3 (.lst xs))
 have e3:(upd H2 l3 (.lst xs)) l3 = _:=aB
 generalize upd H2 l3 (.lst xs) = H3 at s3 e3 ⊢
 have he3:=s3 _ _ he
 walk_at "go"
 refine ⟨ea,Zy,Zz,rfl,G.xc_Lack,G.xn_Lack_wants,.inl ⟨he3,fun dx hdx => ?_⟩⟩
 have nde:dx ≠ ea:=fun z => by rw [z,he3] at hdx; cases hdx
 have fr4:∀ b u,b ≠ ea → H b = some u → (upd (upd H3 ea (dW ea Zy (some dx))) dx (xdO dx [("wants",.ref l3)])) b = some u:=fun b u hb hu => by
   have e:=s3 _ _ hu
   rw [aJ (fun z => by rw [z,hdx] at e; cases e),aJ hb]
   exact e
 have ee4:(upd (upd H3 ea (dW ea Zy (some dx))) dx (xdO dx [("wants",.ref l3)])) ea = some (dW ea Zy (some dx)):=by rw [aJ nde.symm,aB]
 have ed4:(upd (upd H3 ea (dW ea Zy (some dx))) dx (xdO dx [("wants",.ref l3)])) dx = _:=aB
 have n3e:l3 ≠ ea:=fun z => by rw [z,he3] at e3; cases e3
 have n3d:l3 ≠ dx:=fun z => by rw [z,hdx] at e3; cases e3
 have el4:(upd (upd H3 ea (dW ea Zy (some dx))) dx (xdO dx [("wants",.ref l3)])) l3 = some (.lst xs):=by rw [aJ n3d,aJ n3e]; exact e3
 have hqe:q ≠ ea:=fun z => by rw [z] at hq; unfold rdL at hq; rw [he] at hq; cases hq
 have hq4:rdL (upd (upd H3 ea (dW ea Zy (some dx))) dx (xdO dx [("wants",.ref l3)])) q = some ys:=by
   have hq3:=aH s3 hq
   rw [aZH (fun z => by rw [z] at hq3; unfold rdL at hq3; rw [hdx] at hq3; cases hq3),aZH hqe]
   exact hq3
 generalize upd (upd H3 ea (dW ea Zy (some dx))) dx (xdO dx [("wants",.ref l3)]) = H4 at fr4 ee4 ed4 el4 hq4 ⊢
 walk_at "go"
 intro l4 hl4
 have s5:=aD hl4 (.lst ys)
 have e5:(upd H4 l4 (.lst ys)) l4 = _:=aB
 have ee5:=s5 _ _ ee4
 have ed5:=s5 _ _ ed4
 have el5:=s5 _ _ el4
 have n4d:l4 ≠ dx:=fun z => by rw [z,ed4] at hl4; cases hl4
 have n4e:l4 ≠ ea:=fun z => by rw [z,ee4] at hl4; cases hl4
 have h40:H l4 = none:=by
   cases e:H l4 with
   | none => rfl
   | some u => rw [fr4 _ _ n4e e] at hl4; cases hl4
 generalize upd H4 l4 (.lst ys) = H5 at s5 e5 ee5 ed5 el5 ⊢
 walk_at "go"
 refine ⟨ea,Zy,Zz,rfl,G.xc_Lack,G.xn_Lack_flags,.inr ⟨dx,_,ee5,ed5,(by show 1 < 100; decide),?_⟩⟩
 refine qq dx l3 l4 _ (fun b u hb hu => ?_) (none_of s3 hdx) nde (by rw [aJ nde.symm]; exact ee5) aB (by rw [aJ n3d]; exact el5) (by rw [aJ n4d]; exact e5) (none_of s2 hl3) h40
 have e:=s5 _ _ (fr4 b u hb hu)
 rw [aJ (fun z => by have q9:=s3 _ _ hu; rw [z,hdx] at q9; cases q9)]
 exact e
structure LackOk (cws:List (List Nat)) (n:Nat → Int) (W:List Wt) (F:List Nat):Prop where
 sub:W.Sublist (wl cws)
 flags:∃ p:Nat → Bool,F = flagsT.cps.toList.filter p
 all:∀ w ∈ W,∀ f ∈ chW cws w,f ∈ F
 few:(F.map n).sum < (W.length:Int)
def ctn (fs:List Nat) (c:Nat):Nat:=fs.countP fun x => decide (x = c)
theorem kA (g:Nat → Nat):∀ L:List Nat,(L.map fun c => ((g c:Nat):Int)).sum = (((L.map g).sum:Nat):Int)
 | [] => rfl
 | c :: r => by
   rw [Aw,Cy,Aw,Cy,kA g r]
   omega
theorem bQV {cws:List (List Nat)} {n0:Nat → Int} {m:List (Wt × Nat)} {first:Wt} {A:List (Nat × Wt)} {fl:Nat → Option Int} {l r:List Wt} (hw:wl cws = l ++ first :: r) (hk:m.map (·.1) = l) (hL:∀ c ∈ cws,c.length ≤ 7 ∧ ∀ d ∈ c,bL d) (hmo:HungOk cws m) (hfw:first ∈ wl cws)
   (hA:Asked (chW cws) m first A) (hct:∀ c,aL fl c = n0 c - (ctm m c:Int) ∧ 0 ≤ aL fl c) (h0:∀ c ∈ A.map (·.1),¬ 0 < aL fl c):LackOk cws n0 (gA m first A (wl cws)) (flagsT.cps.toList.filter fun c => decide (c ∈ A.map (·.1))):=by
 have hAf:∀ c ∈ A.map (·.1),uM c:=fun c hc => by
   obtain ⟨x,hx,rfl⟩:=Ba.mp hc
   obtain ⟨j,hj,e⟩:=Ca.mp hx
   have hj2:A[j]? = some (x.1,x.2):=by rw [Aa hj,e]
   exact aX5 hL (aZT hmo hfw hA.toAsking hj2) (hA.ok j _ _ hj2).1
 have hF:∀ c,c ∈ flagsT.cps.toList.filter (fun c => decide (c ∈ A.map (·.1))) ↔ c ∈ A.map (·.1):=fun c => by
   rw [Cs,Bh]
   exact ⟨fun h => h.2,fun h => ⟨flags_mem.mpr (hAf c h),h⟩⟩
 have ndF:(flagsT.cps.toList.filter fun c => decide (c ∈ A.map (·.1))).Nodup:=List.Nodup.sublist List.filter_sublist (by decide)
 have nd:=jA cws cws.length
 replace nd:(wl cws).Nodup:=nd
 refine ⟨List.filter_sublist,⟨_,rfl⟩,fun w hwm f hf => ?_,?_⟩
 · refine (hF f).mpr ?_
   have h2:=(lackW_mem.mp hwm).2
   by_cases e:w = first
   · subst e
     exact hA.all1 f hf
   · cases eg:cT m w with
     | none => rw [mG e eg] at h2; cases h2
     | some g =>
       rw [lR e eg] at h2
       exact hA.all w g (sM eg) (Cb h2) f hf
 · have e1:(gA m first A (wl cws)).length = 1 + m.countP (fun x => decide (x.2 ∈ A.map (·.1))):=by
     rw [hw] at nd ⊢
     exact aQO hk nd
   have e2:m.countP (fun x => decide (x.2 ∈ A.map (·.1))) = m.countP (fun x => decide (x.2 ∈ flagsT.cps.toList.filter fun c => decide (c ∈ A.map (·.1)))):=by
     congr 1
     funext x
     exact Dx.mpr (hF x.2).symm
   have e3:=bJI m ndF
   have e4:(flagsT.cps.toList.filter fun c => decide (c ∈ A.map (·.1))).map n0 = (flagsT.cps.toList.filter fun c => decide (c ∈ A.map (·.1))).map fun c => ((ctm m c:Nat):Int):=Cd fun c hc => by
     have h1:=hct c
     have h2:=h0 c ((hF c).mp hc)
     omega
   rw [e4,kA,e1,e2,e3]
   omega
def kT (aC:Addr):Sp:=fun vs H Q E => ∃ (a b:Addr) (kvs:List (Key × V)) (f:Nat → Option Int) (cws:List (List Nat)),vs = [.ref a,.ref b] ∧ Rd H a (.dK kvs) ∧ Lk kvs f ∧ rdL H b = some ((cws.map aY).map V.str) ∧ cws.length ≤ 8 ∧ (∀ c ∈ cws,c.length ≤ 7 ∧ ∀ d ∈ c,bL d) ∧
 (∀ (r:Addr) (ps:List Addr) (fs:List Nat) (H':Hp),H r = none → Same H H' → H' r = some (.lst (ps.map V.ref)) → (∀ p ∈ ps,p ≠ r) → Lsts H H' ps ((List.range cws.length).map (kQ cws fs)) → fs.length = (wl cws).length → (∀ (j:Nat) w g,(wl cws)[j]? = some w → fs[j]? = some g → g ∈ chW cws w) → (∀ c,(ctn fs c:Int) ≤ aL (aX (aL f)) c) → HungIs cws (aL (aX (aL f))) fs → Q (.ref r) H') ∧
 (∀ (dx l1 l2:Addr) (rs:List Addr) (W:List Wt) (F:List Nat) (H':Hp),Same H H' → H' dx = some (xdO dx [("flags",.ref l2),("wants",.ref l1)]) → H' l1 = some (.lst (rs.map V.ref)) → WtsAt H' rs W → H' l2 = some (.lst ((F.map one).map V.str)) → LackOk cws (aL (aX (aL f))) W F → LackIs cws (aL (aX (aL f))) W F → H l1 = none → H l2 = none → E (.ref aC) (some dx) H')
theorem sc_hang_all:FnScope ["locker", "words", "choices", "left", "hung", "first", "asked", "free", "wants"] ["locker", "words"] (aG cD):=⟨rfl,rfl,rfl,by decide +kernel,rfl,by decide +kernel,by decide +kernel⟩
theorem rM {Zy Zz:Addr} {f:Addr} {fd:FuncData} (F:Fun K "hang_all" "hang_all" cD f fd) (G:Gs K mg Zy Zz) (c_choices_of:Cal P w K mg base 2 "choices_of" ["words"] iN) (c_plain_locker:Cal P w K mg base 1 "plain_locker" ["locker"] fY) (c_hoists_of:Cal P w K mg base 1 "hoists_of" ["words", "flags"] jW) (c_asked_from:Cal P w K mg base 1 "asked_from" ["first", "choices", "hung"] iI) (c_hang_along:Cal P w K mg base 1 "hang_along" ["flag", "asked", "hung"] iG) (c_Lack_init:bXP P w K mg base 1 Zy ["self", "wants", "flags"] (fT Zy)):FnOk P w K mg base (CXr P w) 3 f fd ["locker", "words"] (kT Zy):=by
 refine F.okX sc_hang_all (fun vs H Q E h => ?_) (fun cdv A outer s H vs Q E hr h => ?_)
 · obtain ⟨a,b,kvs,f,cws,rfl,_⟩:=h; rfl
 obtain ⟨a,b,kvs,f,cws,rfl,ha,lk,hb,h8,hL,q,qe⟩:=h
 refine ⟨_,(@aF _ _ _ _ _ (@aQ _ _ 2 _ _ _ _ sc_hang_all.nd (by rfl) (by exact (Or.inl rfl)) (bB c_choices_of hr (by decide) rfl (aA (mv 1) aE)) (by rfl) (by first | exact Or.inl rfl | exact Or.inr rfl)) (@aF _ _ _ _ _ (@aQ _ _ 3 _ _ _ _ sc_hang_all.nd (by rfl) (by exact (Or.inr rfl)) (bB c_plain_locker hr (by decide) rfl (aA (mv 0) aE)) (by rfl) (by first | exact Or.inl rfl | exact Or.inr rfl)) (@aF _ _ _ _ _ (@aQ _ _ 4 _ _ _ _ sc_hang_all.nd (by rfl) (by exact (Or.inr rfl)) mQ (by rfl) (by first | exact Or.inl rfl | exact Or.inr rfl)) (@aF _ _ _ _ _ (tU (bZ PassesOwn.leaving rfl (jX (mv 2)) (aP (i:=5) sc_hang_all.nd rfl (Or.inr rfl)) (@aF _ _ _ _ _ (@aQ _ _ 6 _ _ _ _ sc_hang_all.nd (by rfl) (by exact (Or.inr rfl)) (bB c_asked_from hr (by decide) rfl (aA (mv 5) (aA (mv 2) (aA (mv 4) aE)))) (by rfl) (by first | exact Or.inl rfl | exact Or.inr rfl)) (@aF _ _ _ _ _ (tU (hV (i:=7) sc_hang_all.nd rfl (Or.inl rfl) rfl (bQF (mv 6)) (eO (N:=["flag", "left"]) ["locker", "words", "choices", "left", "hung", "first", "asked", "free", "wants"] (aG cD) [none,some 3] rfl rfl rfl (fun x h => bM h) (by decide +kernel)) (by decide +kernel) rfl (by decide +kernel) (fun C s₀ H₀ ex => (aP (i:=0) (show List.Nodup (["flag", "left"]:List Str) by decide +kernel) rfl (Or.inl rfl))) (fun C s₀ H₀ ex => (iP (bH cXB (fK Bs Di (wX (Room.u1 hr)) (mv 1) (aA (mv 0) (aA aI aE))) aI (bS _)))) (fun C s₀ H₀ ex => (mv 0)))) (@aF _ _ _ _ _ (dM (bH (cJP hr.units0) (mv 7) (cJ aE) (bS _)) (@aF _ _ _ _ _ (tU (hV (i:=8) sc_hang_all.nd rfl (Or.inl rfl) rfl (jX (mv 2)) (eO (N:=["want", "first", "asked", "hung"]) ["locker", "words", "choices", "left", "hung", "first", "asked", "free", "wants"] (aG cD) [none,some 5,some 6,some 4] rfl rfl rfl (fun x h => bM h) (by decide +kernel)) (by decide +kernel) rfl (by decide +kernel) (fun C s₀ H₀ ex => (aP (i:=0) (show List.Nodup (["want", "first", "asked", "hung"]:List Str) by decide +kernel) rfl (Or.inl rfl))) (fun C s₀ H₀ ex => (iP (PW.pt (fZ (bH (cZL hr.units0) (mv 0) (mv 1) (bS _)) (iO (bH (bJT (Room.u1 hr)) (fK Bs Di (aQ5 (Room.u1 hr)) (mv 3) (aA (mv 0) aE)) (mv 2) (by rfl))))))) (fun C s₀ H₀ ex => (mv 0)))) (@aK _ _ _ (zF bQL rfl rfl rfl G.c_Lack G.xm_Lack c_Lack_init hr (by decide) (aA (mv 8) (aA (dN rfl (mL (qA rfl G.s_FLAGS)) (eO (N:=["flag", "asked"]) ["locker", "words", "choices", "left", "hung", "first", "asked", "free", "wants"] (aG cD) [none,some 6] rfl rfl rfl (fun x h => bM h) (by decide +kernel)) (by decide +kernel) rfl (by decide +kernel) (fun C s₀ H₀ ex => (aP (i:=0) (show List.Nodup (["flag", "asked"]:List Str) by decide +kernel) rfl (Or.inl rfl))) (fun C s₀ H₀ ex => (iP (bH (bJA (Room.u1 hr)) (mv 0) (mv 1) (by rfl)))) (fun C s₀ H₀ ex => (mv 0))) aE))))) bQ) (@aF _ _ _ _ _ (eG (Room.u1 hr) (mv 3) (bC cA (mv 7) aI (fun _ _ => rfl)) (aR iL (fU (Room.u1 hr) (mv 3) (bC cA (mv 7) aI (fun _ _ => rfl)) (fun _ _ => rfl)) aI) rfl) (@aK _ _ _ (cW (bB c_hang_along hr (by decide) rfl (aA (bC cA (mv 7) aI (fun _ _ => rfl)) (aA (mv 6) (aA (mv 4) aE)))))))))))) (@aK _ _ _ (aW (bB c_hoists_of hr (by decide) rfl (aA (mv 1) (aA (aZA (dN rfl (jX (mv 2)) (eO (N:=["want", "hung"]) ["locker", "words", "choices", "left", "hung", "first", "asked", "free", "wants"] (aG cD) [none,some 4] rfl rfl rfl (fun x h => bM h) (by decide +kernel)) (by decide +kernel) rfl (by decide +kernel) (fun C s₀ H₀ ex => (aP (i:=0) (show List.Nodup (["want", "hung"]:List Str) by decide +kernel) rfl (Or.inl rfl))) (fun C s₀ H₀ ex => fD) (fun C s₀ H₀ ex => (fU (Room.u1 hr) (mv 1) (mv 0) (fun _ _ => rfl))))) aE))))))))),?_⟩
 have h7:∀ c ∈ cws,c.length ≤ 7:=fun c hc => (hL c hc).1
 have hlw:(wl cws).length ≤ 56:=Ax (jH h7 _) (by omega)
 walk_at "go"
 refine ⟨b,cws,rfl,hb,h8,h7,fun ac H1 hac s1 hch => ?_⟩
 walk_at "go"
 refine ⟨a,kvs,f,rfl,ha.elim (fun e => .inl (s1 _ _ e)) (fun ⟨o,e⟩ => .inr ⟨o,s1 _ _ e⟩),lk,fun al H2 hal s2 el => ?_⟩
 walk_at "go"
 intro ah hah
 have s3:=s2.trans (aD hah (.dT []))
 have eh3:(upd H2 ah (.dT [])) ah = _:=aB
 have el3:=aD hah (.dT []) _ _ el
 generalize upd H2 ah (.dT []) = H3 at s3 eh3 el3 ⊢
 obtain ⟨ds,dl,ed,hds⟩:=hch
 rw [Bo] at ed
 have ed3:=s3 _ _ ed
 walk_at "go"
 refine qL ed3 fun o => ?_
 have fz:(upd H3 ac (.frz o (.dT (dC (wl cws) ds)))) ac = _:=aB
 have kl:(dC (wl cws) ds).length = (wl cws).length:=pC dl
 have nac:ah ≠ ac:=fun z => by have e:=s2 _ _ ed; rw [← z,hah] at e; cases e
 have nla:al ≠ ac:=fun z => by rw [z,ed3] at el3; cases el3
 have nlh:al ≠ ah:=fun z => by rw [z,eh3] at el3; cases el3
 have s13:Same H1 H3:=s3
 have hah1:H1 ah = none:=none_of s2 hah
 generalize hn0:aL (aX (aL f)) = n0
 refine aQ2 (fun i σ H' => ∃ (m:List (Wt × Nat)) (kl2:List (Key × V)) (fl:Nat → Option Int) (v5 v6 v7 v8:Option V),σ = [some (.ref a),some (.ref b),some (.ref ac),some (.ref al),some (.ref ah),v5,v6,v7,v8] ∧ (∀ p u,p ≠ ac → p ≠ al → p ≠ ah → H1 p = some u → H' p = some u) ∧ H' ac = some (.frz o (.dT (dC (wl cws) ds))) ∧ H' ah = some (.dT (eU m)) ∧ H' al = some (.dK kl2) ∧ Lk kl2 fl ∧ kl2.length ≤ 27 ∧ m.map (·.1) = (wl cws).take i ∧ (∀ v g,(v,g) ∈ m → g ∈ chW cws v) ∧ (∀ c,aL fl c = n0 c - (ctm m c:Int) ∧ 0 ≤ aL fl c) ∧ StateR cws n0 i m)
   ⟨[],_,aX (aL f),_,_,_,_,rfl,fun p u h1 h2 h3 hu => by rw [aJ h1]; exact s13 _ _ hu,fz,by rw [aJ nac]; exact eh3,by rw [aJ nla]; exact el3,zQ _,by unfold kvL; rw [Ab]; exact nF _ _,rfl,(fun v g hv => nomatch hv),fun c => ?_,.zero⟩ (fun i σ H' _ ⟨_,_,_,_,_,_,_,_,_,e,_⟩ => e) ?_ ?_
 · rw [hn0]
   refine ⟨by show n0 c = n0 c - ((0:Nat):Int); omega,?_⟩
   rw [← hn0]
   show 0 ≤ (aX (aL f) c).getD 0
   unfold aX
   split
   · rename_i h; exact Int.le_of_lt h.2
   · exact Gu 0
 · rintro i kv bf σ H4 hkv hbf ⟨m,kl2,fl,v5,v6,v7,v8,rfl,fr,ec,eh,el4,lkl,l27,hk,hmc,hct,hSt⟩
   have hi:i < (wl cws).length:=by rw [← kl]; exact (Ad.mp hkv).1
   have ew:(wl cws)[i]? = some (wl cws)[i]:=Aa hi
   have ekv:kv = (bU (wl cws)[i],V.ref (ds[i]'(by omega))):=by
     unfold dC at hkv
     rw [Et,ew,Aa (show i < ds.length by omega)] at hkv
     exact (Bi hkv).symm
   rw [ekv] at hbf
   have hnd:=jA cws cws.length
   have hfw:(wl cws)[i] ∈ wl cws:=Bx hi
   have htk:(wl cws).take (i + 1) = (wl cws).take i ++ [(wl cws)[i]]:=by rw [Bb,ew]; rfl
   have hfn:(wl cws)[i] ∉ m.map (·.1):=by
     rw [hk]
     intro z
     obtain ⟨j,hj,ej⟩:=Ca.mp z
     rw [Bl] at hj
     rw [List.getElem_take] at ej
     have:=(Fc hnd).mp ej
     omega
   have hml:m.length ≤ 56:=by
     have e:m.length = (m.map (·.1)).length:=(Ab _).symm
     rw [e,hk,Bl]
     omega
   have hmo:HungOk cws m:=⟨by rw [hk]; exact hnd.sublist (List.take_sublist ..),fun x hx => List.mem_of_mem_take (by rw [← hk]; exact Ba.mpr ⟨x,hx,rfl⟩)⟩
   have hcr:ChRd H4 ac cws:=⟨ds,dl,.inr ⟨o,ec⟩,fun j w d hw hd => by
     have h1:=hds j w d (Ad.mp hw).1 hw hd
     exact fr d _ (fun z => by rw [z,ed] at h1; cases h1) (fun z => by rw [z,hal] at h1; cases h1) (fun z => by rw [z,hah1] at h1; cases h1) h1⟩
   replace hbf:H4 bf = some (.tup (wV (wl cws)[i])):=hbf
   clear ekv hkv
   generalize (wl cws)[i] = first at hbf ew hfw htk hfn
   walk_at "go"
   refine ⟨bf,ac,ah,cws,m,first,rfl,hbf,hfw,hcr,eh,hmo,hml,h8,hL,fun pa A bs H5 hpa s5 ea wb hask hAf => ?_⟩
   have el5:=s5 _ _ el4
   have hbl:bs.length = A.length:=by rw [wb.1,Ab]
   have hA27:=xJ hmo hfw hL hask.toAsking
   have hdl5:=jZ el5
   walk_at "go"
   refine cQG ea fun oa => ?_
   have fza:(upd H5 pa (.frz oa (.dK (eN A bs)))) pa = _:=aB
   have nlp:al ≠ pa:=fun z => by rw [z,hpa] at el4; cases el4
   have elf:(upd H5 pa (.frz oa (.dK (eN A bs)))) al = _:=(aJ nlp).trans el5
   refine eS (n:=A.length) (fun D i ys Hc => Same (upd H5 pa (.frz oa (.dK (eN A bs)))) Hc ∧ ys = ((((A.take i).map (·.1)).filter fun c => decide (0 < aL fl c)).map one).map V.str) (aT (by omega)) (fun D hD => ⟨aD hD _,rfl⟩) (fun D i ys Hc _ r h => ⟨r.1 _ _ fza,by rw [nA hbl]; exact h⟩) (fun D ys Hc _ r => ⟨r.1 _ _ fza,nA hbl⟩) ?_ ?_
   · rintro D i2 ys Hc x H' A' B' hD hi2 ⟨sm,rfl⟩ hDc ⟨rfl,kv,hkv,rfl⟩ hA' hB'
     have eA:A[i2]? = some A[i2]:=Aa hi2
     unfold eN at hkv
     rw [Et,eA,Aa (show i2 < bs.length by omega)] at hkv
     cases hkv
     have tk:A.take (i2 + 1) = A.take i2 ++ [A[i2]]:=by rw [Bb,eA]; rfl
     rw [tk,Aj,En] at hA' hB'
     generalize A[i2] = xa at hA' hB'
     have elc:=sm _ _ elf
     have hdc:=jZ elc
     dsimp only [kV]
     walk_at "go"
     refine ⟨Wk.set rfl (Wk.refl _),?_⟩
     walk_at "go"
     refine xG (z:=one xa.1) (.inl elc) ?_
     rw [lkl.val xa.1,lO]
     walk_at "go"
     refine lJ (fun he => ?_) (fun he => ?_)
     · have he':=Cb he
       walk_at "go"
       refine hA' _ _ hDc ⟨bA hD sm,?_⟩
       rw [show ([xa].map (·.1)).filter (fun c => decide (0 < aL fl c)) = [xa.1] by simp [he'],List.map_append,List.map_append]
       rfl
     · have he':=Ec (Dq.mpr he)
       walk_at "go"
       refine hB' _ hDc ⟨sm,?_⟩
       rw [show ([xa].map (·.1)).filter (fun c => decide (0 < aL fl c)) = [] by simp; omega,List.append_nil]
   · rintro D ys Hc hD ⟨sm,rfl⟩ hDc _
     rw [Bo] at hDc
     have su:=lX ea (fun o v z => nomatch z) sm
     have eu:=dO (Hs:=H5) hDc (fun o v z => nomatch z)
     refine lL ?_
     unfold aQ1
     dsimp only
     generalize unf H5 Hc = H6 at su eu ⊢
     have s46:=s5.trans su
     have ea6:=su _ _ ea
     have wb6:WtsAt H6 bs (A.map (·.2)):=wb.keep fun r w h => su _ _ h
     have ec6:=s46 _ _ ec
     have eh6:=s46 _ _ eh
     have el6:=s46 _ _ el4
     have hbf6:=s46 _ _ hbf
     have fr6:∀ p u,p ≠ ac → p ≠ al → p ≠ ah → H1 p = some u → H6 p = some u:=fun p u h1 h2 h3 hu => s46 _ _ (fr p u h1 h2 h3 hu)
     have hD4:H4 D = none:=by
       have h5:H5 D = none:=by
         by_cases z:D = pa
         · rw [z,aB] at hD; cases hD
         · rw [aJ z] at hD; exact hD
       exact none_of s5 h5
     clear sm hDc hD fza elf hdl5 el5
     walk_at "go"
     refine ⟨by decide,fun pe hpe => ?_⟩
     refine aJD (neg:=false) (aH (aD hpe _) (aM eu)) dA (cQ _) rfl ?_
     have s67:=aD hpe (.lst [])
     generalize upd H6 pe (.lst []) = H7 at s67 ⊢
     have en:∀ xs:List V,gQ xs [] = xs.isEmpty:=fun xs => by cases xs <;> rfl
     rw [if_neg (by decide),en]
     have hfre:(A.map (·.1)).filter (fun c => decide (0 < aL fl c)) = oR n0 m (lF (chW cws) m first):=by
       unfold oR
       rw [← hAf]
       exact List.filter_congr fun c _ => by rw [(hct c).1]
     cases hfr:(A.map (·.1)).filter (fun c => decide (0 < aL fl c)) with
     | nil =>
       rw [hfr] at eu
       rw [show (List.map V.str (List.map one [])).isEmpty = true from rfl]
       have ec7:=s67 _ _ ec6
       have eh7:=s67 _ _ eh6
       have ea7:=s67 _ _ ea6
       have hbf7:=s67 _ _ hbf6
       have fr7:∀ p u,p ≠ ac → p ≠ al → p ≠ ah → H1 p = some u → H7 p = some u:=fun p u h1 h2 h3 hu => s67 _ _ (fr6 p u h1 h2 h3 hu)
       clear eu wb6 hpe s67 fr6 fr ec6 eh6 ea6 hbf6 el6 su hD4 s46 hpa s5 ea wb el4 nlp
       walk_at "go"
       refine aJF ec7 ?_
       refine eS (n:=(wl cws).length) (fun D i ys Hc => Same H7 Hc ∧ ∃ rs,ys = rs.map V.ref ∧ WtsAt Hc rs (gA m first A ((wl cws).take i))) (aT (by omega)) (fun D hD => ⟨aD hD _,[],rfl,rfl,fun j r w hr => nomatch hr⟩) (fun D i ys Hc _ r h => ⟨r.1 _ _ ec7,by rw [kl]; exact h⟩) (fun D ys Hc _ r => ⟨r.1 _ _ ec7,kl⟩) ?_ ?_
       · rintro D i2 ys Hc x H' A' B' hD hi2 ⟨sm,rs,rfl,hwt⟩ hDc ⟨rfl,kv,bk,hkv,rfl,hbk⟩ hA' hB'
         have ew2:(wl cws)[i2]? = some (wl cws)[i2]:=Aa hi2
         have ekv:kv = (bU (wl cws)[i2],V.ref (ds[i2]'(by omega))):=by
           unfold dC at hkv
           rw [Et,ew2,Aa (show i2 < ds.length by omega)] at hkv
           exact (Bi hkv).symm
         rw [ekv] at hbk
         replace hbk:H' bk = some (.tup (wV (wl cws)[i2])):=hbk
         have tk:(wl cws).take (i2 + 1) = (wl cws).take i2 ++ [(wl cws)[i2]]:=by rw [Bb,ew2]; rfl
         rw [tk] at hA' hB'
         clear ekv hkv ew2 tk
         generalize (wl cws)[i2] = wx at hbk hA' hB'
         have ehc:=sm _ _ eh7
         have eac:=sm _ _ ea7
         have hfc:=sm _ _ hbf7
         have yes:gD m first A wx = true → A' (.ref bk) H':=fun hb => by
           refine hA' _ _ hDc ⟨bA hD sm,rs ++ [bk],by rw [Aj]; rfl,?_⟩
           rw [mE,hb,if_pos rfl]
           refine WtsAt.keep (hwt.app (.one hbk)) fun r w h => ?_
           rw [aJ (fun z => by rw [z,hDc] at h; cases h)]
           exact h
         have no:gD m first A wx = false → B' H':=fun hb => by
           refine hB' _ hDc ⟨sm,rs,rfl,?_⟩
           rw [mE,hb,if_neg (by decide),Bw]
           exact hwt
         clear hA' hB'
         walk_at "go"
         refine ⟨Wk.set rfl (Wk.refl _),?_⟩
         walk_at "go"
         refine cJY hbk hfc ?_
         have hd2:decide ((wx.1:Int) = (first.1:Int) ∧ (wx.2:Int) = (first.2:Int)) = decide (wx = first):=Dx.mpr ⟨fun h => Prod.ext (by omega) (by omega),fun h => by rw [h]; exact ⟨rfl,rfl⟩⟩
         rw [hd2]
         by_cases e:wx = first
         · rw [Ap e]
           walk_at "go"
           exact yes (rS e)
         · rw [Av e]
           have hdd:isD H' ah = true:=by unfold isD; rw [ehc]
           walk_at "go"
           refine vM (k:=bU wx) (.inl ehc) hbk ?_
           rw [gO]
           cases eg:cT m wx with
           | none =>
             refine cXN (.inl eac) ?_
             walk_at "go"
             exact no (mG e eg)
           | some g =>
             have hlb:=lR (A:=A) e eg
             refine bXS (z:=one g) (.inl eac) ?_
             rw [iE hbl]
             refine lJ (fun hg => ?_) (fun hg => ?_)
             · walk_at "go"
               exact yes (hlb.trans hg)
             · walk_at "go"
               exact no (hlb.trans (Dq.mpr hg))
       · rintro D ys Hc hD ⟨sm,rs,rfl,hwt⟩ hDc _
         rw [Bo] at hwt
         have su:=yA sm
         have eu:=dO (Hs:=H7) hDc (fun o v z => nomatch z)
         have hwu:WtsAt (unf H7 Hc) rs (gA m first A (wl cws)):=hwt.keep fun r w h => dO h fun o v z => nomatch z
         refine lL ?_
         unfold aQ1
         dsimp only
         generalize unf H7 Hc = H8 at su eu hwu ⊢
         have ea8:=su _ _ ea7
         walk_at "go"
         refine wG (fun c => if decide (c ∈ A.map (·.1)) = true then some (.str (one c)) else none) (by decide) (fun i3 c Hc2 A' B' hc sm2 hA' => ?_) (fun D2 H9 hD2 s9 hr9 => ?_)
         · have r:=hA' _ (Same.refl _)
           walk_at "go"
           refine ⟨Wk.set rfl (Wk.refl _),?_⟩
           walk_at "go"
           refine bZ0 (z:=one c) (neg:=false) (.inl (sm2 _ _ ea8)) ?_
           rw [if_neg (by decide),iE hbl]
           refine lJ (fun hg => ?_) (fun hg => ?_)
           · rw [if_pos hg] at r
             walk_at "go"
             exact r
           · rw [if_neg hg] at r
             exact r
         · have ef:(Str.ofString "abcdefghijklmnopqrstuvw1234").cps.toList.filterMap (fun c => if decide (c ∈ A.map (·.1)) = true then some (V.str (one c)) else none) = ((flagsT.cps.toList.filter fun c => decide (c ∈ A.map (·.1))).map one).map V.str:=by
             rw [show (Str.ofString "abcdefghijklmnopqrstuvw1234") = flagsT from rfl]
             generalize flagsT.cps.toList = L
             induction L with
             | nil => rfl
             | cons c r ih =>
               rw [De,Ej]
               by_cases hg:decide (c ∈ A.map (·.1)) = true
               · rw [if_pos hg,if_pos hg,Aw,Aw,← ih]
               · rw [if_neg hg,if_neg hg,← ih]
           rw [ef] at hr9
           have eD9:=s9 _ _ eu
           walk_at "go"
           refine ⟨by show 2 ≤ sizeLine; decide,fun ea hea => ⟨ea,D,D2,_,_,rfl,aB,aH (aD hea _) (aM eD9),aH (aD hea _) (aM hr9),fun dx l1 l2 H' frx hdx nde e1 e2 e3 e4 hl1 hl2 => ⟨rfl,some dx,e1,?_⟩⟩⟩
           have n1:l1 ≠ ea:=fun z => by rw [z,e1] at e3; cases e3
           have n2:l2 ≠ ea:=fun z => by rw [z,e1] at e4; cases e4
           have go9:∀ b u,H9 b = some u → (del H' ea) b = some u:=fun b u hu => by
             have nb:b ≠ ea:=fun z => by rw [z,hea] at hu; cases hu
             rw [eZ nb]
             exact frx b u nb (by rw [aJ nb]; exact hu)
           have hto:∀ b u,H b = some u → H9 b = some u:=fun b u hu => by
             refine s9 _ _ (su _ _ (fr7 b u (fun z => by rw [z,hac] at hu; cases hu) (fun z => ?_) (fun z => ?_) (s1 _ _ hu)))
             · have:=s1 _ _ hu
               rw [z,hal] at this
               cases this
             · have:=s1 _ _ hu
               rw [z,hah1] at this
               cases this
           refine qe dx l1 l2 rs _ _ (del H' ea) (fun b u hu => go9 _ _ (hto b u hu)) ((eZ nde).trans e2) ((eZ n1).trans e3) (hwu.keep fun r w h => go9 _ _ (s9 _ _ h)) ((eZ n2).trans e4) ?_ ?_ (none_of hto (by rw [aJ n1] at hl1; exact hl1)) (none_of hto (by rw [aJ n2] at hl2; exact hl2))
           · rw [hn0]
             refine bQV (l:=(wl cws).take i) (r:=(wl cws).drop (i + 1)) (fl:=fl) ?_ hk hL hmo hfw hask hct (fun c hc => ?_)
             · have e:=List.take_append_drop (i + 1) (wl cws)
               rw [htk,List.append_assoc] at e
               exact e.symm
             · have:=List.filter_eq_nil_iff.mp hfr c hc
               rw [Bh] at this
               exact this
           · rw [hn0]
             refine ⟨i,m,first,hSt,ew,by rw [← hfre,hfr],?_,?_⟩
             · rw [← hAf]
             · rw [← hAf]
     | cons f0 fr0 =>
       rw [hfr] at eu
       rw [show (List.map V.str (List.map one (f0 :: fr0))).isEmpty = false from rfl]
       have hf0m:f0 ∈ (A.map (·.1)).filter (fun c => decide (0 < aL fl c)):=by rw [hfr]; exact Aq
       rw [Cs,Bh] at hf0m
       obtain ⟨hf0A,hf0p⟩:=hf0m
       obtain ⟨n1,hn1⟩:∃ n1,fl f0 = some n1:=by
         cases e:fl f0 with
         | none => rw [show aL fl f0 = 0 by unfold aL; rw [e]; rfl] at hf0p; omega
         | some n => exact ⟨n,rfl⟩
       have hcn1:aL fl f0 = n1:=by unfold aL; rw [hn1]; rfl
       have el7:=s67 _ _ el6
       have ea7:=s67 _ _ ea6
       have eh7:=s67 _ _ eh6
       have ec7:=s67 _ _ ec6
       have eD7:=s67 _ _ eu
       have wb7:WtsAt H7 bs (A.map (·.2)):=wb6.keep fun r w h => s67 _ _ h
       have hdl7:=jZ el7
       have at0:atI (List.map V.str (List.map one (f0 :: fr0))) 0 = some (V.str (one f0)):=fQ (show (List.map V.str (List.map one (f0 :: fr0)))[0]? = some (V.str (one f0)) from rfl)
       walk_at "go"
       refine dR (aM eD7) (v:=.str (one f0)) at0 ?_
       walk_at "go"
       refine pV (z:=one f0) (.inl el7) (by rw [lkl.val f0,hn1]; rfl) ?_
       walk_at "go"
       refine dR (aM eD7) (v:=.str (one f0)) at0 ?_
       walk_at "go"
       refine fP (z:=one f0) el7 (aT (by omega)) ?_
       have nDl:D ≠ al:=fun z => by rw [z] at hD4; rw [hD4] at el4; cases el4
       have npl:pa ≠ al:=fun z => by rw [z] at hpa; rw [hpa] at el4; cases el4
       have nhl:ah ≠ al:=Ne.symm nlh
       have ncl:ac ≠ al:=Ne.symm nla
       have el8:(upd H7 al (.dK (cY kl2 (Sum.inr (one f0)) (V.int (n1 - 1))))) al = _:=aB
       have ea8:(upd H7 al (.dK (cY kl2 (Sum.inr (one f0)) (V.int (n1 - 1))))) pa = _:=(aJ npl).trans ea7
       have eh8:(upd H7 al (.dK (cY kl2 (Sum.inr (one f0)) (V.int (n1 - 1))))) ah = _:=(aJ nhl).trans eh7
       have ec8:(upd H7 al (.dK (cY kl2 (Sum.inr (one f0)) (V.int (n1 - 1))))) ac = _:=(aJ ncl).trans ec7
       have eD8:(upd H7 al (.dK (cY kl2 (Sum.inr (one f0)) (V.int (n1 - 1))))) D = _:=(aJ nDl).trans eD7
       have wb8:WtsAt (upd H7 al (.dK (cY kl2 (Sum.inr (one f0)) (V.int (n1 - 1))))) bs (A.map (·.2)):=wb7.keep fun r w h => by
         rw [aJ (fun z => by rw [z,el7] at h; cases h)]
         exact h
       have fr8:∀ p u,p ≠ ac → p ≠ al → p ≠ ah → H1 p = some u → (upd H7 al (.dK (cY kl2 (Sum.inr (one f0)) (V.int (n1 - 1))))) p = some u:=fun p u h1 h2 h3 hu => by
         rw [aJ h2]
         exact s67 _ _ (fr6 p u h1 h2 h3 hu)
       generalize upd H7 al (.dK (cY kl2 (Sum.inr (one f0)) (V.int (n1 - 1)))) = H8 at el8 ea8 eh8 ec8 eD8 wb8 fr8 ⊢
       walk_at "go"
       refine dR (aM eD8) (v:=.str (one f0)) at0 ?_
       walk_at "go"
       refine ⟨pa,ah,cws,m,first,A,bs,f0,rfl,ea8,wb8,hask.toAsking,eh8,hmo.nd,hfn,hmc,hf0A,hml,fun m' H9 fr9 eh9 hk9 hc9 hct9 hR9 => ?_⟩
       walk_at "go"
       refine ⟨m',_,_,_,_,_,_,rfl,fun p u h1 h2 h3 hu => fr9 p u h3 (fr8 p u h1 h2 h3 hu),fr9 _ _ (Ne.symm nac) ec8,eh9,fr9 _ _ nlh el8,lkl.put f0 (n1 - 1),?_,?_,hc9,fun c => ?_,.succ (c:=f0) hSt ew (by rw [← hAf]; exact hask.nd) (by rw [← hfre,hfr]; rfl) (by rw [← hAf]; exact hR9)⟩
       · have hv:bJ kl2 (Sum.inr (one f0)) ≠ none:=by rw [lkl.val f0,hn1]; exact fun z => nomatch z
         have e:=Cp List.length (sA kl2 (Sum.inr (one f0)) (.int (n1 - 1)) hv)
         rw [Ab,Ab] at e
         omega
       · rw [hk9,hk,htk]
       · have h1:=hct c
         have h2:=hct9 c
         have h3:aL (fun d => if d = f0 then some (n1 - 1) else fl d) c = if c = f0 then n1 - 1 else aL fl c:=by
           show ((if c = f0 then some (n1 - 1) else fl c):Option Int).getD 0 = _
           by_cases z:c = f0
           · rw [if_pos z,if_pos z]; rfl
           · rw [if_neg z,if_neg z]; rfl
         rw [h3]
         by_cases z:c = f0
         · subst z
           rw [if_pos rfl] at h2 ⊢
           omega
         · rw [if_neg z] at h2 ⊢
           omega
 · rintro σ H4 ⟨m,kl2,fl,v5,v6,v7,v8,rfl,fr,ec,eh,el4,lkl,l27,hk,hmc,hct,hSt⟩
   rw [kl,Bo] at hk
   rw [kl] at hSt
   have ec5:=qV (Hs:=H3) ec (fun o v z => by rw [ed3] at z; cases z)
   have eh5:=dO (Hs:=H3) eh (fun o v z => nomatch z)
   have sh5:Same H (unf H3 H4):=fun b u hu => by
     have h1:=s1 _ _ hu
     have h4:=fr b u (fun z => by rw [z,hac] at hu; cases hu) (fun z => by rw [z,hal] at h1; cases h1) (fun z => by rw [z,hah1] at h1; cases h1) h1
     by_cases hf:∃ o v,u = .frz o v
     · obtain ⟨o',v',rfl⟩:=hf
       exact jN h4 (s13 _ _ h1)
     · exact dO h4 fun o v z => hf ⟨o,v,z⟩
   unfold aQ1
   dsimp only
   generalize unf H3 H4 = H5 at ec5 eh5 sh5 ⊢
   have hml:m.length = (wl cws).length:=by rw [← hk,Ab]
   have hnd:(m.map (·.1)).Nodup:=by rw [hk]; exact jA cws cws.length
   walk_at "go"
   refine qL ec5 fun o2 => ?_
   have fz2:(upd H5 ac (.frz o2 (.dT (dC (wl cws) ds)))) ac = _:=aB
   have eh6:(upd H5 ac (.frz o2 (.dT (dC (wl cws) ds)))) ah = _:=(aJ nac).trans eh5
   refine eS (n:=(wl cws).length) (fun D i ys Hc => Same (upd H5 ac (.frz o2 (.dT (dC (wl cws) ds)))) Hc ∧ ys = (((m.take i).map (·.2)).map one).map V.str) (aT (by omega)) (fun D hD => ⟨aD hD _,rfl⟩) (fun D i ys Hc _ r h => ⟨r.1 _ _ fz2,by rw [kl]; exact h⟩) (fun D ys Hc _ r => ⟨r.1 _ _ fz2,kl⟩) ?_ ?_
   · rintro D i2 ys Hc x H' A' B' hD hi2 ⟨sm,rfl⟩ hDc ⟨rfl,kv,bk,hkv,rfl,hbk⟩ hA' hB'
     have ew2:(wl cws)[i2]? = some (wl cws)[i2]:=Aa hi2
     have ekv:kv = (bU (wl cws)[i2],V.ref (ds[i2]'(by omega))):=by
       unfold dC at hkv
       rw [Et,ew2,Aa (show i2 < ds.length by omega)] at hkv
       exact (Bi hkv).symm
     rw [ekv] at hbk
     have em:m[i2]? = some m[i2]:=Aa (by omega)
     have e1:m[i2].1 = (wl cws)[i2]:=by
       have e0:(m.map (·.1))[i2]? = some (wl cws)[i2]:=by rw [hk]; exact ew2
       rw [Ag,em] at e0
       exact Bi e0
     have tk:m.take (i2 + 1) = m.take i2 ++ [m[i2]]:=by rw [Bb,em]; rfl
     rw [tk] at hA'
     replace hbk:H' bk = some (.tup ((bU m[i2].1).map kV)):=by rw [e1]; exact hbk
     have hval:bJ (eU m) (bU m[i2].1) = some (.str (one m[i2].2)):=by
       have hm2:(m[i2].1,m[i2].2) ∈ m:=Ak em
       rw [gO,jO hnd hm2]
       rfl
     clear ekv hkv ew2 tk e1 em
     generalize m[i2] = mx at hbk hA' hval
     have ehc:=sm _ _ eh6
     walk_at "go"
     refine ⟨Wk.set rfl (Wk.refl _),?_⟩
     walk_at "go"
     refine uR (k:=bU mx.1) (.inl ehc) hbk hval ?_
     refine hA' _ _ hDc ⟨bA hD sm,?_⟩
     rw [Aj,Aj,Aj]
     rfl
   · rintro D ys Hc hD ⟨sm,rfl⟩ hDc _
     rw [← hml,Bo] at hDc
     have su:=lX ec5 (fun o v z => nomatch z) sm
     have eu:=dO (Hs:=H5) hDc (fun o v z => nomatch z)
     generalize unf H5 Hc = H6 at su eu ⊢
     have s06:=sh5.trans su
     refine ⟨b,D,cws,m.map (·.2),rfl,aH s06 hb,aM eu,h8,h7,fun r ps H7 hr s7 er hne hls => ?_⟩
     refine q r ps (m.map (·.2)) H7 (none_of s06 hr) (s06.trans s7) er hne (hls.older s06) (by rw [Ab,hml]) (fun j w g hw hg => ?_) (fun c => ?_) (by rw [hn0]; exact ⟨m,hSt,rfl⟩)
     · rw [← hk,Ag] at hw
       rw [Ag] at hg
       cases em:m[j]? with
       | none => rw [em] at hw; cases hw
       | some x =>
         rw [em] at hw hg
         cases hw
         cases hg
         exact hmc x.1 x.2 (Ak em)
     · rw [hn0]
       have h1:=hct c
       have h2:ctn (m.map (·.2)) c = ctm m c:=by
         unfold ctn ctm
         rw [List.countP_map]
         rfl
       rw [h2]
       omega
def nG (n:Nat → Int) (cws:List (List Nat)):Prop:=∃ fs:List Nat,fs.length = (wl cws).length ∧ (∀ (j:Nat) w g,(wl cws)[j]? = some w → fs[j]? = some g → g ∈ chW cws w) ∧ ∀ c,(ctn fs c:Int) ≤ n c
theorem vN (x:Nat):∀ {F:List Nat},F.Nodup → (F.map fun c => if x = c then 1 else 0).sum = if x ∈ F then 1 else 0
 | [],_ => rfl
 | c :: r,h => by
   have n1:=Bq.mp h
   rw [Aw,Cy,vN x n1.2]
   by_cases e:x = c
   · subst e
     rw [if_pos rfl,if_neg n1.1,if_pos Aq]
   · rw [if_neg e]
     by_cases m:x ∈ r
     · rw [if_pos m,if_pos (Al _ m)]
     · rw [if_neg m,if_neg fun z => (Bg.mp z).elim e m]
theorem vY (g h:Nat → Nat):∀ F:List Nat,(F.map fun c => g c + h c).sum = (F.map g).sum + (F.map h).sum
 | [] => rfl
 | c :: r => by
   rw [Aw,Cy,vY g h r,Aw,Cy,Aw,Cy]
   omega
theorem wB {F:List Nat} (nd:F.Nodup):∀ fs:List Nat,(F.map (ctn fs)).sum = fs.countP fun x => decide (x ∈ F)
 | [] => by
   have:∀ F:List Nat,(F.map (ctn [])).sum = 0:=fun F => by
     induction F with
     | nil => rfl
     | cons c r ih => rw [Aw,Cy,ih]; rfl
   rw [this]
   rfl
 | x :: r => by
   have e:ctn (x :: r) = fun c => ctn r c + if x = c then 1 else 0:=by
     funext c
     unfold ctn
     rw [Cw]
     by_cases h:x = c
     · rw [if_pos h,if_pos (Ap h)]
     · rw [if_neg h,if_neg (by rw [Bh]; exact h)]
   rw [e,vY,wB nd r,vN x nd,Cw]
   by_cases h:x ∈ F
   · rw [if_pos h,if_pos (Ap h)]
   · rw [if_neg h,if_neg (by rw [Bh]; exact h)]
theorem nK {α β:Type} {p:α → Bool} {q:β → Bool}:∀ (L:List α) (M:List β),L.length = M.length → (∀ (j:Nat) a b,L[j]? = some a → M[j]? = some b → p a = true → q b = true) → L.countP p ≤ M.countP q
 | [],_,_,_ => By _
 | a :: L,[],h,_ => by cases h
 | a :: L,b :: M,h,hpq => by
   rw [Cw,Cw]
   have ih:=nK L M (by simpa using h) fun j x y hx hy => hpq (j + 1) x y hx hy
   have h0:=hpq 0 a b rfl rfl
   by_cases pa:p a = true
   · rw [if_pos pa,if_pos (h0 pa)]; omega
   · rw [if_neg pa]; omega
theorem rH {g h:Nat → Int} (e:∀ c,g c ≤ h c):∀ F:List Nat,(F.map g).sum ≤ (F.map h).sum
 | [] => Gu _
 | c :: r => by
   rw [Aw,Cy,Aw,Cy]
   have:=rH e r
   have:=e c
   omega
theorem xV {W L:List Wt} (s:W.Sublist L):W.length ≤ L.countP fun w => decide (w ∈ W):=by
 have h:=s.countP_le (p:=fun w => decide (w ∈ W))
 have e:W.countP (fun w => decide (w ∈ W)) = W.length:=List.countP_eq_length.mpr fun w hw => Ap hw
 omega
theorem xI {cws:List (List Nat)} {n:Nat → Int} {W:List Wt} {F:List Nat} (h:LackOk cws n W F):F.Nodup:=by
 obtain ⟨p,rfl⟩:=h.flags
 exact List.Nodup.sublist List.filter_sublist (by decide)
theorem aXY {cws:List (List Nat)} {n:Nat → Int} {W:List Wt} {F:List Nat} (h:LackOk cws n W F):¬ nG n cws:=by
 rintro ⟨fs,hl,hch,hct⟩
 have h1:=xV h.sub
 have h2:((wl cws).countP fun w => decide (w ∈ W)) ≤ fs.countP fun x => decide (x ∈ F):=nK _ _ hl.symm fun j w g hw hg hp => Ap (h.all w (Cb hp) g (hch j w g hw hg))
 have h3:=wB (xI h) fs
 have h4:=rH hct F
 rw [kA (ctn fs) F] at h4
 have h5:=h.few
 omega
def iR:Sp:=fun vs H Q _ => ∃ (a b:Addr) (kvs:List (Key × V)) (f:Nat → Option Int) (cws:List (List Nat)),vs = [.ref a,.ref b] ∧ Rd H a (.dK kvs) ∧ Lk kvs f ∧ rdL H b = some ((cws.map aY).map V.str) ∧ cws.length ≤ 8 ∧ (∀ c ∈ cws,c.length ≤ 7 ∧ ∀ d ∈ c,bL d) ∧
 (nG (aL (aX (aL f))) cws → ∀ H',Same H H' → Q .non H') ∧ (∀ (t l1 l2:Addr) (rs:List Addr) (W:List Wt) (F:List Nat) (H':Hp),Same H H' → H t = none → H' t = some (.tup [.ref l1,.ref l2]) → H' l1 = some (.lst (rs.map V.ref)) → WtsAt H' rs W → H' l2 = some (.lst ((F.map one).map V.str)) → LackOk cws (aL (aX (aL f))) W F → LackIs cws (aL (aX (aL f))) W F → H l1 = none → H l2 = none → Q (.ref t) H')
theorem sc_lack_of:FnScope ["locker", "words", "lack"] ["locker", "words"] (aG eP):=⟨rfl,rfl,rfl,by decide +kernel,rfl,by decide +kernel,by decide +kernel⟩
theorem tK {Zy Zz:Addr} {f:Addr} {fd:FuncData} (F:Fun K "lack_of" "lack_of" eP f fd) (G:Gs K mg Zy Zz) (c_hang_all:bJ0 P w K mg base 3 "hang_all" ["locker", "words"] (kT Zy)):FnOk P w K mg base CX0 4 f fd ["locker", "words"] iR:=by
 refine F.ok sc_lack_of (fun vs H Q E h => ?_) (fun cdv A outer s H vs Q E hr h => ?_)
 · obtain ⟨a,b,kvs,f,cws,rfl,_⟩:=h; rfl
 obtain ⟨a,b,kvs,f,cws,rfl,ha,lk,hb,h8,hL,q1,q2⟩:=h
 refine ⟨_,(@aF _ _ _ _ _ (cQ1 (i:=2) rfl rfl rfl sc_lack_of.nd rfl rfl rfl G.c_Lack (fun pins R => (@aK _ _ _ (cW (bQB c_hang_all (uK rfl) hr (by decide) rfl (aA (mv 0) (aA (mv 1) aE)))))) (fun pins ea => (@aK _ _ _ (aW (fR (aA (tB (K:=K) rfl (mv 2) rfl) (aA (tB (K:=K) rfl (mv 2) rfl) aE))))))) (@aK _ _ _ (aW lW))),?_⟩
 walk_at "go"
 refine ⟨a,b,kvs,f,cws,rfl,ha,lk,hb,h8,hL,fun rh ps fs H1 hrh s1 er hne hls hfl hch hct _ => ?_,fun dx l1 l2 rs W F H1 s1 ed el1 hwt el2 hlo hli hn1 hn2 => ⟨G.m_Lack,fun ea hea => ?_⟩⟩
 · walk_at "go"
   exact q1 ⟨fs,hfl,hch,hct⟩ _ s1
 · have k2:=aD hea (nT ea (.ref Zy) (some dx))
   have e2:(upd H1 ea (nT ea (.ref Zy) (some dx))) ea = _:=aB
   have ed2:=k2 _ _ ed
   generalize upd H1 ea (nT ea (.ref Zy) (some dx)) = H2 at k2 e2 ed2 ⊢
   walk_at "go"
   refine ⟨ea,Zy,dx,_,_,rfl,.inl e2,ed2,G.xx_Lack,G.xn_Lack_wants,rfl,?_⟩
   walk_at "go"
   refine ⟨ea,Zy,dx,_,_,rfl,.inl e2,ed2,G.xx_Lack,G.xn_Lack_flags,rfl,?_⟩
   walk_at "go"
   refine ⟨by show 2 ≤ sizeLine; decide,fun t ht => ?_⟩
   have s3:=k2.trans (aD ht (.tup [.ref l1,.ref l2]))
   exact q2 t l1 l2 rs W F _ (s1.trans s3) (none_of (s1.trans k2) ht) aB (s3 _ _ el1) ⟨hwt.1,fun j p w hp hw => s3 _ _ (hwt.2 j p w hp hw)⟩ (s3 _ _ el2) hlo hli hn1 hn2
def lB:Sp:=fun vs H Q _ => ∃ (a b:Addr) (kvs:List (Key × V)) (f:Nat → Option Int) (cws:List (List Nat)),vs = [.ref a,.ref b] ∧ Rd H a (.dK kvs) ∧ Lk kvs f ∧ rdL H b = some ((cws.map aY).map V.str) ∧ cws.length ≤ 8 ∧ (∀ c ∈ cws,c.length ≤ 7 ∧ ∀ d ∈ c,bL d) ∧
 (nG (aL (aX (aL f))) cws → ∀ H',Same H H' → Q (.bl true) H') ∧ (¬ nG (aL (aX (aL f))) cws → ∀ H',Same H H' → Q (.bl false) H')
theorem rJ:FnScope ["locker", "words"] ["locker", "words"] (aG dX):=⟨rfl,rfl,rfl,by decide +kernel,rfl,by decide +kernel,by decide +kernel⟩
theorem sJ {Zy Zz:Addr} {f:Addr} {fd:FuncData} (F:Fun K "can_hang" "can_hang" dX f fd) (G:Gs K mg Zy Zz) (c_lack_of:Cal P w K mg base 4 "lack_of" ["locker", "words"] iR):FnOk P w K mg base CX0 5 f fd ["locker", "words"] lB:=by
 refine F.ok rJ (fun vs H Q E h => ?_) (fun cdv A outer s H vs Q E hr h => ?_)
 · obtain ⟨a,b,kvs,f,cws,rfl,_⟩:=h; rfl
 obtain ⟨a,b,kvs,f,cws,rfl,ha,lk,hb,h8,hL,q1,q2⟩:=h
 refine ⟨_,(@aK _ _ _ (aW (qS bZT (bB c_lack_of hr (by decide) rfl (aA (mv 0) (aA (mv 1) aE))) lW (bS _)))),?_⟩
 walk_at "go"
 refine ⟨a,b,kvs,f,cws,rfl,ha,lk,hb,h8,hL,fun hc H1 s1 => ?_,fun t l1 l2 rs W F H1 s1 _ _ _ _ _ hlo _ _ _ => ?_⟩
 · walk_at "go"
   exact q1 hc _ s1
 · walk_at "go"
   rw [show decide (V.ref t = V.non) = false from Av (fun z => nomatch z)]
   exact q2 (aXY hlo) _ s1
def sel (cws:List (List Nat)) (ks:List Nat):List (List Nat):=ks.map fun k => cws.getD k []
theorem wY {ks:List Nat} {j:Nat} {x:V} (h:(ks.map fun k => V.int ((k:Nat):Int))[j]? = some x):∃ k,ks[j]? = some k ∧ x = .int ((k:Nat):Int):=by
 rw [Ag] at h
 cases e:ks[j]? with
 | none => rw [e] at h; cases h
 | some k => rw [e] at h; cases h; exact ⟨k,rfl,rfl⟩
theorem kW {cws:List (List Nat)} (hL:∀ c ∈ cws,c.length ≤ 7 ∧ ∀ d ∈ c,bL d) {ks:List Nat} (hk:∀ k ∈ ks,k < cws.length):∀ c ∈ sel cws ks,c.length ≤ 7 ∧ ∀ d ∈ c,bL d:=fun c hc => by
 obtain ⟨k,hm,rfl⟩:=Ba.mp hc
 have hk':=hk k hm
 rw [Af,Aa hk']
 exact hL _ (Bx hk')
theorem mK {cws:List (List Nat)} {k:Nat} (hk:k < cws.length):atI ((cws.map aY).map V.str) ((k:Nat):Int) = some (.str (aY (cws.getD k []))):=by
 obtain ⟨v,h1,h2⟩:=uA (xs:=(cws.map aY).map V.str) (i:=((k:Nat):Int)) (by omega) (by rw [Ab,Ab]; omega)
 rw [Dc,Ag,Ag,Aa hk] at h2
 rw [h1,← h2,Af,Aa hk]
 rfl
theorem aXN (cws:List (List Nat)) (ks:List Nat):(List.range ks.length).filterMap (fun j => (ks[j]?).map fun k => V.str (aY (cws.getD k []))) = ((sel cws ks).map aY).map V.str:=by
 have h:∀ n,n ≤ ks.length → (List.range n).filterMap (fun j => (ks[j]?).map fun k => V.str (aY (cws.getD k []))) = (ks.take n).map fun k => V.str (aY (cws.getD k [])):=fun n => by
   induction n with
   | zero => intro _; rfl
   | succ n ih =>
     intro hn
     have e:ks[n]? = some ks[n]:=Aa (by omega)
     rw [fA (y:=V.str (aY (cws.getD ks[n] []))) (by rw [e]; rfl),ih (by omega),Bb,e,Aj]
     rfl
 have r:=h ks.length (Ai _)
 rw [Bo] at r
 rw [r]
 unfold sel
 rw [Ce,Ce]
 rfl
def gX:Sp:=fun vs H Q _ => ∃ (b c:Addr) (cws:List (List Nat)) (ks:List Nat),vs = [.ref b,.ref c] ∧ rdL H b = some ((cws.map aY).map V.str) ∧ rdL H c = some (ks.map fun k => V.int ((k:Nat):Int)) ∧ ks.length ≤ 100 ∧ (∀ k ∈ ks,k < cws.length) ∧
 ∀ (r:Addr) (H':Hp),H r = none → Same H H' → H' r = some (.lst (((sel cws ks).map aY).map V.str)) → Q (.ref r) H'
theorem sW:FnScope ["words", "numbers"] ["words", "numbers"] (aG dE):=⟨rfl,rfl,rfl,by decide +kernel,rfl,by decide +kernel,by decide +kernel⟩
theorem sN {Zy Zz:Addr} {f:Addr} {fd:FuncData} (F:Fun K "words_at" "words_at" dE f fd) (G:Gs K mg Zy Zz)  : FnOk P w K mg base CX0 1 f fd ["words", "numbers"] gX:=by
 refine F.ok sW (fun vs H Q E h => ?_) (fun cdv A outer s H vs Q E hr h => ?_)
 · obtain ⟨b,c,cws,ks,rfl,_⟩:=h; rfl
 obtain ⟨b,c,cws,ks,rfl,hb,hc,hl,hk,q⟩:=h
 refine ⟨_,(@aK _ _ _ (aW (dN rfl (bV (mv 1)) (eO (N:=["number", "words"]) ["words", "numbers"] (aG dE) [none,some 0] rfl rfl rfl (fun x h => bM h) (by decide +kernel)) (by decide +kernel) rfl (by decide +kernel) (fun C s₀ H₀ ex => (aP (i:=0) (show List.Nodup (["number", "words"]:List Str) by decide +kernel) rfl (Or.inl rfl))) (fun C s₀ H₀ ex => fD) (fun C s₀ H₀ ex => (bC cA (mv 1) (mv 0) (fun _ _ => rfl)))))),?_⟩
 have hkl:(ks.map fun k => V.int ((k:Nat):Int)).length = ks.length:=Ab ..
 walk_at "go"
 refine lY (fun j => (ks[j]?).map fun k => V.str (aY (cws.getD k []))) hc (aT (by omega)) (fun i x Hc A B hx sm hA hB => ?_) (fun D Hd hD sd hr => ?_)
 · obtain ⟨k,ek,rfl⟩:=wY hx
   have r:=hA (.str (aY (cws.getD k []))) (by rw [ek]; rfl)
   walk_at "go"
   refine ⟨Wk.set rfl (Wk.refl _),?_⟩
   walk_at "go"
   refine dR (aH sm hb) (mK (hk k (Ak ek))) ?_
   exact r _ (Same.refl _)
 · rw [hkl,aXN] at hr
   exact q D Hd hD sd hr
def bD:List Nat → Nat → List (List Nat)
 | _,0 => [[]]
 | ks,m + 1 => (List.range ks.length).flatMap fun j => (bD (ks.drop (j + 1)) m).map fun l => ks.getD j 0 :: l
theorem fW (ks:List Nat):bD ks 0 = [[]]:=by cases ks <;> rfl
theorem iV (ks:List Nat) (m:Nat):bD ks (m + 1) = (List.range ks.length).flatMap fun j => (bD (ks.drop (j + 1)) m).map fun l => ks.getD j 0 :: l:=by rw [bD]
theorem rY {x:Nat} {l:List Nat}:∀ {ks:List Nat},(x :: l).Sublist ks → ∃ j,j < ks.length ∧ ks.getD j 0 = x ∧ l.Sublist (ks.drop (j + 1))
 | [],h => by cases h
 | k :: ks,h => by
   rcases List.sublist_cons_iff.mp h with e | ⟨r,e,hr⟩
   · obtain ⟨j,h1,h2,h3⟩:=rY e
     exact ⟨j + 1,Nat.succ_lt_succ h1,h2,h3⟩
   · cases e
     exact ⟨0,Nat.succ_pos _,rfl,hr⟩
theorem mem_combs:∀ {m:Nat} {ks l:List Nat},l ∈ bD ks m ↔ l.Sublist ks ∧ l.length = m
 | 0,ks,l => by
   rw [fW,As]
   constructor
   · rintro rfl
     exact ⟨List.nil_sublist _,rfl⟩
   · exact fun h => List.eq_nil_of_length_eq_zero h.2
 | m + 1,ks,l => by
   rw [iV,Gp]
   constructor
   · rintro ⟨j,hj,hl⟩
     rw [Bz] at hj
     obtain ⟨l',h1,rfl⟩:=Ba.mp hl
     obtain ⟨h2,h3⟩:=mem_combs.mp h1
     refine ⟨?_,by rw [Bn,h3]⟩
     have e:ks.getD j 0 :: ks.drop (j + 1) = ks.drop j:=by
       rw [Af,Aa hj]
       exact (Dh hj).symm
     have h4:(ks.getD j 0 :: l').Sublist (ks.getD j 0 :: ks.drop (j + 1)):=h2.cons_cons _
     rw [e] at h4
     exact h4.trans (List.drop_sublist _ _)
   · rintro ⟨h1,h2⟩
     cases l with
     | nil => cases h2
     | cons x l =>
       obtain ⟨j,h3,h4,h5⟩:=rY h1
       exact ⟨j,List.mem_range.mpr h3,List.mem_map.mpr ⟨l,mem_combs.mpr ⟨h5,by simpa using h2⟩,by rw [h4]⟩⟩
theorem kH {α β:Type} (f:α → List β) (b:Nat):∀ (L:List α),(∀ x ∈ L,(f x).length ≤ b) → (L.flatMap f).length ≤ L.length * b
 | [],_ => By _
 | x :: r,h => by
   rw [Dr,Am,Bn,Nat.succ_mul]
   have h1:=kH f b r fun y hy => h y (Al _ hy)
   have h2:=h x Aq
   omega
theorem fH:∀ {m:Nat} {ks:List Nat},ks.length ≤ 6 → (bD ks m).length ≤ 6 ^ m
 | 0,ks,_ => by rw [fW]; decide
 | m + 1,ks,h => by
   rw [iV]
   refine Ax (kH _ (6 ^ m) _ fun j _ => ?_) ?_
   · rw [Ab]
     exact fH (by rw [Cf]; omega)
   · rw [Bj,Nat.pow_succ,Nat.mul_comm]
     exact Nat.mul_le_mul_left _ h
theorem aJP (ks:List Nat) (j:Nat):(ks.map fun k => V.int ((k:Nat):Int)).drop j = ((ks.drop j).map fun k => V.int ((k:Nat):Int)):=(List.map_drop ..).symm
theorem xU {xs:List V} {k:Nat}:gR xs (some ((k:Nat):Int)) none = xs.drop k:=by
 unfold gR
 show (xs.drop (if ((k:Nat):Int) < 0 then (((k:Nat):Int) + (xs.length:Int)).toNat else min ((k:Nat):Int).toNat xs.length)).take (xs.length - (if ((k:Nat):Int) < 0 then (((k:Nat):Int) + (xs.length:Int)).toNat else min ((k:Nat):Int).toNat xs.length)) = _
 rw [if_neg (by omega),Dc]
 by_cases h:k ≤ xs.length
 · rw [Nat.min_eq_left h,Dw (by rw [Cf]; omega)]
 · rw [Gm (by omega),List.drop_length,List.take_nil,Gf (by omega)]
def kI (ks:List Nat) (m i:Nat):List (List Nat):=(List.range i).flatMap fun j => (bD (ks.drop (j + 1)) m).map fun l => ks.getD j 0 :: l
theorem sB (ks:List Nat) (m i:Nat):kI ks m (i + 1) = kI ks m i ++ (bD (ks.drop (i + 1)) m).map fun l => ks.getD i 0 :: l:=by
 unfold kI
 rw [Ck,Fi,Dr,List.flatMap_nil,Bw]
theorem cQJ {m:Nat} (h:m ≤ 7):6 ^ m ≤ 279936:=Ax (Nat.pow_le_pow_right (by decide) h) (by decide)
theorem vB {ks:List Nat} {m i:Nat} (h:ks.length ≤ 6):(kI ks m i).length ≤ i * 6 ^ m:=by
 have:=kH (fun j => (bD (ks.drop (j + 1)) m).map fun l => ks.getD j 0 :: l) (6 ^ m) (List.range i) fun j _ => by
   rw [Ab]
   exact fH (by rw [Cf]; omega)
 rwa [Bj] at this
theorem cZ {ps:List Addr} {j:Nat} {x:V} (h:(ps.map V.ref)[j]? = some x):∃ p,ps[j]? = some p ∧ x = .ref p:=by
 rw [Ag] at h
 cases e:ps[j]? with
 | none => rw [e] at h; cases h
 | some p => rw [e] at h; cases h; exact ⟨p,rfl,rfl⟩
theorem uW (k:Nat) (L:List (List Nat)):(List.range L.length).map (fun j => V.int ((k:Nat):Int) :: ((L.getD j []).map fun k => V.int ((k:Nat):Int))) = (L.map fun l => k :: l).map fun l => (l.map fun k => V.int ((k:Nat):Int)):=by
 rw [Ce]
 have h:∀ n,n ≤ L.length → (List.range n).map (fun j => V.int ((k:Nat):Int) :: ((L.getD j []).map fun k => V.int ((k:Nat):Int))) = (L.take n).map ((fun l => (l.map fun k => V.int ((k:Nat):Int))) ∘ fun l => k :: l):=fun n => by
   induction n with
   | zero => intro _; rfl
   | succ n ih =>
     intro hn
     have e:L[n]? = some L[n]:=Aa (by omega)
     rw [Ck,Aj,ih (by omega),Bb,e,Aj]
     refine Cp _ ?_
     show [V.int ((k:Nat):Int) :: ((L.getD n []).map fun k => V.int ((k:Nat):Int))] = [((k :: L[n]).map fun k => V.int ((k:Nat):Int))]
     rw [Af,e]
     rfl
 have r:=h L.length (Ai _)
 rwa [Bo] at r
def bR (n:Nat):Sp:=fun vs H Q _ => ∃ (b:Addr) (ks:List Nat) (m:Nat),vs = [.ref b,.int ((m:Nat):Int)] ∧ rdL H b = some (ks.map fun k => V.int ((k:Nat):Int)) ∧ ks.length ≤ 6 ∧ m < n ∧ m ≤ 7 ∧
 ∀ (r:Addr) (ps:List Addr) (H':Hp),H r = none → Same H H' → H' r = some (.lst (ps.map V.ref)) → Lsts H H' ps ((bD ks m).map fun l => (l.map fun k => V.int ((k:Nat):Int))) → (∀ p ∈ ps,p ≠ r) → Q (.ref r) H'
theorem kJ:∀ vs H Q E,¬ bR 0 vs H Q E:=fun vs H Q E ⟨_,_,_,_,_,_,h,_⟩ => Fp _ h
theorem sc_rising_lists:FnScope ["numbers", "many", "lists", "at", "number", "behind"] ["numbers", "many"] (aG bY):=⟨rfl,rfl,rfl,by decide +kernel,rfl,by decide +kernel,by decide +kernel⟩
theorem lG {Zy Zz:Addr} {f:Addr} {fd:FuncData} {d n:Nat} (F:Fun K "rising_lists" "rising_lists" bY f fd) (G:Gs K mg Zy Zz) (c_rising_lists:Cal P w K mg base (d + 1) "rising_lists" ["numbers", "many"] (bR n)):FnOk P w K mg base CX0 (d + 2) f fd ["numbers", "many"] (bR (n + 1)):=by
 refine F.ok sc_rising_lists (fun vs H Q E h => ?_) (fun cdv A outer s H vs Q E hr h => ?_)
 · obtain ⟨b,ks,m,rfl,_⟩:=h; rfl
 obtain ⟨b,ks,m,rfl,hb,h6,hmn,h7,q⟩:=h
 refine ⟨_,(@aF _ _ _ _ _ (dM (bH aQC (mv 1) aI (bS _)) (@aK _ _ _ (aW (cJ (aA (cJ aE) aE)))) bQ) (@aF _ _ _ _ _ (@aQ _ _ 2 _ _ _ _ sc_rising_lists.nd (by rfl) (by exact (Or.inl rfl)) (cJ aE) (by rfl) (by first | exact Or.inl rfl | exact Or.inr rfl)) (@aF _ _ _ _ _ (bZ Bc rfl (wA rfl G.b_enumerate (aA (mv 0) aE)) (hU (K:=K) (i:=3) (j:=4) (by rfl) (by rfl) sc_rising_lists.nd (by rfl) (by exact (Or.inl rfl)) (by exact Or.inl rfl) (by rfl) (by exact (Or.inr rfl)) (by exact Or.inl rfl)) (@aF _ _ _ _ _ (@aQ _ _ 5 _ _ _ _ sc_rising_lists.nd (by rfl) (by exact (Or.inl rfl)) (bB c_rising_lists hr (Ai _) rfl (aA (jS dQC (mv 0) (iD (aR cI (mv 3) aI)) wC) (aA (aR iL (mv 1) aI) aE))) (by rfl) (by first | exact Or.inl rfl | exact Or.inr rfl)) (@aK _ _ _ (cW (eX Bp Fm Fn aZS (mv 2) (aA (dN rfl (bV (mv 5)) (eO (N:=["rest", "number"]) ["numbers", "many", "lists", "at", "number", "behind"] (aG bY) [none,some 4] rfl rfl rfl (fun x h => bM h) (by decide +kernel)) (by decide +kernel) rfl (by decide +kernel) (fun C s₀ H₀ ex => (aP (i:=0) (show List.Nodup (["rest", "number"]:List Str) by decide +kernel) rfl (Or.inl rfl))) (fun C s₀ H₀ ex => fD) (fun C s₀ H₀ ex => (aR cI (cJ (aA (mv 1) aE)) (mv 0)))) aE)))))) (@aK _ _ _ (aW (mv 2)))))),?_⟩
 cases m with
 | zero =>
   walk_at "go"
   rw [show decide (((0:Nat):Int) = 0) = true from rfl]
   walk_at "go"
   refine ⟨by decide,fun p hp => ?_⟩
   have s1:=aD hp (.lst [])
   have e1:(upd H p (.lst [])) p = some (.lst ((([]:List Nat)).map fun k => V.int ((k:Nat):Int))):=aB
   generalize upd H p (.lst []) = H1 at s1 e1 ⊢
   walk_at "go"
   refine ⟨by show 1 ≤ sizeLine; decide,fun r hr => ?_⟩
   have s2:=aD hr (.lst [.ref p])
   have npr:p ≠ r:=fun z => by rw [z,hr] at e1; cases e1
   refine q r [p] _ (none_of s1 hr) (s1.trans s2) aB ?_ (fun z hz => by rw [As.mp hz]; exact npr)
   rw [fW]
   exact Lsts.snoc (ps:=[]) (fs:=[]) .nil hp (s2 _ _ e1)
 | succ m =>
   have h6m:=cQJ (m:=m + 1) h7
   rw [Nat.pow_succ] at h6m
   walk_at "go"
   rw [show decide (((m + 1:Nat):Int) = 0) = false from Av (by omega)]
   walk_at "go"
   refine ⟨by decide,fun p hp => ?_⟩
   have s1:=aD hp (.lst [])
   have e1:(upd H p (.lst [])) p = some (.lst (([]:List Addr).map V.ref)):=aB
   generalize upd H p (.lst []) = H1 at s1 e1 ⊢
   have hb1:=aH s1 hb
   walk_at "go"
   refine wL (xs:=(ks.map fun k => V.int ((k:Nat):Int))) (fun i σ H' => ∃ (ps:List Addr) (v3 v4 v5:Option V),σ = [some (.ref b),some (.int ((m + 1:Nat):Int)),some (.ref p),v3,v4,v5] ∧ Same H H' ∧ H' p = some (.lst (ps.map V.ref)) ∧ Lsts H H' ps ((kI ks m i).map fun l => (l.map fun k => V.int ((k:Nat):Int))) ∧ ∀ z ∈ ps,z ≠ p)
     ⟨[],_,_,_,rfl,s1,e1,.nil,fun z hz => nomatch hz⟩ (fun i σ H' _ ⟨_,_,_,_,_,e,_⟩ => aH e hb) ?_ ?_
   · rintro i x σ H2 pt hx ⟨ps,v3,v4,v5,rfl,s2,e2,ls,nd⟩ hpt
     obtain ⟨k,ek,rfl⟩:=wY hx
     have hi:i < ks.length:=(Ad.mp ek).1
     have hps:ps.length = (kI ks m i).length:=by rw [ls.1,Ab]
     have hpl:=vB (m:=m) (i:=i) h6
     have hpl2:i * 6 ^ m ≤ 5 * 6 ^ m:=Nat.mul_le_mul_right _ (by omega)
     have s3:=s2.trans (aD hpt (.tup [.int ((0 + i:Nat):Int),.int ((k:Nat):Int)]))
     have s23:=aD hpt (.tup [.int ((0 + i:Nat):Int),.int ((k:Nat):Int)])
     have et3:(upd H2 pt (.tup [.int ((0 + i:Nat):Int),.int ((k:Nat):Int)])) pt = some (.tup [.int ((0 + i:Nat):Int),.int ((k:Nat):Int)]):=aB
     generalize upd H2 pt (.tup [.int ((0 + i:Nat):Int),.int ((k:Nat):Int)]) = H3 at s3 s23 et3 ⊢
     have hb3:=aH s3 hb
     have tt3:=eE et3
     walk_at "go"
     rw [show ((0 + i:Nat):Int) + 1 = ((i + 1:Nat):Int) by omega]
     intro ra hra
     rw [xU,aJP]
     have s4:=aD hra (.lst ((ks.drop (i + 1)).map fun k => V.int ((k:Nat):Int)))
     have e4:rdL (upd H3 ra (.lst ((ks.drop (i + 1)).map fun k => V.int ((k:Nat):Int)))) ra = some ((ks.drop (i + 1)).map fun k => V.int ((k:Nat):Int)):=dA
     generalize upd H3 ra (.lst ((ks.drop (i + 1)).map fun k => V.int ((k:Nat):Int))) = H4 at s4 e4 ⊢
     have s24:=s23.trans s4
     walk_at "go"
     rw [show ((m + 1:Nat):Int) - 1 = ((m:Nat):Int) by omega]
     refine ⟨ra,ks.drop (i + 1),m,rfl,e4,by rw [Cf]; omega,by omega,by omega,fun rb qs H5 hrb s5 e5 lq nq => ?_⟩
     have s25:=s24.trans s5
     have rb5:=aM e5
     have rp5:=aM (s25 _ _ e2)
     have hqs:qs.length = (bD (ks.drop (i + 1)) m).length:=by rw [lq.1,Ab]
     have hql:(bD (ks.drop (i + 1)) m).length ≤ 6 ^ m:=fH (by rw [Cf]; omega)
     walk_at "go"
     refine wI (fun j => V.int ((k:Nat):Int) :: (((bD (ks.drop (i + 1)) m).getD j []).map fun k => V.int ((k:Nat):Int))) rb5 (by rw [Ab,hqs]; exact Dz (Ax hql (Ax (Nat.le_mul_of_pos_right _ (by decide:0 < 6)) h6m)) (by decide)) (fun j x Hc A B hx sm hA => ?_) (fun D Hd us hD sd eD hul lu nu => ?_)
     · obtain ⟨u,eu,rfl⟩:=cZ hx
       have hj:j < (bD (ks.drop (i + 1)) m).length:=by rw [← hqs]; exact (Ad.mp eu).1
       obtain ⟨l,el⟩:∃ l,(bD (ks.drop (i + 1)) m)[j]? = some l:=⟨_,Aa hj⟩
       have hu:=sm _ _ (lq.2 j u (l.map fun k => V.int ((k:Nat):Int)) eu (by rw [Ag,el]; rfl)).2
       have hll:l.length = m:=(mem_combs.mp (Ak el)).2
       have hgl:(bD (ks.drop (i + 1)) m).getD j [] = l:=by rw [Af,el]; rfl
       rw [hgl] at hA
       walk_at "go"
       refine ⟨Wk.set rfl (Wk.refl _),?_⟩
       walk_at "go"
       refine ⟨by show 1 ≤ sizeLine; decide,fun p6 hp6 => ?_⟩
       have s6:=aD hp6 (.lst [V.int ((k:Nat):Int)])
       have e6:(upd Hc p6 (.lst [V.int ((k:Nat):Int)])) p6 = some (.lst [V.int ((k:Nat):Int)]):=aB
       have hu6:=s6 _ _ hu
       generalize upd Hc p6 (.lst [V.int ((k:Nat):Int)]) = H6 at s6 e6 hu6 ⊢
       refine mN (bP e6) (bP hu6) (bX (by rw [Ab]; show 1 + _ ≤ _; omega)) fun p7 hp7 => ?_
       exact hA p7 _ (none_of s6 hp7) (s6.trans (aD hp7 _)) aB
     · rw [Ab,hqs,uW] at lu
       rw [Ab] at hul
       have s2d:=s25.trans sd
       have e2d:=s2d _ _ e2
       have npD:∀ z ∈ us,z ≠ p:=fun z hz zp => by
         obtain ⟨g,_,h1,_⟩:=lu.mem hz
         rw [zp,s25 _ _ e2] at h1
         cases h1
       have hek:ks.getD i 0 = k:=by rw [Af,ek]; rfl
       walk_at "go"
       refine bJB (bP e2d) (bP eD) (Ax (by rw [Ab,Ab,hps,hul,hqs]; omega:_ ≤ 279936) (by decide)) ?_
       walk_at "go"
       refine ⟨ps ++ us,_,_,_,rfl,bA hp (s2.trans s2d),by rw [Aj]; exact aB,?_,fun z hz => ?_⟩
       · rw [sB,Aj,hek]
         refine Lsts.put ?_ fun z hz => ?_
         · exact (ls.keep s2d).app (lu.older (s2.trans s25))
         · rcases Bk.mp hz with e | e
           · exact nd z e
           · exact npD z e
       · rcases Bk.mp hz with e | e
         · exact nd z e
         · exact npD z e
   · rintro σ H2 ⟨ps,v3,v4,v5,rfl,s2,e2,ls,nd⟩
     walk_at "go"
     refine q p ps H2 hp s2 e2 ?_ nd
     rw [iV]
     rw [Ab] at ls
     exact ls
def FirstOf (n:Nat → Int) (cws:List (List Nat)) (m:Nat) (ks:List Nat):Prop:=∃ j,(bD (List.range cws.length) m)[j]? = some ks ∧ nG n (sel cws ks) ∧ ∀ (i:Nat) l,i < j → (bD (List.range cws.length) m)[i]? = some l → ¬ nG n (sel cws l)
def gE (n:Nat → Int) (cws:List (List Nat)) (m:Nat):Prop:=∀ l ∈ bD (List.range cws.length) m,¬ nG n (sel cws l)
theorem FirstOf.mem {n:Nat → Int} {cws:List (List Nat)} {m:Nat} {ks:List Nat} (h:FirstOf n cws m ks):ks ∈ bD (List.range cws.length) m ∧ nG n (sel cws ks):=by
 obtain ⟨j,h1,h2,_⟩:=h
 exact ⟨Ak h1,h2⟩
theorem lK {cws:List (List Nat)} {m:Nat} {l:List Nat} (h:l ∈ bD (List.range cws.length) m):(∀ k ∈ l,k < cws.length) ∧ l.length = m ∧ l.length ≤ cws.length:=by
 obtain ⟨h1,h2⟩:=mem_combs.mp h
 exact ⟨fun k hk => Bz.mp (h1.subset hk),h2,by have:=h1.length_le; rwa [Bj] at this⟩
def dZ:Sp:=fun vs H Q _ => ∃ (a b:Addr) (kvs:List (Key × V)) (f:Nat → Option Int) (cws:List (List Nat)) (m:Nat),vs = [.ref a,.ref b,.int ((m:Nat):Int)] ∧ Rd H a (.dK kvs) ∧ Lk kvs f ∧ rdL H b = some ((cws.map aY).map V.str) ∧ cws.length ≤ 6 ∧ (∀ c ∈ cws,c.length ≤ 7 ∧ ∀ d ∈ c,bL d) ∧ m ≤ 7 ∧
 (gE (aL (aX (aL f))) cws m → ∀ H',Same H H' → Q .non H') ∧ (∀ (r:Addr) (ks:List Nat) (H':Hp),FirstOf (aL (aX (aL f))) cws m ks → H r = none → Same H H' → H' r = some (.lst (ks.map fun k => V.int ((k:Nat):Int))) → Q (.ref r) H')
theorem sc_first_hanging:FnScope ["locker", "words", "many", "numbers"] ["locker", "words", "many"] (aG cB):=⟨rfl,rfl,rfl,by decide +kernel,rfl,by decide +kernel,by decide +kernel⟩
theorem kD {Zy Zz:Addr} {f:Addr} {fd:FuncData} (F:Fun K "first_hanging" "first_hanging" cB f fd) (G:Gs K mg Zy Zz) (c_rising_lists:Cal P w K mg base 9 "rising_lists" ["numbers", "many"] (bR 8)) (c_can_hang:Cal P w K mg base 5 "can_hang" ["locker", "words"] lB) (c_words_at:Cal P w K mg base 1 "words_at" ["words", "numbers"] gX):FnOk P w K mg base CX0 10 f fd ["locker", "words", "many"] dZ:=by
 refine F.ok sc_first_hanging (fun vs H Q E h => ?_) (fun cdv A outer s H vs Q E hr h => ?_)
 · obtain ⟨a,b,kvs,f,cws,m,rfl,_⟩:=h; rfl
 obtain ⟨a,b,kvs,f,cws,m,rfl,ha,lk,hb,h6,hL,h7,q1,q2⟩:=h
 refine ⟨_,(@aF _ _ _ _ _ (bZ Bc rfl (bV (bB c_rising_lists hr (by decide) rfl (aA (aZ (xC rfl) rfl G.b_list cE (aA (aZ qN rfl G.b_range jQ (aA (aN eJ rfl G.b_len cH (aA (mv 1) aE)) aE)) aE)) (aA (mv 2) aE)))) (aP (i:=3) sc_first_hanging.nd rfl (Or.inl rfl)) (@aK _ _ _ (dM (cP (bB c_can_hang hr (by decide) rfl (aA (mv 0) (aA (bB c_words_at hr (by decide) rfl (aA (mv 1) (aA (mv 3) aE))) aE)))) (@aK _ _ _ (aW (mv 3))) bQ))) (@aK _ _ _ (aW lW))),?_⟩
 have hll:((cws.map aY).map V.str).length = cws.length:=by rw [Ab,Ab]
 walk_at "go"
 rw [hll]
 refine pQ fun p hp => ?_
 have s1:=aD hp (.rng 0 ((cws.length:Nat):Int))
 have e1:(upd H p (.rng 0 ((cws.length:Nat):Int))) p = some (.rng 0 ((cws.length:Nat):Int)):=aB
 generalize upd H p (.rng 0 ((cws.length:Nat):Int)) = H1 at s1 e1 ⊢
 walk_at "go"
 refine wU e1 (by omega) fun p2 hp2 => ?_
 have s2:=aD hp2 (.lst ((List.range cws.length).map fun k => V.int ((k:Nat):Int)))
 have e2:rdL (upd H1 p2 (.lst ((List.range cws.length).map fun k => V.int ((k:Nat):Int)))) p2 = some ((List.range cws.length).map fun k => V.int ((k:Nat):Int)):=dA
 generalize upd H1 p2 (.lst ((List.range cws.length).map fun k => V.int ((k:Nat):Int))) = H2 at s2 e2 ⊢
 have s02:=s1.trans s2
 walk_at "go"
 refine ⟨p2,List.range cws.length,m,rfl,e2,by rw [Bj]; exact h6,by omega,h7,fun r ps H3 hr s3 er ls nd => ?_⟩
 have s03:=s02.trans s3
 have rr:=aM er
 have hpl:ps.length = (bD (List.range cws.length) m).length:=by rw [ls.1,Ab]
 walk_at "go"
 refine eF (xs:=ps.map V.ref) (fun i σ H' => ∃ (v3:Option V),σ = [some (.ref a),some (.ref b),some (.int ((m:Nat):Int)),v3] ∧ Same H3 H' ∧ ∀ (i':Nat) l,i' < i → (bD (List.range cws.length) m)[i']? = some l → ¬ nG (aL (aX (aL f))) (sel cws l))
   ⟨_,rfl,Same.refl _,fun i' l hi => absurd hi (Fp _)⟩ (fun i σ H' _ ⟨_,_,e,_⟩ => aH e rr) ?_ ?_
 · rintro i x σ H4 hx ⟨v3,rfl,s4,hno⟩
   obtain ⟨p4,ep4,rfl⟩:=cZ hx
   have hi:i < (bD (List.range cws.length) m).length:=by rw [← hpl]; exact (Ad.mp ep4).1
   obtain ⟨l,el⟩:∃ l,(bD (List.range cws.length) m)[i]? = some l:=⟨_,Aa hi⟩
   obtain ⟨hp0,hpv⟩:=ls.2 i p4 (l.map fun k => V.int ((k:Nat):Int)) ep4 (by rw [Ag,el]; rfl)
   obtain ⟨hlt,hlm,hll2⟩:=lK (Ak el)
   have s04:=s03.trans s4
   walk_at "go"
   refine ⟨b,p4,cws,l,rfl,aH s04 hb,aM (s4 _ _ hpv),by omega,hlt,fun r5 H5 hr5 s5 e5 => ?_⟩
   have s05:=s04.trans s5
   have ha5:Rd H5 a (.dK kvs):=ha.elim (fun z => .inl (s05 _ _ z)) fun ⟨o,z⟩ => .inr ⟨o,s05 _ _ z⟩
   walk_at "go"
   refine ⟨a,r5,kvs,f,sel cws l,rfl,ha5,lk,aM e5,by unfold sel; rw [Ab]; omega,kW hL hlt,fun hc H6 s6 => ?_,fun hc H6 s6 => ?_⟩
   · walk_at "go"
     exact q2 p4 l H6 ⟨i,el,hc,hno⟩ (none_of s02 hp0) (s05.trans s6) ((s4.trans (s5.trans s6)) _ _ hpv)
   · walk_at "go"
     refine ⟨_,rfl,s4.trans (s5.trans s6),fun i' l' hi' hl' => ?_⟩
     by_cases e:i' = i
     · subst e
       rw [el] at hl'
       cases hl'
       exact hc
     · exact hno i' l' (by omega) hl'
 · rintro σ H4 ⟨v3,rfl,s4,hno⟩
   rw [Ab] at hno
   walk_at "go"
   refine q1 (fun l hl => ?_) H4 (s03.trans s4)
   obtain ⟨i,hi⟩:=List.mem_iff_getElem?.mp hl
   exact hno i l (by rw [hpl]; exact (Ad.mp hi).1) hi
def PaperAt (X:Addr → Prop) (H:Hp) (n:Nat → Int) (cws:List (List Nat)) (ks:List Nat) (t:Addr):Prop:=∃ (c l1 l2:Addr) (rs:List Addr) (W:List Wt) (F:List Nat),H t = some (.tup [.ref c,.ref l1,.ref l2]) ∧ H c = some (.lst (ks.map fun k => V.int ((k:Nat):Int))) ∧ H l1 = some (.lst (rs.map V.ref)) ∧ WtsAt H rs (W.map fun w => (ks.getD w.1 0,w.2)) ∧ H l2 = some (.lst ((F.map one).map V.str)) ∧ LackOk (sel cws ks) n W F ∧ LackIs (sel cws ks) n W F ∧ ¬ X c ∧ ¬ X l1 ∧ ¬ X l2
theorem PaperAt.keep {X:Addr → Prop} {H H':Hp} {n:Nat → Int} {cws:List (List Nat)} {ks:List Nat} {t:Addr} (h:PaperAt X H n cws ks t) (s:Same H H'):PaperAt X H' n cws ks t:=by
 obtain ⟨c,l1,l2,rs,W,F,h1,h2,h3,h4,h5,h6⟩:=h
 exact ⟨c,l1,l2,rs,W,F,s _ _ h1,s _ _ h2,s _ _ h3,⟨h4.1,fun j p w hp hw => s _ _ (h4.2 j p w hp hw)⟩,s _ _ h5,h6⟩
theorem PaperAt.put {X:Addr → Prop} {H:Hp} {n:Nat → Int} {cws:List (List Nat)} {ks:List Nat} {t D:Addr} {xs ys:List V} (h:PaperAt X H n cws ks t) (hX:X D) (hD:H D = some (.lst xs)):PaperAt X (upd H D (.lst ys)) n cws ks t:=by
 obtain ⟨c,l1,l2,rs,W,F,h1,h2,h3,h4,h5,h6,h7,h8,h9,h10⟩:=h
 have nt:t ≠ D:=fun z => by rw [z,hD] at h1; cases h1
 refine ⟨c,l1,l2,rs,W,F,(aJ nt).trans h1,(aJ fun z => h8 (by rw [z]; exact hX)).trans h2,(aJ fun z => h9 (by rw [z]; exact hX)).trans h3,⟨h4.1,fun j p w hp hw => ?_⟩,(aJ fun z => h10 (by rw [z]; exact hX)).trans h5,h6,h7,h8,h9,h10⟩
 have e:=h4.2 j p w hp hw
 rw [aJ fun z => by rw [z,hD] at e; cases e]
 exact e
theorem mF {cws:List (List Nat)} {n:Nat → Int} {W:List Wt} {F:List Nat} (h:LackOk cws n W F) {w:Wt} (hw:w ∈ W):w.1 < cws.length:=by
 have hm:w ∈ wl cws:=h.sub.subset hw
 obtain ⟨i,hi,hr⟩:=Gp.mp hm
 obtain ⟨j,_,rfl⟩:=Ba.mp hr
 exact Bz.mp hi
theorem aQD {cws:List (List Nat)} {n:Nat → Int} {W:List Wt} {F:List Nat} (h:LackOk cws n W F) (h8:cws.length ≤ 8) (h7:∀ c ∈ cws,c.length ≤ 7):W.length ≤ 56:=Ax h.sub.length_le (Ax (jH h7 _) (by omega))
def jG:Sp:=fun vs H Q _ => ∃ (a b c:Addr) (kvs:List (Key × V)) (f:Nat → Option Int) (cws:List (List Nat)) (ks:List Nat),vs = [.ref a,.ref b,.ref c] ∧ Rd H a (.dK kvs) ∧ Lk kvs f ∧ rdL H b = some ((cws.map aY).map V.str) ∧ (∀ c ∈ cws,c.length ≤ 7 ∧ ∀ d ∈ c,bL d) ∧ H c = some (.lst (ks.map fun k => V.int ((k:Nat):Int))) ∧ ks.length ≤ 8 ∧ (∀ k ∈ ks,k < cws.length) ∧ ¬ nG (aL (aX (aL f))) (sel cws ks) ∧
 ∀ (t:Addr) (H':Hp),H t = none → Same H H' → PaperAt (fun p => p ≠ c ∧ H p ≠ none) H' (aL (aX (aL f))) cws ks t → Q (.ref t) H'
theorem sc_paper_for:FnScope ["locker", "words", "numbers", "lack", "wants"] ["locker", "words", "numbers"] (aG cS):=⟨rfl,rfl,rfl,by decide +kernel,rfl,by decide +kernel,by decide +kernel⟩
theorem pX {Zy Zz:Addr} {f:Addr} {fd:FuncData} (F:Fun K "paper_for" "paper_for" cS f fd) (G:Gs K mg Zy Zz) (c_lack_of:Cal P w K mg base 4 "lack_of" ["locker", "words"] iR) (c_words_at:Cal P w K mg base 1 "words_at" ["words", "numbers"] gX):FnOk P w K mg base CX0 5 f fd ["locker", "words", "numbers"] jG:=by
 refine F.ok sc_paper_for (fun vs H Q E h => ?_) (fun cdv A outer s H vs Q E hr h => ?_)
 · obtain ⟨a,b,c,kvs,f,cws,ks,rfl,_⟩:=h; rfl
 obtain ⟨a,b,c,kvs,f,cws,ks,rfl,ha,lk,hb,hL,hc,h8,hlt,hno,q⟩:=h
 refine ⟨_,(@aF _ _ _ _ _ (@aQ _ _ 3 _ _ _ _ sc_paper_for.nd (by rfl) (by exact (Or.inl rfl)) (bB c_lack_of hr (by decide) rfl (aA (mv 0) (aA (bB c_words_at hr (by decide) rfl (aA (mv 1) (aA (mv 2) aE))) aE))) (by rfl) (by first | exact Or.inl rfl | exact Or.inr rfl)) (@aF _ _ _ _ _ (hV (i:=4) sc_paper_for.nd rfl (Or.inl rfl) rfl (bV (bC cA (mv 3) aI (fun _ _ => rfl))) (eO (N:=["want", "numbers"]) ["locker", "words", "numbers", "lack", "wants"] (aG cS) [none,some 2] rfl rfl rfl (fun x h => bM h) (by decide +kernel)) (by decide +kernel) rfl (by decide +kernel) (fun C s₀ H₀ ex => (aP (i:=0) (show List.Nodup (["want", "numbers"]:List Str) by decide +kernel) rfl (Or.inl rfl))) (fun C s₀ H₀ ex => fD) (fun C s₀ H₀ ex => (fR (aA (bC cA (mv 1) (bC cA (mv 0) aI (fun _ _ => rfl)) (fun _ _ => rfl)) (aA (bC cA (mv 0) aI (fun _ _ => rfl)) aE))))) (@aK _ _ _ (aW (fR (aA (mv 2) (aA (mv 4) (aA (bC cA (mv 3) aI (fun _ _ => rfl)) aE)))))))),?_⟩
 walk_at "go"
 refine ⟨b,c,cws,ks,rfl,hb,aM hc,by omega,hlt,fun r H1 hr s1 e1 => ?_⟩
 have ha1:Rd H1 a (.dK kvs):=ha.elim (fun z => .inl (s1 _ _ z)) fun ⟨o,z⟩ => .inr ⟨o,s1 _ _ z⟩
 have hsl:(sel cws ks).length = ks.length:=Ab ..
 have hsL:=kW hL hlt
 walk_at "go"
 refine ⟨a,r,kvs,f,sel cws ks,rfl,ha1,lk,aM e1,by omega,hsL,fun hcan => absurd hcan hno,fun t l1 l2 rs W F H2 s2 ht et el1 hwt el2 hlo hli hn1 hn2 => ?_⟩
 have s02:=s1.trans s2
 have tt2:=eE et
 have hwl:=aQD hlo (by omega) fun x hx => (hsL x hx).1
 have hrl:rs.length = W.length:=hwt.1
 walk_at "go"
 refine dQ (v:=.ref l1) et rfl ?_
 have rl1:=aM el1
 walk_at "go"
 refine aJV (fun j => [V.int (((ks.getD (W.getD j (0,0)).1 0:Nat)):Int),V.int (((W.getD j (0,0)).2:Nat):Int)]) rl1 (aT (by rw [Ab]; omega)) (fun j x Hc A B hx sm hA => ?_) (fun D Hd us hD sd eD hul tu => ?_)
 · obtain ⟨u,eu,rfl⟩:=cZ hx
   have hj:j < W.length:=by rw [← hrl]; exact (Ad.mp eu).1
   obtain ⟨w0,ew⟩:∃ w0,W[j]? = some w0:=⟨_,Aa hj⟩
   have hu:=sm _ _ (hwt.2 j u w0 eu ew)
   have hw1:w0.1 < ks.length:=by rw [← hsl]; exact mF hlo (Ak ew)
   rw [show W.getD j (0,0) = w0 by rw [Af,ew]; rfl] at hA
   have ak:atI (ks.map fun k => V.int ((k:Nat):Int)) ((w0.1:Nat):Int) = some (.int ((ks.getD w0.1 0:Nat):Int)):=by
     obtain ⟨v,h1,h2⟩:=uA (xs:=(ks.map fun k => V.int ((k:Nat):Int))) (i:=((w0.1:Nat):Int)) (by omega) (by rw [Ab]; omega)
     rw [Dc,Ag,Aa hw1] at h2
     rw [h1,← h2,Af,Aa hw1]
     rfl
   have rc:=aM (sm _ _ (s02 _ _ hc))
   walk_at "go"
   refine ⟨Wk.set rfl (Wk.refl _),?_⟩
   walk_at "go"
   refine dQ (v:=.int ((w0.1:Nat):Int)) hu rfl ?_
   walk_at "go"
   refine dR rc ak ?_
   walk_at "go"
   refine dQ (v:=.int ((w0.2:Nat):Int)) hu rfl ?_
   walk_at "go"
   refine ⟨by show 2 ≤ sizeLine; decide,fun t4 ht4 => ?_⟩
   exact hA t4 _ ht4 (aD ht4 _) aB
 · have s0d:=s02.trans sd
   walk_at "go"
   refine dQ (v:=.ref l2) (sd _ _ et) rfl ?_
   walk_at "go"
   refine ⟨by show 3 ≤ sizeLine; decide,fun t5 ht5 => ?_⟩
   have s5:=aD ht5 (.tup [.ref c,.ref D,.ref l2])
   refine q t5 _ (none_of s0d ht5) (s0d.trans s5) ⟨c,D,l2,us,W,F,aB,s5 _ _ (s0d _ _ hc),s5 _ _ eD,⟨?_,fun j p w0 hp hw => ?_⟩,s5 _ _ (sd _ _ el2),hlo,hli,fun z => z.1 rfl,fun z => z.2 (none_of s02 hD),fun z => z.2 (none_of s1 hn2)⟩
   · rw [hul,Ab,Ab,hrl]
   · rw [Ag] at hw
     cases ew:W[j]? with
     | none => rw [ew] at hw; cases hw
     | some w1 =>
       rw [ew] at hw
       cases hw
       have hj:j < W.length:=(Ad.mp ew).1
       refine s5 _ _ (tu.2 j p _ hp ?_).2
       rw [Ab,hrl,Ag,List.getElem?_range hj,Ds,show W.getD j (0,0) = w1 by rw [Af,ew]; rfl]
       rfl
def jJ:Sp:=fun vs H Q _ => ∃ (a b:Addr) (kvs:List (Key × V)) (f:Nat → Option Int) (cws:List (List Nat)),vs = [.ref a,.ref b] ∧ Rd H a (.dK kvs) ∧ Lk kvs f ∧ rdL H b = some ((cws.map aY).map V.str) ∧ cws.length ≤ 6 ∧ (∀ c ∈ cws,c.length ≤ 7 ∧ ∀ d ∈ c,bL d) ∧
 ∀ (t k D:Addr) (ts:List Addr) (ks:List Nat) (m:Nat) (H':Hp),H t = none → H k = none → H D = none → Same H H' → H' t = some (.tup [.ref k,.ref D]) → H' k = some (.lst (ks.map fun k => V.int ((k:Nat):Int))) → H' D = some (.lst (ts.map V.ref)) → ts.length = (bD (List.range cws.length) (m + 1)).length → (∀ (i:Nat) u l,ts[i]? = some u → (bD (List.range cws.length) (m + 1))[i]? = some l → PaperAt (fun p => H p ≠ none ∨ p = D) H' (aL (aX (aL f))) cws l u) → k ≠ D → FirstOf (aL (aX (aL f))) cws m ks → (∀ m',m < m' → gE (aL (aX (aL f))) cws m') → Q (.ref t) H'
theorem aZ6 (n:Nat → Int) (c:Nat):0 ≤ aL (aX n) c:=by
 show 0 ≤ (aX n c).getD 0
 unfold aX
 split
 · rename_i h; exact Int.le_of_lt h.2
 · exact Gu _
theorem oA {n:Nat → Int} {cws:List (List Nat)} {m:Nat} (h:cws.length < m):gE n cws m:=fun l hl => by
 have:=lK hl
 omega
theorem yO {n:Nat → Int} (h:∀ c,0 ≤ n c):nG n []:=⟨[],rfl,(fun j w g hw => by cases hw),fun c => h c⟩
theorem xY {n:Nat → Int} {cws:List (List Nat)} (h:∀ c,0 ≤ n c):¬ gE n cws 0:=fun z => z [] (by rw [fW]; exact As.mpr rfl) (yO h)
theorem sc_most_kept:FnScope ["locker", "words", "many", "kept", "larger"] ["locker", "words"] (aG cR):=⟨rfl,rfl,rfl,by decide +kernel,rfl,by decide +kernel,by decide +kernel⟩
theorem qI {Zy Zz:Addr} {f:Addr} {fd:FuncData} (F:Fun K "most_kept" "most_kept" cR f fd) (G:Gs K mg Zy Zz) (c_first_hanging:Cal P w K mg base 10 "first_hanging" ["locker", "words", "many"] dZ) (c_rising_lists:Cal P w K mg base 9 "rising_lists" ["numbers", "many"] (bR 8)) (c_paper_for:Cal P w K mg base 5 "paper_for" ["locker", "words", "numbers"] jG):FnOk P w K mg base CX0 11 f fd ["locker", "words"] jJ:=by
 refine F.ok sc_most_kept (fun vs H Q E h => ?_) (fun cdv A outer s H vs Q E hr h => ?_)
 · obtain ⟨a,b,kvs,f,cws,rfl,_⟩:=h; rfl
 obtain ⟨a,b,kvs,f,cws,rfl,ha,lk,hb,h6,hL,q⟩:=h
 refine ⟨_,(@aF _ _ _ _ _ (@aQ _ _ 2 _ _ _ _ sc_most_kept.nd (by rfl) (by exact (Or.inl rfl)) (aN eJ rfl G.b_len cH (aA (mv 1) aE)) (by rfl) (by first | exact Or.inl rfl | exact Or.inr rfl)) (@aF _ _ _ _ _ (@aQ _ _ 3 _ _ _ _ sc_most_kept.nd (by rfl) (by exact (Or.inl rfl)) (bB c_first_hanging hr (by decide) rfl (aA (mv 0) (aA (mv 1) (aA (mv 2) aE)))) (by rfl) (by first | exact Or.inl rfl | exact Or.inr rfl)) (@aF _ _ _ _ _ (mD Bc (bH bZT (mv 3) lW (bS _)) (@aF _ _ _ _ _ (@aQ _ _ 2 _ _ _ _ sc_most_kept.nd (by rfl) (by exact (Or.inl rfl)) (aR iL (mv 2) aI) (by rfl) (by first | exact Or.inl rfl | exact Or.inr rfl)) (@aK _ _ _ (@aQ _ _ 3 _ _ _ _ sc_most_kept.nd (by rfl) (by exact (Or.inl rfl)) (bB c_first_hanging hr (by decide) rfl (aA (mv 0) (aA (mv 1) (aA (mv 2) aE)))) (by rfl) (by first | exact Or.inl rfl | exact Or.inr rfl))))) (@aF _ _ _ _ _ (@aQ _ _ 4 _ _ _ _ sc_most_kept.nd (by rfl) (by exact (Or.inl rfl)) (bB c_rising_lists hr (by decide) rfl (aA (aZ (xC rfl) rfl G.b_list cE (aA (aZ qN rfl G.b_range jQ (aA (aN eJ rfl G.b_len cH (aA (mv 1) aE)) aE)) aE)) (aA (aR cI (mv 2) aI) aE))) (by rfl) (by first | exact Or.inl rfl | exact Or.inr rfl)) (@aK _ _ _ (aW (fR (aA (mv 3) (aA (dN rfl (bV (mv 4)) (eO (N:=["numbers", "locker", "words"]) ["locker", "words", "many", "kept", "larger"] (aG cR) [none,some 0,some 1] rfl rfl rfl (fun x h => bM h) (by decide +kernel)) (by decide +kernel) rfl (by decide +kernel) (fun C s₀ H₀ ex => (aP (i:=0) (show List.Nodup (["numbers", "locker", "words"]:List Str) by decide +kernel) rfl (Or.inl rfl))) (fun C s₀ H₀ ex => fD) (fun C s₀ H₀ ex => (bB c_paper_for hr (by decide) rfl (aA (mv 1) (aA (mv 2) (aA (mv 0) aE)))))) aE))))))))),?_⟩
 have hll:((cws.map aY).map V.str).length = cws.length:=by rw [Ab,Ab]
 have hnn:=aZ6 (aL f)
 walk_at "go"
 rw [hll]
 have key:∀ (m:Nat) (H1:Hp) (Q1:VK) (E1:XK),m ≤ 7 → Same H H1 → (∀ m',m < m' → gE (aL (aX (aL f))) cws m') → (0 < m → (∀ m',m - 1 < m' → gE (aL (aX (aL f))) cws m') → ∀ H',Same H1 H' → Q1 .non H') → (∀ (r:Addr) (ks:List Nat) (H':Hp),FirstOf (aL (aX (aL f))) cws m ks → H r = none → Same H1 H' → H' r = some (.lst (ks.map fun k => V.int ((k:Nat):Int))) → Q1 (.ref r) H') → dZ [.ref a,.ref b,.int ((m:Nat):Int)] H1 Q1 E1:=by
   intro m H1 Q1 E1 hm s1 hno h1 h2
   have ha1:Rd H1 a (.dK kvs):=ha.elim (fun z => .inl (s1 _ _ z)) fun ⟨o,z⟩ => .inr ⟨o,s1 _ _ z⟩
   refine ⟨a,b,kvs,f,cws,m,rfl,ha1,lk,aH s1 hb,h6,hL,hm,fun hn H' s' => ?_,fun r ks H' hf hr s' e => h2 r ks H' hf (none_of s1 hr) s' e⟩
   have hm0:0 < m:=by
     cases m with
     | zero => exact absurd hn (xY hnn)
     | succ m => exact Nat.succ_pos _
   refine h1 hm0 (fun m' hm' => ?_) H' s'
   by_cases e:m' = m
   · rw [e]; exact hn
   · exact hno m' (by omega)
 refine key cws.length H _ _ (by omega) (Same.refl _) (fun m' hm' => oA hm') (fun hm0 hno H1 s1 => ?_) (fun r ks H1 hf hr s1 er => ?_)
 all_goals
   walk_at "go"
   refine ⟨fun n σ H' => (∃ (m:Nat) (v4:Option V),σ = [some (.ref a),some (.ref b),some (.int ((m:Nat):Int)),some .non,v4] ∧ Same H H' ∧ 0 < m ∧ m ≤ 6 ∧ (∀ m',m - 1 < m' → gE (aL (aX (aL f))) cws m') ∧ n = m) ∨
       (∃ (m:Nat) (r:Addr) (ks:List Nat) (v4:Option V),σ = [some (.ref a),some (.ref b),some (.int ((m:Nat):Int)),some (.ref r),v4] ∧ Same H H' ∧ H r = none ∧ H' r = some (.lst (ks.map fun k => V.int ((k:Nat):Int))) ∧ m ≤ 6 ∧ FirstOf (aL (aX (aL f))) cws m ks ∧ (∀ m',m < m' → gE (aL (aX (aL f))) cws m') ∧ n = 0),?_,?_⟩
   · first
       | exact ⟨_,.inl ⟨cws.length,_,rfl,s1,hm0,h6,hno,rfl⟩⟩
       | exact ⟨_,.inr ⟨cws.length,r,ks,_,rfl,s1,hr,er,h6,hf,(fun m' hm' => oA hm'),rfl⟩⟩
   · rintro n σ H2 (⟨m,v4,rfl,s2,hm0,hm6,hno2,rfl⟩ | ⟨m,r2,ks2,v4,rfl,s2,hr2,er2,hm6,hf2,hno2,rfl⟩)
     · walk_at "go"
       rw [show decide (V.non = V.non) = true from rfl]
       walk_at "go"
       refine ⟨_,fun σ' H' h => h,?_⟩
       walk_at "go"
       rw [show ((n:Nat):Int) - 1 = ((n - 1:Nat):Int) by omega]
       refine key (n - 1) H2 _ _ (by omega) s2 hno2 (fun hm1 hno3 H3 s3 => ?_) (fun r3 ks3 H3 hf3 hr3 s3 er3 => ?_)
       · walk_at "go"
         exact ⟨n - 1,by omega,.inl ⟨n - 1,_,rfl,s2.trans s3,hm1,by omega,hno3,rfl⟩⟩
       · walk_at "go"
         exact ⟨0,by omega,.inr ⟨n - 1,r3,ks3,_,rfl,s2.trans s3,hr3,er3,by omega,hf3,hno2,rfl⟩⟩
     · have hb2:=aH s2 hb
       walk_at "go"
       rw [show decide (V.ref r2 = V.non) = false from Av (fun z => nomatch z)]
       walk_at "go"
       rw [hll]
       refine pQ fun p hp => ?_
       have s3:=aD hp (.rng 0 ((cws.length:Nat):Int))
       have e3:(upd H2 p (.rng 0 ((cws.length:Nat):Int))) p = some (.rng 0 ((cws.length:Nat):Int)):=aB
       generalize upd H2 p (.rng 0 ((cws.length:Nat):Int)) = H3 at s3 e3 ⊢
       walk_at "go"
       refine wU e3 (by omega) fun p4 hp4 => ?_
       have s4:=aD hp4 (.lst ((List.range cws.length).map fun k => V.int ((k:Nat):Int)))
       have e4:rdL (upd H3 p4 (.lst ((List.range cws.length).map fun k => V.int ((k:Nat):Int)))) p4 = some ((List.range cws.length).map fun k => V.int ((k:Nat):Int)):=dA
       generalize upd H3 p4 (.lst ((List.range cws.length).map fun k => V.int ((k:Nat):Int))) = H4 at s4 e4 ⊢
       have s24:=s3.trans s4
       walk_at "go"
       rw [show ((m:Nat):Int) + 1 = ((m + 1:Nat):Int) by omega]
       refine ⟨p4,List.range cws.length,m + 1,rfl,e4,by rw [Bj]; exact h6,by omega,by omega,fun rl ps H5 hrl s5 el ls nd => ?_⟩
       have s25:=s24.trans s5
       have s05:=s2.trans s25
       have rl5:=aM el
       have hpl:ps.length = (bD (List.range cws.length) (m + 1)).length:=by rw [ls.1,Ab]
       have hcl:(bD (List.range cws.length) (m + 1)).length ≤ 279936:=Ax (fH (by rw [Bj]; exact h6)) (cQJ (by omega))
       walk_at "go"
       refine eS (n:=ps.length) (fun D i ys Hc => Same H5 Hc ∧ ∃ ts:List Addr,ys = ts.map V.ref ∧ ts.length = i ∧ ∀ (j:Nat) u l,ts[j]? = some u → (bD (List.range cws.length) (m + 1))[j]? = some l → PaperAt (fun p => H p ≠ none ∨ p = D) Hc (aL (aX (aL f))) cws l u) (Dz (hpl ▸ hcl) (by decide)) (fun D hD => ⟨aD hD _,[],rfl,rfl,fun j u l hu => nomatch hu⟩)
         (fun D i ys Hc _ r h => ⟨ps.map V.ref,(ps.map V.ref)[i]'(by rw [List.length_map]; exact h),aO (aH r.1 rl5),by simp [h]⟩) (fun D ys Hc _ r => ⟨ps.map V.ref,aO (aH r.1 rl5),by rw [List.length_map]; exact Nat.le_refl _⟩) ?_ ?_
       · rintro D i ys Hc x H' A B hD hi ⟨sm,ts,rfl,htl,hts⟩ hDc ⟨rfl,hz⟩ ha' hb'
         have hx:=hz _ (aO (aH sm rl5))
         obtain ⟨p6,ep6,rfl⟩:=cZ hx
         obtain ⟨l,el2⟩:∃ l,(bD (List.range cws.length) (m + 1))[i]? = some l:=⟨_,Aa (by omega)⟩
         obtain ⟨hp0,hpv⟩:=ls.2 i p6 (l.map fun k => V.int ((k:Nat):Int)) ep6 (by rw [Ag,el2]; rfl)
         have hlm:=Ak el2
         obtain ⟨hlt,hlm1,hll2⟩:=lK hlm
         have s06:=s05.trans sm
         have hp6:=sm _ _ hpv
         have np6:p6 ≠ D:=fun z => by rw [z,hD] at hpv; cases hpv
         have ha6:Rd H' a (.dK kvs):=ha.elim (fun z => .inl (s06 _ _ z)) fun ⟨o,z⟩ => .inr ⟨o,s06 _ _ z⟩
         walk_at "go"
         refine ⟨Wk.set rfl (Wk.refl _),?_⟩
         walk_at "go"
         refine ⟨a,b,p6,kvs,f,cws,l,rfl,ha6,lk,aH s06 hb,hL,hp6,by omega,hlt,hno2 (m + 1) (by omega) l hlm,fun t7 H7 ht7 s7 pp7 => ?_⟩
         have hX:∀ p,¬ (p ≠ p6 ∧ H' p ≠ none) → ¬ (H p ≠ none ∨ p = D):=fun p hp z => by
           by_cases e:p = p6
           · rcases z with z | z
             · rw [e] at z; exact z (none_of (s2.trans s24) hp0)
             · exact np6 (e.symm.trans z)
           · have hn:H' p = none:=Fg fun q => hp ⟨e,q⟩
             rcases z with z | z
             · exact z (none_of s06 hn)
             · rw [z,hDc] at hn; cases hn
         refine ha' _ _ (s7 _ _ hDc) ⟨bA hD (sm.trans s7),ts ++ [t7],by rw [Aj]; rfl,by rw [Am,htl]; rfl,fun j u l' hu hl' => ?_⟩
         by_cases hj:j < ts.length
         · rw [Ay hj] at hu
           exact ((hts j u l' hu hl').keep s7).put (.inr rfl) (s7 _ _ hDc)
         · rw [Bf (by omega)] at hu
           have ej:j = i:=by
             have:=(Ad.mp hu).1
             rw [List.length_singleton] at this
             omega
           subst ej
           rw [show j - ts.length = 0 by omega] at hu
           cases hu
           rw [el2] at hl'
           cases hl'
           obtain ⟨c,l1,l2,rs,W,F,h1,h2,h3,h4,h5,h6',h7,h8,h9,h10⟩:=pp7
           exact PaperAt.put ⟨c,l1,l2,rs,W,F,h1,h2,h3,h4,h5,h6',h7,hX c h8,hX l1 h9,hX l2 h10⟩ (.inr rfl) (s7 _ _ hDc)
       · rintro D ys Hd hD ⟨sd,ts,rfl,htl,hts⟩ hDd _
         have s0d:=s05.trans sd
         walk_at "go"
         refine ⟨by show 2 ≤ sizeLine; decide,fun t8 ht8 => ?_⟩
         have s8:=aD ht8 (.tup [.ref r2,.ref D])
         refine q t8 r2 D ts ks2 m _ (none_of s0d ht8) hr2 (none_of s05 hD) (s0d.trans s8) aB (s8 _ _ ((s25.trans sd) _ _ er2)) (s8 _ _ hDd) (by rw [htl,hpl]) (fun i u l hu hl => (hts i u l hu hl).keep s8) (fun z => ?_) hf2 hno2
         have e:=s25 _ _ er2
         rw [z,hD] at e
         cases e
def gF:Sp:=fun vs H Q _ => ∃ c m:Int,vs = [.int c,.int m] ∧ 0 ≤ m ∧ m ≤ 1000 ∧
 ∀ (r:Addr) (ns:List Int) (H':Hp),H r = none → Same H H' → ns.length = m.toNat → (∀ n ∈ ns,0 ≤ n) → H' r = some (.lst (ns.map V.int)) → Q (.ref r) H'
def kK (K:PySem.W.Frag):Sp:=fun vs H Q _ => ∃ (a:Addr) (ns:List Int) (k:Int),vs = [.ref a,.int k] ∧ SqL K H a (ns.map V.int) ∧ 0 ≤ k ∧ ∀ n:Int,Q (.int n) H
theorem yL:FnScope ["_law_script", "_law_k"] ["_law_script", "_law_k"] (aG fN):=⟨rfl,rfl,rfl,by decide +kernel,rfl,by decide +kernel,by decide +kernel⟩
theorem yQ {Zy Zz:Addr} {f:Addr} {fd:FuncData} (F:Fun K "_law_cell" "_law_cell" fN f fd) (G:Gs K mg Zy Zz)  : FnOk P w K mg base CX0 1 f fd ["_law_script", "_law_k"] (kK K):=by
 refine F.ok yL (fun vs H Q E h => ?_) (fun cdv A outer s H vs Q E hr h => ?_)
 · obtain ⟨a,ns,k,rfl,_⟩:=h; rfl
 obtain ⟨a,ns,k,rfl,hS,h0,q⟩:=h
 refine ⟨_,(@aF _ _ _ _ _ (dM (bH bJY (mv 1) (aN jU rfl G.b_len cH (aA (mv 0) aE)) (bS _)) (@aK _ _ _ (aW (bC ix_list (mv 0) (mv 1) (fun _ _ => rfl)))) bQ) (@aK _ _ _ (aW aI))),?_⟩
 walk_at "go"
 refine ⟨_,_,rfl,.inl hS,?_⟩
 have hnl:(ns.map V.int).length = ns.length:=Ab ..
 rw [hnl]
 walk_at "go"
 refine lJ (fun hd => ?_) (fun hd => ?_)
 · have hd':=Cb hd
   obtain ⟨n,_,an⟩:=eC (ns:=ns) (i:=k) h0 hd'
   walk_at "go"
   exact cJO hS an (q n)
 · walk_at "go"
   exact q 0
theorem sc_l_stream:FnScope ["_law_cell_here", "_law_many", "_law_number", "_law_found", "_law_k"] ["_law_cell_here", "_law_many"] (aG dU):=⟨rfl,rfl,rfl,by decide +kernel,rfl,by decide +kernel,by decide +kernel⟩
theorem sO {Zy Zz:Addr} {f:Addr} {fd:FuncData} (F:Fun K "_law_stream" "_law_stream" dU f fd) (G:Gs K mg Zy Zz)  : FnOk P w K mg base CX0 1 f fd ["_law_cell_here", "_law_many"] gF:=by
 refine F.ok sc_l_stream (fun vs H Q E h => ?_) (fun cdv A outer s H vs Q E hr h => ?_)
 · obtain ⟨c,m,rfl,_⟩:=h; rfl
 obtain ⟨c,m,rfl,h0,h1,q⟩:=h
 refine ⟨_,(@aF _ _ _ _ _ (@aQ _ _ 2 _ _ _ _ sc_l_stream.nd (by rfl) (by exact (Or.inl rfl)) (aR cI (aR eW (mv 0) aI) aI) (by rfl) (by first | exact Or.inl rfl | exact Or.inr rfl)) (@aF _ _ _ _ _ (@aQ _ _ 3 _ _ _ _ sc_l_stream.nd (by rfl) (by exact (Or.inl rfl)) (cJ aE) (by rfl) (by first | exact Or.inl rfl | exact Or.inr rfl)) (@aF _ _ _ _ _ (bZ Bc rfl (iB rfl G.b_range (aA (mv 1) aE)) (aP (i:=4) sc_l_stream.nd rfl (Or.inl rfl)) (@aF _ _ _ _ _ (@aQ _ _ 2 _ _ _ _ sc_l_stream.nd (by rfl) (by exact (Or.inl rfl)) (aR eW (aR cI (aR cI (aR cI (aR aXO (mv 2) (mv 2)) (aR aXO aI (mv 2))) (aR aXO aI (mv 4))) aI) aI) (by rfl) (by first | exact Or.inl rfl | exact Or.inr rfl)) (@aK _ _ _ (cW (eX Bp Eg Eh vT (mv 3) (aA (aR kC (mv 2) aI) aE)))))) (@aK _ _ _ (aW (mv 3)))))),?_⟩
 walk_at "go"
 refine ⟨by decide,fun p hp => ?_⟩
 walk_at "go"
 refine ⟨⟨by omega,by omega⟩,?_⟩
 refine gK (fun i σ H' => ∃ (x:Int) (ns:List Int) (v:Option V),σ = [some (.int c),some (.int m),some (.int x),some (.ref p),v] ∧ 0 ≤ x ∧ x < 2147531918 ∧ ns.length = i ∧ (∀ n ∈ ns,0 ≤ n) ∧ H' = upd H p (.lst (ns.map V.int)))
   ⟨_,[],none,rfl,by omega,by omega,rfl,(fun n hn => nomatch hn),rfl⟩ ?_ ?_
 · rintro i σ H' hi ⟨x,ns,v,rfl,hx0,hx1,hn,hns,rfl⟩
   walk_at "go"
   refine ⟨_,ns ++ [(x * x + 48271 * x + 7 * (0 + (i:Int)) + 1) % 2147483647 / 64],_,rfl,Dg _ (by decide),?_,?_,?_,?_⟩
   · have:=Dm (x * x + 48271 * x + 7 * (0 + (i:Int)) + 1) (show (0:Int) < 2147483647 by decide)
     omega
   · rw [Am,hn]; rfl
   · intro n hn
     rcases Bk.mp hn with z | z
     · exact hns n z
     · rw [As.mp z]
       have:=Dg (x * x + 48271 * x + 7 * (0 + (i:Int)) + 1) (show (2147483647:Int) ≠ 0 by decide)
       omega
   · rw [vZ,Aj]; rfl
 · rintro σ H' ⟨x,ns,v,rfl,hx0,hx1,hn,hns,rfl⟩
   walk_at "go"
   exact q p ns _ hp (aD hp _) hn hns aB
theorem aJ9 {c:Nat} (h:bL c):Builtin.Str.occurrences lettersT (one c) 0 lettersT.length 1 = [c - 97]:=by
 have q:∀ k:_root_.Fin 23,Builtin.Str.occurrences lettersT (one (97 + k.val)) 0 lettersT.length 1 = [k.val]:=by decide +kernel
 unfold bL at h
 have e:=q ⟨c - 97,by omega⟩
 rwa [show 97 + (c - 97) = c by omega] at e
def kR:Sp:=fun vs H Q _ => ∃ n m l:Int,vs = [.int n,.int m,.int l] ∧ 1 ≤ l ∧ l ≤ 7 ∧ ∀ (cw:List Nat) (H':Hp),Same H H' → 1 ≤ cw.length → (cw.length:Int) ≤ l → (∀ d ∈ cw,bL d) → Q (.str (aY cw)) H'
theorem sc_l_word:FnScope ["_law_cell_here", "_law_spread", "_law_longest", "_law_some", "_law_word_here", "_law_k"] ["_law_cell_here", "_law_spread", "_law_longest"] (aG fO):=⟨rfl,rfl,rfl,by decide +kernel,rfl,by decide +kernel,by decide +kernel⟩
theorem yS {Zy Zz:Addr} {f:Addr} {fd:FuncData} (F:Fun K "_law_word" "_law_word" fO f fd) (G:Gs K mg Zy Zz) (c_l_stream:Cal P w K mg base 1 "_law_stream" ["_law_cell_here", "_law_many"] gF):FnOk P w K mg base CX0 2 f fd ["_law_cell_here", "_law_spread", "_law_longest"] kR:=by
 refine F.ok sc_l_word (fun vs H Q E h => ?_) (fun cdv A outer s H vs Q E hr h => ?_)
 · obtain ⟨n,m,l,rfl,_⟩:=h; rfl
 obtain ⟨n,m,l,rfl,hl1,hl7,q⟩:=h
 refine ⟨_,(@aF _ _ _ _ _ (@aQ _ _ 3 _ _ _ _ sc_l_word.nd (by rfl) (by exact (Or.inl rfl)) (bB c_l_stream hr (by decide) rfl (aA (mv 0) (aA aI aE))) (by rfl) (by first | exact Or.inl rfl | exact Or.inr rfl)) (@aF _ _ _ _ _ (@aQ _ _ 4 _ _ _ _ sc_l_word.nd (by rfl) (by exact (Or.inl rfl)) iS (by rfl) (by first | exact Or.inl rfl | exact Or.inr rfl)) (@aF _ _ _ _ _ (bZ Bc rfl (iB rfl G.b_range (aA (aR cI aI (aR eW (bC cA (mv 3) aI (fun _ _ => rfl)) (mv 2))) aE)) (aP (i:=5) sc_l_word.nd rfl (Or.inl rfl)) (@aK _ _ _ (@aQ _ _ 4 _ _ _ _ sc_l_word.nd (by rfl) (by exact (Or.inl rfl)) (aR cI (mv 4) (bC cA iS (aR eW (aR cI (aR kC (mv 1) aI) (aR eW (bC cA (mv 3) (mv 5) (fun _ _ => rfl)) (@bC _ _ _ _ _ _ _ cA (@cJ _ _ _ _ (aA aI (aA aI (aA aI (aA aI aE))))) (aR eW (mv 1) aI) (fun _ _ => rfl)))) aI) (fun _ _ => rfl))) (by rfl) (by first | exact Or.inl rfl | exact Or.inr rfl)))) (@aK _ _ _ (aW (mv 4)))))),?_⟩
 walk_at "go"
 refine ⟨n,9,rfl,by omega,by omega,fun r ns H1 hr1 s1 hl hp he => ?_⟩
 have hl9:ns.length = 9:=hl
 have hlr:rdL H1 r = some (ns.map V.int):=aM he
 obtain ⟨n8,i8,a8⟩:=eC (ns:=ns) (i:=8) (by omega) (by omega)
 have p8:=hp _ i8
 have z0:=Dg n8 (show l ≠ 0 by omega)
 have z1:=Dm n8 (show 0 < l by omega)
 walk_at "go"
 refine dR hlr a8 ?_
 walk_at "go"
 generalize n8 % l = u at z0 z1 ⊢
 refine ⟨⟨by omega,by omega⟩,?_⟩
 refine gK (fun i σ H' => ∃ (cs:List Nat) (v:Option V),σ = [some (.int n),some (.int m),some (.int l),some (.ref r),some (.str (aY cs)),v] ∧ cs.length = i ∧ (∀ d ∈ cs,bL d) ∧ Same H1 H')
   ⟨[],none,rfl,rfl,(fun d hd => nomatch hd),Same.refl _⟩ ?_ ?_
 · rintro i σ H2 hi ⟨cs,v,rfl,hcl,hL,s2⟩
   have hi7:i < 7:=by omega
   have hwl:(aY cs).length = cs.length:=fE cs
   have hl2:=aH s2 hlr
   obtain ⟨nk,ik,ak⟩:=eC (ns:=ns) (i:=0 + (i:Int)) (by omega) (by omega)
   walk_at "go"
   refine dR hl2 ak ?_
   walk_at "go"
   refine ⟨by decide,fun p hp4 => ?_⟩
   have hl3:=aH (aD hp4 (.lst (([2,3,4,23]:List Int).map V.int))) hl2
   walk_at "go"
   obtain ⟨kn,hkn,akn⟩:=eC (ns:=[2,3,4,23]) (i:=m % 4) (by omega) (by show m % 4 < 4; omega)
   have hk:1 ≤ kn:=(by decide:∀ x ∈ ([2,3,4,23]:List Int),1 ≤ x) kn hkn
   refine dR (xs:=([2,3,4,23]:List Int).map V.int) dA akn ?_
   walk_at "go"
   generalize m / 8 + nk % kn = y
   have y0:=Dg y (show (23:Int) ≠ 0 by decide)
   have y1:=Dm y (show (0:Int) < 23 by decide)
   have e1:=wR (k:=(y % 23).toNat) (by omega)
   rw [show (((y % 23).toNat:Nat):Int) = y % 23 by omega] at e1
   refine jK (by decide) e1 ?_
   have h1l:(⟨#[97 + (y % 23).toNat]⟩:Str).length = 1:=rfl
   walk_at "go"
   refine ⟨cs ++ [97 + (y % 23).toNat],some (.int (0 + (i:Int))),?_,by rw [Am,hcl]; rfl,fun d hd => ?_,s2.trans (aD hp4 _)⟩
   · rw [← yN]
     rfl
   · rcases Bk.mp hd with z | z
     · exact hL d z
     · rw [As.mp z]
       exact ⟨by omega,by omega⟩
 · rintro σ H2 ⟨cs,v,rfl,hcl,hL,s2⟩
   walk_at "go"
   exact q _ _ (s1.trans s2) (by omega) (by omega) hL
theorem fX {f:Nat → Option Int} {c:Nat} {n:Int} (hf:∀ c,0 ≤ aL f c) (hn:0 ≤ n):∀ d,0 ≤ aL (fun d => if d = c then some n else f d) d:=fun d => by
 show 0 ≤ ((if d = c then some n else f d):Option Int).getD 0
 by_cases e:d = c
 · rw [if_pos e]; exact hn
 · rw [if_neg e]; exact hf d
theorem pZ {f:Nat → Option Int} {c:Nat} {n m:Int} (hf:∀ c,aL f c ≤ m) (hn:n ≤ m):∀ d,aL (fun d => if d = c then some n else f d) d ≤ m:=fun d => by
 show ((if d = c then some n else f d):Option Int).getD 0 ≤ m
 by_cases e:d = c
 · rw [if_pos e]; exact hn
 · rw [if_neg e]; exact hf d
theorem aJ6 {f:Nat → Option Int} {c:Nat} {n:Int} (hf:∀ c,f c ≠ none → bL c) (hc:bL c):∀ d,(if d = c then some n else f d) ≠ none → bL d:=fun d z => by
 by_cases e:d = c
 · rw [e]; exact hc
 · rw [if_neg e] at z; exact hf d z
theorem kM {kvs:List (Key × V)} {k:Key} {v:V} (h:bJ kvs k ≠ none):(cY kvs k v).length = kvs.length:=by
 unfold cY
 split
 · rw [Ab]
 · rename_i hn
   refine absurd ?_ h
   unfold bJ
   rw [List.find?_eq_none.mpr fun x hx => by
     rw [Bh]
     intro e
     exact hn (Gj.mpr ⟨x,hx,Ap e⟩)]
   rfl
def kY:Sp:=fun vs H Q _ => ∃ (c:Int) (b:Addr) (cws:List (List Nat)),vs = [.int c,.ref b] ∧ rdL H b = some ((cws.map aY).map V.str) ∧ cws.length ≤ 8 ∧ (∀ c ∈ cws,c.length ≤ 7 ∧ ∀ d ∈ c,bL d) ∧
 ∀ (r:Addr) (kvs:List (Key × V)) (f:Nat → Option Int) (H':Hp),H r = none → Same H H' → H' r = some (.dK kvs) → Lk kvs f → (∀ c,0 ≤ aL f c ∧ aL f c ≤ 1000) → kvs.length ≤ 100 → Q (.ref r) H'
theorem sc_l_locker:FnScope ["_law_cell_here", "_law_words", "_law_some", "_law_locker_here", "_law_word_here", "_law_letter", "_law_rank", "_law_k"] ["_law_cell_here", "_law_words"] (aG eB):=⟨rfl,rfl,rfl,by decide +kernel,rfl,by decide +kernel,by decide +kernel⟩
theorem rO {Zy Zz:Addr} {f:Addr} {fd:FuncData} (F:Fun K "_law_locker" "_law_locker" eB f fd) (G:Gs K mg Zy Zz) (c_l_stream:Cal P w K mg base 1 "_law_stream" ["_law_cell_here", "_law_many"] gF):FnOk P w K mg base CX0 2 f fd ["_law_cell_here", "_law_words"] kY:=by
 refine F.ok sc_l_locker (fun vs H Q E h => ?_) (fun cdv A outer s H vs Q E hr h => ?_)
 · obtain ⟨c,b,cws,rfl,_⟩:=h; rfl
 obtain ⟨c,b,cws,rfl,hb,h8,hL,q⟩:=h
 refine ⟨_,(@aF _ _ _ _ _ (@aQ _ _ 2 _ _ _ _ sc_l_locker.nd (by rfl) (by exact (Or.inl rfl)) (bB c_l_stream hr (by decide) rfl (aA (mv 0) (aA aI aE))) (by rfl) (by first | exact Or.inl rfl | exact Or.inr rfl)) (@aF _ _ _ _ _ (@aQ _ _ 3 _ _ _ _ sc_l_locker.nd (by rfl) (by exact (Or.inl rfl)) mR (by rfl) (by first | exact Or.inl rfl | exact Or.inr rfl)) (@aF _ _ _ _ _ (bZ Bc rfl (bV (mv 1)) (aP (i:=4) sc_l_locker.nd rfl (Or.inl rfl)) (@aK _ _ _ (bZ Bc rfl (mL (mv 4)) (aP (i:=5) sc_l_locker.nd rfl (Or.inl rfl)) (@aK _ _ _ (eG (Room.u1 hr) (mv 3) (mv 5) (aR cI (fK Bs Di (wX (Room.u1 hr)) (mv 3) (aA (mv 5) (aA aI aE))) aI) rfl))))) (@aF _ _ _ _ _ (bZ Bc rfl (bV (aZ (bQG rfl) rfl G.b_list cE (aA (mv 3) aE))) (aP (i:=5) sc_l_locker.nd rfl (Or.inl rfl)) (@aF _ _ _ _ _ (@aQ _ _ 6 _ _ _ _ sc_l_locker.nd (by rfl) (by exact (Or.inl rfl)) (eX PySem.F.plainAttrs_str PySem.F.slot_str_index PySem.F.type_str_index bZD iS (aA (mv 5) aE)) (by rfl) (by first | exact Or.inl rfl | exact Or.inr rfl)) (@aK _ _ _ (eG (Room.u1 hr) (mv 3) (mv 5) (aN (bZ6 rfl) rfl G.b_max aXT (aA aI (aA (aR iL (fU (Room.u1 hr) (mv 3) (mv 5) (fun _ _ => rfl)) (aR eW (bC cA (mv 2) (mv 6) (fun _ _ => rfl)) (@bC _ _ _ _ _ _ _ cA (@cJ _ _ _ _ (aA aI (aA aI (aA aI (aA aI aE))))) (aR eW (mv 0) aI) (fun _ _ => rfl)))) aE))) rfl)))) (@aF _ _ _ _ _ (bZ Bc rfl (iB rfl G.b_range (aA aI aE)) (aP (i:=7) sc_l_locker.nd rfl (Or.inl rfl)) (@aK _ _ _ (eG (Room.u1 hr) (mv 3) (bC cA iS (mv 7) (fun _ _ => rfl)) (aR eW (bC cA (mv 2) (aR cI aI (mv 7)) (fun _ _ => rfl)) (@bC _ _ _ _ _ _ _ cA (@cJ _ _ _ _ (aA aI (aA aI (aA aI (aA aI aE))))) (aR eW (aR kC (mv 0) aI) aI) (fun _ _ => rfl))) rfl))) (@aF _ _ _ _ _ (dM (bH aQC (aR eW (aR kC (mv 0) aI) aI) aI (bS _)) (@aK _ _ _ (eG (Room.u1 hr) (mv 3) (bC cA iS (aR eW (bC cA (mv 2) aI (fun _ _ => rfl)) aI) (fun _ _ => rfl)) (aR eW (bC cA (mv 2) aI (fun _ _ => rfl)) aI) rfl)) bQ) (@aK _ _ _ (aW (mv 3))))))))),?_⟩
 have hll:((cws.map aY).map V.str).length = cws.length:=by rw [Ab,Ab]
 walk_at "go"
 refine ⟨c,31,rfl,by omega,by omega,fun r ns H1 hr1 s1 hl hp he => ?_⟩
 have hl31:ns.length = 31:=hl
 have hlr:rdL H1 r = some (ns.map V.int):=aM he
 walk_at "go"
 intro p hpp
 have s2:=aD hpp (.dK [])
 have e2:(upd H1 p (.dK [])) p = some (.dK []):=aB
 generalize upd H1 p (.dK []) = H2 at s2 e2 ⊢
 have hp0:H p = none:=none_of s1 hpp
 have hb2:=aH (s1.trans s2) hb
 refine lL ?_
 with_reducible refine vE (fun σ' H' => ∃ (v4 v5:Option V) (kvs:List (Key × V)) (f:Nat → Option Int),σ' = [some (.int c),some (.ref b),some (.ref r),some (.ref p),v4,v5,none,none] ∧ Same H1 H' ∧ H' p = some (.dK kvs) ∧ Lk kvs f ∧ (∀ c,0 ≤ aL f c) ∧ (∀ c,f c ≠ none → bL c) ∧ kvs.length ≤ 56 ∧ ∀ c,aL f c ≤ 1000) (fun σ2 H3 j3 => ?_) (fun N hN => ?_)
 case refine_2 =>
   walk_at "go"
   refine eF (xs:=(cws.map aY).map V.str) (fun i σ H' => ∃ (v4 v5:Option V) (kvs:List (Key × V)) (f:Nat → Option Int),σ = [some (.int c),some (.ref b),some (.ref r),some (.ref p),v4,v5,none,none] ∧ Same H1 H' ∧ H' p = some (.dK kvs) ∧ Lk kvs f ∧ (∀ c,0 ≤ aL f c) ∧ (∀ c,f c ≠ none → bL c) ∧ kvs.length ≤ 7 * i ∧ ∀ c,aL f c ≤ ((7 * i:Nat):Int))
     ⟨_,_,[],_,rfl,s2,e2,Lk.nil,(fun c => Gu _),(fun c z => absurd rfl z),Ai _,fun c => Gu _⟩ (fun i σ H' _ ⟨_,_,_,_,_,e,_⟩ => aH (s1.trans e) hb) ?_ ?_
   · rintro i x σ H4 hx ⟨v4,v5,kvs,f,rfl,s4,e4,lk,hf,hlt,hkl,hle⟩
     have hi:i < cws.length:=by have:=(Ad.mp hx).1; rw [hll] at this; exact this
     obtain ⟨cw,hcw,hm,rfl⟩:=nJ hx
     obtain ⟨hc7,hcL⟩:=hL cw hm
     walk_at "go"
     refine aQK (fun j σ H' => ∃ (v5:Option V) (kvs:List (Key × V)) (f:Nat → Option Int),σ = [some (.int c),some (.ref b),some (.ref r),some (.ref p),some (.str (aY cw)),v5,none,none] ∧ Same H1 H' ∧ H' p = some (.dK kvs) ∧ Lk kvs f ∧ (∀ c,0 ≤ aL f c) ∧ (∀ c,f c ≠ none → bL c) ∧ kvs.length ≤ 7 * i + j ∧ ∀ c,aL f c ≤ ((7 * i + j:Nat):Int))
       ⟨_,kvs,f,rfl,s4,e4,lk,hf,hlt,hkl,hle⟩ ?_ ?_
     · clear s4 e4 lk hf hlt hkl hle kvs f v4 v5
       rintro j d σ H5 hd ⟨v5,kvs,f,rfl,s5,e5,lk,hf,hlt,hkl,hle⟩
       have hj:j < cw.length:=(Ad.mp hd).1
       have hdL:bL d:=hcL d (Ak hd)
       walk_at "go"
       refine xG (z:=one d) (.inl e5) ?_
       rw [lk.val d,lO]
       walk_at "go"
       refine fP (z:=one d) e5 (aT (by omega)) ?_
       refine ⟨_,_,_,rfl,bA hpp s5,aB,lk.put d _,fX hf (by have:=hf d; omega),aJ6 hlt hdL,?_,pZ (fun c => by have:=hle c; omega) (by have:=hle d; omega)⟩
       have:=eK kvs (Sum.inr (one d)) (.int (aL f d + 1))
       omega
     · rintro σ H5 ⟨v5,kvs,f,rfl,s5,e5,lk,hf,hlt,hkl,hle⟩
       replace hkl:kvs.length ≤ 7 * i + cw.length:=hkl
       replace hle:∀ c,aL f c ≤ ((7 * i + cw.length:Nat):Int):=hle
       walk_at "go"
       exact ⟨_,_,kvs,f,rfl,s5,e5,lk,hf,hlt,by omega,fun c => by have:=hle c; omega⟩
   · rintro σ H4 ⟨v4,v5,kvs,f,rfl,s4,e4,lk,hf,hlt,hkl,hle⟩
     rw [hll] at hkl hle
     exact hN _ _ ⟨v4,v5,kvs,f,rfl,s4,e4,lk,hf,hlt,by omega,fun c => by have:=hle c; omega⟩
 case refine_1 =>
 obtain ⟨v4,v5,kvs,f,rfl,s3,e3,lk,hf,hlt,hkl,hle⟩:=j3
 with_reducible refine vE (fun σ' H' => ∃ (v5 v6:Option V) (kvs:List (Key × V)) (f:Nat → Option Int),σ' = [some (.int c),some (.ref b),some (.ref r),some (.ref p),v4,v5,v6,none] ∧ Same H1 H' ∧ H' p = some (.dK kvs) ∧ Lk kvs f ∧ (∀ c,0 ≤ aL f c) ∧ kvs.length ≤ 56 ∧ ∀ c,aL f c ≤ 1000) (fun σ2 H4 j4 => ?_) (fun N hN => ?_)
 case refine_2 =>
   walk_at "go"
   refine bQ5 (.inl e3) fun l hl => ?_
   have s4:=aD hl (.lst (kvs.map fun kv => kV kv.1))
   have el4:(upd H3 l (.lst (kvs.map fun kv => kV kv.1))) l = some (.lst (kvs.map fun kv => kV kv.1)):=aB
   have e4:=s4 _ _ e3
   have nlp:l ≠ p:=fun z => by rw [z,e3] at hl; cases hl
   generalize upd H3 l (.lst (kvs.map fun kv => kV kv.1)) = H4 at s4 el4 e4 ⊢
   have rl4:=aM el4
   walk_at "go"
   refine eF (xs:=kvs.map fun kv => kV kv.1) (fun i σ H' => ∃ (v5 v6:Option V) (kws:List (Key × V)) (g:Nat → Option Int),σ = [some (.int c),some (.ref b),some (.ref r),some (.ref p),v4,v5,v6,none] ∧ Same H1 H' ∧ H' l = some (.lst (kvs.map fun kv => kV kv.1)) ∧ H' p = some (.dK kws) ∧ Lk kws g ∧ (∀ c,0 ≤ aL g c) ∧ (∀ c,f c ≠ none → g c ≠ none) ∧ kws.length = kvs.length ∧ ∀ c,aL g c ≤ 1000)
     ⟨_,_,kvs,f,rfl,s3.trans s4,el4,e4,lk,hf,(fun c z => z),rfl,hle⟩ (fun i σ H' _ ⟨_,_,_,_,_,_,e,_⟩ => aM e) ?_ ?_
   · rintro i x σ H5 hx ⟨v5,v6,kws,g,rfl,s5,el5,e5,lg,hg,hgk,hkw,hge⟩
     rw [Ag] at hx
     cases ek:kvs[i]? with
     | none => rw [ek] at hx; cases hx
     | some kv =>
       rw [ek] at hx
       have hkm:=Ak ek
       obtain ⟨d,n,hkv,hfd⟩:=lk.at_mem hkm
       subst hkv
       obtain rfl:x = V.str (one d):=(Bi hx).symm
       have hdf:f d ≠ none:=by rw [hfd]; exact fun z => nomatch z
       have hdL:=hlt d hdf
       obtain ⟨m,hgd⟩:∃ m,g d = some m:=by
         cases e:g d with
         | none => exact absurd e (hgk d hdf)
         | some m => exact ⟨m,rfl⟩
       have hgn:0 ≤ m:=by have:=hg d; unfold aL at this; rw [hgd] at this; exact this
       have hgm:m ≤ 1000:=by have:=hge d; unfold aL at this; rw [hgd] at this; exact this
       obtain ⟨nr,inr,anr⟩:=eC (ns:=ns) (i:=((d - 97:Nat):Int)) (by omega) (by unfold bL at hdL; omega)
       have hnr:=hp _ inr
       have lr5:=aH s5 hlr
       walk_at "go"
       refine bQ2 (aJ9 hdL) ?_
       walk_at "go"
       refine pV (z:=one d) (.inl e5) (by rw [lg.val d,hgd]; rfl) ?_
       walk_at "go"
       refine dR lr5 anr ?_
       walk_at "go"
       refine ⟨by decide,fun p6 hp6 => ?_⟩
       have s6:=aD hp6 (HO.lst [V.int 1,V.int 2,V.int 3,V.int 5])
       obtain ⟨kn,hkn,akn⟩:=eC (ns:=[1,2,3,5]) (i:=c % 4) (by omega) (by show c % 4 < 4; omega)
       have hk:1 ≤ kn:=(by decide:∀ x ∈ ([1,2,3,5]:List Int),1 ≤ x) kn hkn
       have hmd:=Dg nr (show kn ≠ 0 by omega)
       walk_at "go"
       refine dR (xs:=([1,2,3,5]:List Int).map V.int) dA akn ?_
       have e6:=s6 _ _ e5
       have el6:=s6 _ _ el5
       generalize upd H5 p6 (HO.lst [V.int 1,V.int 2,V.int 3,V.int 5]) = H6 at e6 el6 s6 ⊢
       walk_at "go"
       refine fP (z:=one d) e6 (aT (by omega)) ?_
       refine ⟨_,_,_,_,rfl,bA hpp (s5.trans s6),by rw [aJ nlp]; exact el6,aB,lg.put d _,fX hg (by split <;> omega),fun a ha => ?_,?_,pZ hge (by split <;> omega)⟩
       · by_cases e:a = d
         · rw [if_pos e]; exact fun z => nomatch z
         · rw [if_neg e]; exact hgk a ha
       · rw [← hkw]
         exact kM (by rw [lg.val d,hgd]; exact fun z => nomatch z)
   · rintro σ H5 ⟨v5,v6,kws,g,rfl,s5,el5,e5,lg,hg,hgk,hkw,hge⟩
     exact hN _ _ ⟨v5,v6,kws,g,rfl,s5,e5,lg,hg,by omega,hge⟩
 case refine_1 =>
 clear s3 e3 lk hf hlt hkl hle kvs f v5
 obtain ⟨v5,v6,kvs,f,rfl,s3,e3,lk,hf,hkl,hle⟩:=j4
 with_reducible refine vE (fun σ' H' => ∃ (v7:Option V) (kvs:List (Key × V)) (f:Nat → Option Int),σ' = [some (.int c),some (.ref b),some (.ref r),some (.ref p),v4,v5,v6,v7] ∧ Same H1 H' ∧ H' p = some (.dK kvs) ∧ Lk kvs f ∧ (∀ c,0 ≤ aL f c) ∧ kvs.length ≤ 60 ∧ ∀ c,aL f c ≤ 1000) (fun σ2 H5 j5 => ?_) (fun N hN => ?_)
 case refine_2 =>
   walk_at "go"
   refine ⟨⟨by omega,by omega⟩,?_⟩
   refine gK (fun i σ H' => ∃ (v7:Option V) (kvs:List (Key × V)) (f:Nat → Option Int),σ = [some (.int c),some (.ref b),some (.ref r),some (.ref p),v4,v5,v6,v7] ∧ Same H1 H' ∧ H' p = some (.dK kvs) ∧ Lk kvs f ∧ (∀ c,0 ≤ aL f c) ∧ kvs.length ≤ 56 + i ∧ ∀ c,aL f c ≤ 1000)
     ⟨_,kvs,f,rfl,s3,e3,lk,hf,hkl,hle⟩ ?_ ?_
   · clear s3 e3 lk hf hkl hle kvs f
     rintro i σ H5 hi ⟨v7,kvs,f,rfl,s5,e5,lk,hf,hkl,hle⟩
     have hi4:i < 4:=hi
     have lr5:=aH s5 hlr
     obtain ⟨nr,inr,anr⟩:=eC (ns:=ns) (i:=23 + (0 + (i:Int))) (by omega) (by omega)
     have hnr:=hp _ inr
     walk_at "go"
     refine dR lr5 anr ?_
     walk_at "go"
     refine ⟨by decide,fun p6 hp6 => ?_⟩
     have s6:=aD hp6 (HO.lst [V.int 1,V.int 2,V.int 3,V.int 4])
     obtain ⟨kn,hkn,akn⟩:=eC (ns:=[1,2,3,4]) (i:=c / 4 % 4) (by omega) (by show c / 4 % 4 < 4; omega)
     have hk:1 ≤ kn:=(by decide:∀ x ∈ ([1,2,3,4]:List Int),1 ≤ x) kn hkn
     walk_at "go"
     refine dR (xs:=([1,2,3,4]:List Int).map V.int) dA akn ?_
     have e6:=s6 _ _ e5
     generalize upd H5 p6 (HO.lst [V.int 1,V.int 2,V.int 3,V.int 4]) = H6 at e6 s6 ⊢
     have y0:=Dg nr (show kn ≠ 0 by omega)
     have y1:=Dm nr (show 0 < kn by omega)
     have hk4:kn ≤ 4:=(by decide:∀ x ∈ ([1,2,3,4]:List Int),x ≤ 4) kn hkn
     walk_at "go"
     refine jK (by decide) (by rw [show (0 + (i:Int)) = ((i:Nat):Int) by omega]; exact xE hi4) ?_
     walk_at "go"
     refine fP (z:=one (49 + i)) e6 (aT (by omega)) ?_
     refine ⟨_,_,_,rfl,bA hpp (s5.trans s6),aB,lk.put (49 + i) _,fX hf y0,?_,pZ hle (by omega)⟩
     have:=eK kvs (Sum.inr (one (49 + i))) (.int (nr % kn))
     omega
   · rintro σ H5 ⟨v7,kvs,f,rfl,s5,e5,lk,hf,hkl,hle⟩
     exact hN _ _ ⟨v7,kvs,f,rfl,s5,e5,lk,hf,hkl,hle⟩
 case refine_1 =>
 clear s3 e3 lk hf hkl hle kvs f
 obtain ⟨v7,kvs,f,rfl,s5,e5,lk,hf,hkl,hle⟩:=j5
 have lr5:=aH s5 hlr
 walk_at "go"
 refine lJ (fun hc => ?_) (fun hc => ?_)
 · obtain ⟨n7,i7,a7⟩:=eC (ns:=ns) (i:=27) (by omega) (by omega)
   obtain ⟨n8,i8,a8⟩:=eC (ns:=ns) (i:=28) (by omega) (by omega)
   have y0:=Dg n8 (show (3:Int) ≠ 0 by decide)
   have y1:=Dm n8 (show (0:Int) < 3 by decide)
   have z0:=Dg n7 (show (23:Int) ≠ 0 by decide)
   have z1:=Dm n7 (show (0:Int) < 23 by decide)
   have e1:=wR (k:=(n7 % 23).toNat) (by omega)
   rw [show (((n7 % 23).toNat:Nat):Int) = n7 % 23 by omega] at e1
   walk_at "go"
   refine dR lr5 a8 ?_
   walk_at "go"
   refine dR lr5 a7 ?_
   walk_at "go"
   refine jK (by decide) e1 ?_
   walk_at "go"
   refine fP (z:=one (97 + (n7 % 23).toNat)) e5 (aT (by omega)) ?_
   walk_at "go"
   refine q p _ _ _ hp0 (s1.trans (bA hpp s5)) aB (lk.put _ _) (fun c => ⟨fX hf y0 c,pZ hle (by omega) c⟩) ?_
   have:=eK kvs (Sum.inr (one (97 + (n7 % 23).toNat))) (.int (n8 % 3))
   omega
 · walk_at "go"
   exact q p kvs f _ hp0 (s1.trans s5) e5 lk (fun c => ⟨hf c,hle c⟩) (by omega)
theorem bXG {xs:List V} {lo d:Int} (h:0 ≤ lo) (hd:0 ≤ d):(gR xs (some lo) (some (lo + d))).length ≤ d.toNat:=by
 unfold gR
 show ((xs.drop (if lo < 0 then (lo + (xs.length:Int)).toNat else min lo.toNat xs.length)).take ((if lo + d < 0 then (lo + d + (xs.length:Int)).toNat else min (lo + d).toNat xs.length) - (if lo < 0 then (lo + (xs.length:Int)).toNat else min lo.toNat xs.length))).length ≤ _
 rw [if_neg (by omega),if_neg (by omega),Bl]
 omega
theorem aQH {P:List Nat → Prop} {ys:List V} (h:∀ y ∈ ys,∃ cw:List Nat,y = .str (aY cw) ∧ P cw):∃ cws:List (List Nat),ys = (cws.map aY).map V.str ∧ ∀ c ∈ cws,P c:=by
 induction ys with
 | nil => exact ⟨[],rfl,fun c hc => nomatch hc⟩
 | cons y r ih =>
   obtain ⟨cw,e,hp⟩:=h y Aq
   obtain ⟨cws,e2,h2⟩:=ih fun z hz => h z (Al _ hz)
   refine ⟨cw :: cws,by rw [e,e2]; rfl,fun c hc => ?_⟩
   rcases Bg.mp hc with z | z
   · rw [z]; exact hp
   · exact h2 c z
def mY (K:PySem.W.Frag):Sp:=fun vs H Q _ => ∃ (a:Addr) (ns:List Int) (st mo lo:Int),vs = [.ref a,.int st,.int mo,.int lo] ∧ SqL K H a (ns.map V.int) ∧ ns.length ≤ 63 ∧ 0 ≤ st ∧ st ≤ 1000 ∧ 0 ≤ mo ∧ mo ≤ 8 ∧ 1 ≤ lo ∧ lo ≤ 7 ∧
 ∀ (r b l:Addr) (cws:List (List Nat)) (kvs:List (Key × V)) (f:Nat → Option Int) (H':Hp),Same H H' → H' r = some (.lst [.ref b,.ref l]) → H' b = some (.lst ((cws.map aY).map V.str)) → H' l = some (.dK kvs) → Lk kvs f → (∀ c,0 ≤ aL f c ∧ aL f c ≤ 1000) → kvs.length ≤ 100 → cws.length ≤ 8 → (∀ c ∈ cws,c.length ≤ 7 ∧ ∀ d ∈ c,bL d) → (cws.length:Int) ≤ mo → Q (.ref r) H'
theorem sc_l_drawn:FnScope ["_law_script", "_law_start", "_law_most", "_law_longest", "_law_cell_here", "_law_words"] ["_law_script", "_law_start", "_law_most", "_law_longest"] (aG dS):=⟨rfl,rfl,rfl,by decide +kernel,rfl,by decide +kernel,by decide +kernel⟩
theorem uB {Zy Zz:Addr} {f:Addr} {fd:FuncData} (F:Fun K "_law_drawn" "_law_drawn" dS f fd) (G:Gs K mg Zy Zz) (c_l_cell:Cal P w K mg base 1 "_law_cell" ["_law_script", "_law_k"] (kK K)) (c_l_word:Cal P w K mg base 2 "_law_word" ["_law_cell_here", "_law_spread", "_law_longest"] kR) (c_l_locker:Cal P w K mg base 2 "_law_locker" ["_law_cell_here", "_law_words"] kY):FnOk P w K mg base CX0 3 f fd ["_law_script", "_law_start", "_law_most", "_law_longest"] (mY K):=by
 refine F.ok sc_l_drawn (fun vs H Q E h => ?_) (fun cdv A outer s H vs Q E hr h => ?_)
 · obtain ⟨a,ns,st,mo,lo,rfl,_⟩:=h; rfl
 obtain ⟨a,ns,st,mo,lo,rfl,hS,h63,h0,h1,hm0,hm8,hl1,hl7,q⟩:=h
 refine ⟨_,(@aF _ _ _ _ _ (@aQ _ _ 4 _ _ _ _ sc_l_drawn.nd (by rfl) (by exact (Or.inr rfl)) (bB c_l_cell hr (by decide) rfl (aA (mv 0) (aA (mv 1) aE))) (by rfl) (by first | exact Or.inl rfl | exact Or.inr rfl)) (@aF _ _ _ _ _ (hV (i:=5) sc_l_drawn.nd rfl (Or.inl rfl) rfl (bV (jS sl_list (mv 0) (iD (aR cI (mv 1) aI)) (iD (aR cI (aR cI (mv 1) aI) (aR eW (mv 4) (aR cI (mv 2) aI)))))) (eO (N:=["_law_one", "_law_longest", "_law_cell_here"]) ["_law_script", "_law_start", "_law_most", "_law_longest", "_law_cell_here", "_law_words"] (aG dS) [none,some 3,some 4] rfl rfl rfl (fun x h => bM h) (by decide +kernel)) (by decide +kernel) rfl (by decide +kernel) (fun C s₀ H₀ ex => (aP (i:=0) (show List.Nodup (["_law_one", "_law_longest", "_law_cell_here"]:List Str) by decide +kernel) rfl (Or.inl rfl))) (fun C s₀ H₀ ex => fD) (fun C s₀ H₀ ex => (bB c_l_word hr (by decide) rfl (aA (mv 0) (aA (aR kC (mv 2) aI) (aA (mv 1) aE)))))) (@aK _ _ _ (aW (cJ (aA (mv 5) (aA (bB c_l_locker hr (by decide) rfl (aA (bB c_l_cell hr (by decide) rfl (aA (mv 0) (aA (aR cI (mv 1) aI) aE))) (aA (mv 5) aE))) aE))))))),?_⟩
 walk_at "go"
 refine ⟨a,ns,_,rfl,hS,by omega,fun n => ?_⟩
 have y0:=Dg n (show mo + 1 ≠ 0 by omega)
 have y1:=Dm n (show 0 < mo + 1 by omega)
 walk_at "go"
 refine cZ9 hS fun r1 hr1 => ?_
 obtain ⟨ms,em,_,_⟩:=aQN ns (some (st + 2)) (some (st + 2 + n % (mo + 1)))
 have hcl:=bXG (xs:=ns.map V.int) (lo:=st + 2) (d:=n % (mo + 1)) (by omega) y0
 rw [em] at hcl ⊢
 rw [Ab] at hcl
 have s1:=aD hr1 (.lst (ms.map V.int))
 have e1:rdL (upd H r1 (.lst (ms.map V.int))) r1 = some (ms.map V.int):=dA
 generalize upd H r1 (.lst (ms.map V.int)) = H1 at s1 e1 ⊢
 have hml:(ms.map V.int).length = ms.length:=Ab ..
 walk_at "go"
 refine aJI (fun y => ∃ cw:List Nat,y = .str (aY cw) ∧ (cw.length ≤ 7 ∧ ∀ d ∈ cw,bL d)) e1 (aT (by omega)) (fun i x Hc A B hx sm hA hB => ?_) (fun D Hd ys hD sd hDd hyl hys => ?_)
 · obtain ⟨c,_,rfl⟩:=uO hx
   walk_at "go"
   refine ⟨Wk.set rfl (Wk.refl _),?_⟩
   walk_at "go"
   refine ⟨c,_,lo,rfl,hl1,hl7,fun cw H2 s2 h1 h2 hL => ?_⟩
   exact hA _ _ s2 ⟨cw,rfl,by omega,hL⟩
 · obtain ⟨cws,rfl,hL⟩:=aQH hys
   rw [Ab,Ab,hml] at hyl
   have rD:=aM hDd
   walk_at "go"
   refine ⟨a,ns,_,rfl,(s1.trans sd).seq hS,by omega,fun n2 => ?_⟩
   walk_at "go"
   refine ⟨n2,D,cws,rfl,rD,by omega,hL,fun p kvs f H3 hp s3 e3 lk hf hkl => ?_⟩
   walk_at "go"
   refine ⟨by show 2 ≤ sizeLine; decide,fun r4 hr4 => ?_⟩
   have s4:=aD hr4 (.lst [.ref D,.ref p])
   exact q r4 D p cws kvs f _ ((s1.trans sd).trans (s3.trans s4)) aB (s4 _ _ (s3 _ _ hDd)) (s4 _ _ e3) lk hf hkl (by omega) hL (by omega)
theorem mC {α:Type} (d:α) (l:List α):(List.range l.length).map (fun k => l.getD k d) = l:=by
 refine List.ext_getElem (by rw [Ab,Bj]) fun i h1 h2 => ?_
 rw [Gk,List.getElem_range,Af,Aa h2]
 rfl
def cG:Nat → List (List Nat)
 | 0 => [[]]
 | n + 1 => cG n ++ (cG n).map fun l => l ++ [n]
def nQ (n m:Nat):List Nat:=(List.range (cG n).length).filter fun j => decide (((cG n).getD j []).length = m)
def cU (n m:Nat):List (List Nat):=(nQ n m).map fun j => (cG n).getD j []
def fF (L:List (List Nat)):List (List Int):=L.map fun l => l.map fun k => ((k:Nat):Int)
def okN:Bool:=(List.range 7).all fun n => (List.range 9).all fun m => zU (fF (cU n m)) && ((gH (fF (cU n m))).map fun i => (cU n m).getD i []) == bD (List.range n) m && decide ((cU n m).length < 64)
theorem cXK:okN = true:=by decide +kernel
theorem aZI {n m:Nat} (hn:n ≤ 6) (hm:m ≤ 8):zU (fF (cU n m)) = true ∧ ((gH (fF (cU n m))).map fun i => (cU n m).getD i []) = bD (List.range n) m ∧ (cU n m).length < 64:=by
 have h:=cXK
 unfold okN at h
 have h1:=Ci.mp h n (Bz.mpr (by omega))
 have h2:=Ci.mp h1 m (Bz.mpr (by omega))
 rw [Cg,Cg,beq_iff_eq,decide_eq_true_eq] at h2
 exact ⟨h2.1.1,h2.1.2,h2.2⟩
theorem oK:∀ n,(cG n).length = 2 ^ n
 | 0 => rfl
 | n + 1 => by rw [cG,Am,Ab,oK n,Nat.pow_succ]; omega
theorem oN {n:Nat} (h:n ≤ 6):(cG n).length ≤ 64:=by
 rw [oK]
 exact Nat.pow_le_pow_right (by decide) h
theorem nH:∀ {n:Nat} {l:List Nat},l ∈ cG n → l.length ≤ n
 | 0,l,h => by rw [As.mp h]; exact Ai _
 | n + 1,l,h => by
   rw [cG] at h
   rcases Bk.mp h with e | e
   · have:=nH e; omega
   · obtain ⟨l',h1,rfl⟩:=Ba.mp e
     have:=nH h1
     rw [Am]
     show _ + 1 ≤ _
     omega
theorem aXG (k:Nat) (L:List (List Nat)):(List.range L.length).map (fun j => ((L.getD j []).map fun k => V.int ((k:Nat):Int)) ++ [V.int (0 + ((k:Nat):Int))]) = (L.map fun l => l ++ [k]).map fun l => (l.map fun k => V.int ((k:Nat):Int)):=by
 rw [Ce]
 have e:=Cp (List.map ((fun l => (l.map fun k => V.int ((k:Nat):Int))) ∘ fun l:List Nat => l ++ [k])) (mC [] L)
 rw [Ce] at e
 refine Eq.trans (Cd fun j _ => ?_) e
 show _ = ((L.getD j [] ++ [k]).map fun k => V.int ((k:Nat):Int))
 rw [Aj,Int.zero_add]
 rfl
theorem bZJ {H H':Hp} {ps:List Addr} {L:List (List Nat)} (ls:Lsts H H' ps (L.map fun l => (l.map fun k => V.int ((k:Nat):Int)))) {j:Nat} (hj:j < L.length):H (ps.getD j 0) = none ∧ H' (ps.getD j 0) = some (.lst ((L.getD j []).map fun k => V.int ((k:Nat):Int))):=by
 have hl:ps.length = L.length:=by rw [ls.1,Ab]
 refine ls.2 j _ _ ?_ ?_
 · rw [Af,Aa (by omega)]
   rfl
 · rw [Ag,Af,Aa hj]
   rfl
theorem oP {α:Type} (c:Nat → Prop) [DecidablePred c] (g:Nat → α):∀ L:List Nat,L.filterMap (fun j => if c j then some (g j) else none) = (L.filter fun j => decide (c j)).map g
 | [] => rfl
 | x :: r => by
   have ih:=oP c g r
   by_cases h:c x
   · simp only [List.filterMap_cons,List.filter_cons,h,if_true,decide_true,List.map_cons,ih]
   · simp only [List.filterMap_cons,List.filter_cons,h,if_false,decide_false,ih,Bool.false_eq_true]
theorem bQN {n m j:Nat} (h:j ∈ nQ n m):j < (cG n).length:=Bz.mp (Cs.mp h).1
theorem yT (l:List Nat):(l.map fun k => ((k:Nat):Int)).map V.int = (l.map fun k => V.int ((k:Nat):Int)):=by rw [Ce]; rfl
theorem wN {H H':Hp} {ps:List Addr} {n m:Nat} (ls:Lsts H H' ps ((cG n).map fun l => (l.map fun k => V.int ((k:Nat):Int)))) {i:Nat} (hi:i < (cU n m).length):H (((nQ n m).map fun j => ps.getD j 0).getD i 0) = none ∧ H' (((nQ n m).map fun j => ps.getD j 0).getD i 0) = some (.lst (((cU n m).getD i []).map fun k => V.int ((k:Nat):Int))):=by
 have hi':i < (nQ n m).length:=by unfold cU at hi; rwa [Ab] at hi
 have e:=Aa hi'
 have r:=bZJ ls (bQN (Bx hi'))
 unfold cU
 rw [Af,Ag,e,Af (l:=(nQ n m).map fun j => (cG n).getD j []),Ag,e]
 exact r
def lV:Sp:=fun vs H Q _ => ∃ (n m:Nat),vs = [.int ((n:Nat):Int),.int ((m:Nat):Int)] ∧ n ≤ 6 ∧ m ≤ 8 ∧
 ∀ (r:Addr) (ps:List Addr) (H':Hp),H r = none → Same H H' → H' r = some (.lst (ps.map V.ref)) → Lsts H H' ps ((bD (List.range n) m).map fun l => (l.map fun k => V.int ((k:Nat):Int))) → Q (.ref r) H'
theorem sc_l_lists:FnScope ["_law_many", "_law_size", "_law_found", "_law_k"] ["_law_many", "_law_size"] (aG dH):=⟨rfl,rfl,rfl,by decide +kernel,rfl,by decide +kernel,by decide +kernel⟩
theorem uC {Zy Zz:Addr} {f:Addr} {fd:FuncData} (F:Fun K "_law_lists" "_law_lists" dH f fd) (G:Gs K mg Zy Zz)  : FnOk P w K mg base CX0 1 f fd ["_law_many", "_law_size"] lV:=by
 refine F.ok sc_l_lists (fun vs H Q E h => ?_) (fun cdv A outer s H vs Q E hr h => ?_)
 · obtain ⟨n,m,rfl,_⟩:=h; rfl
 obtain ⟨n,m,rfl,hn,hm,q⟩:=h
 refine ⟨_,(@aF _ _ _ _ _ (@aQ _ _ 2 _ _ _ _ sc_l_lists.nd (by rfl) (by exact (Or.inl rfl)) (cJ (aA (cJ aE) aE)) (by rfl) (by first | exact Or.inl rfl | exact Or.inr rfl)) (@aF _ _ _ _ _ (bZ Bc rfl (iB rfl G.b_range (aA (mv 0) aE)) (aP (i:=3) sc_l_lists.nd rfl (Or.inr rfl)) (@aK _ _ _ (@aQ _ _ 2 _ _ _ _ sc_l_lists.nd (by rfl) (by exact (Or.inl rfl)) (aR cI (mv 2) (dN rfl (bV (mv 2)) (eO (N:=["_law_some", "_law_k"]) ["_law_many", "_law_size", "_law_found", "_law_k"] (aG dH) [none,some 3] rfl rfl rfl (fun x h => bM h) (by decide +kernel)) (by decide +kernel) rfl (by decide +kernel) (fun C s₀ H₀ ex => (aP (i:=0) (show List.Nodup (["_law_some", "_law_k"]:List Str) by decide +kernel) rfl (Or.inl rfl))) (fun C s₀ H₀ ex => fD) (fun C s₀ H₀ ex => (aR cI (mv 0) (cJ (aA (mv 1) aE)))))) (by rfl) (by first | exact Or.inl rfl | exact Or.inr rfl)))) (@aK _ _ _ (aW (aN (uT (Dz (Nat.add_le_add_left (by decide) _) hr.units)) rfl G.b_sorted pM (aA (dN rfl (bV (mv 2)) (eO (N:=["_law_some", "_law_size"]) ["_law_many", "_law_size", "_law_found", "_law_k"] (aG dH) [none,some 1] rfl rfl rfl (fun x h => bM h) (by decide +kernel)) (by decide +kernel) rfl (by decide +kernel) (fun C s₀ H₀ ex => (aP (i:=0) (show List.Nodup (["_law_some", "_law_size"]:List Str) by decide +kernel) rfl (Or.inl rfl))) (fun C s₀ H₀ ex => (iP (bH aQC (aN eJ rfl G.b_len cH (aA (mv 0) aE)) (mv 1) (bS _)))) (fun C s₀ H₀ ex => (mv 0))) aE)))))),?_⟩
 walk_at "go"
 refine ⟨by decide,fun p hp => ?_⟩
 have s1:=aD hp (.lst [])
 have e1:(upd H p (.lst [])) p = some (.lst ((([]:List Nat)).map fun k => V.int ((k:Nat):Int))):=aB
 generalize upd H p (.lst []) = H1 at s1 e1 ⊢
 walk_at "go"
 refine ⟨by show 1 ≤ sizeLine; decide,fun r hr => ?_⟩
 have s2:=aD hr (.lst [.ref p])
 have e2:(upd H1 r (.lst [.ref p])) r = some (.lst ([p].map V.ref)):=aB
 have ls2:Lsts H (upd H1 r (.lst [.ref p])) [p] ((cG 0).map fun l => (l.map fun k => V.int ((k:Nat):Int))):=Lsts.snoc (ps:=[]) (fs:=[]) .nil hp (s2 _ _ e1)
 generalize upd H1 r (.lst [.ref p]) = H2 at s2 e2 ls2 ⊢
 walk_at "go"
 refine ⟨⟨by omega,by omega⟩,?_⟩
 rw [show ((n:Nat):Int).toNat = n from Dc _]
 refine gK (fun i σ H' => ∃ (r:Addr) (ps:List Addr) (v3:Option V),σ = [some (.int ((n:Nat):Int)),some (.int ((m:Nat):Int)),some (.ref r),v3] ∧ Same H H' ∧ H r = none ∧ H' r = some (.lst (ps.map V.ref)) ∧ Lsts H H' ps ((cG i).map fun l => (l.map fun k => V.int ((k:Nat):Int))))
   ⟨r,[p],_,rfl,s1.trans s2,none_of s1 hr,e2,ls2⟩ ?_ ?_
 · rintro i σ H3 hi ⟨r3,ps,v3,rfl,s3,hr3,e3,ls⟩
   replace hi:i < n:=hi
   have hsl:=oN (n:=i) (by omega)
   have hpl:ps.length = (cG i).length:=by rw [ls.1,Ab]
   have r3':=aM e3
   walk_at "go"
   refine wI (fun j => (((cG i).getD j []).map fun k => V.int ((k:Nat):Int)) ++ [V.int (0 + ((i:Nat):Int))]) r3' (aT (by rw [Ab]; omega)) (fun j x Hc A B hx sm hA => ?_) (fun D Hd us hD sd eD hul lu nu => ?_)
   · obtain ⟨u,eu,rfl⟩:=cZ hx
     have hj:j < (cG i).length:=by rw [← hpl]; exact (Ad.mp eu).1
     obtain ⟨l,el⟩:∃ l,(cG i)[j]? = some l:=⟨_,Aa hj⟩
     have hu:=sm _ _ (ls.2 j u (l.map fun k => V.int ((k:Nat):Int)) eu (by rw [Ag,el]; rfl)).2
     have hll:=nH (Ak el)
     have hgl:(cG i).getD j [] = l:=by rw [Af,el]; rfl
     rw [hgl] at hA
     walk_at "go"
     refine ⟨Wk.set rfl (Wk.refl _),?_⟩
     walk_at "go"
     refine ⟨by show 1 ≤ sizeLine; decide,fun p6 hp6 => ?_⟩
     have s6:=aD hp6 (.lst [V.int (0 + ((i:Nat):Int))])
     have e6:(upd Hc p6 (.lst [V.int (0 + ((i:Nat):Int))])) p6 = some (.lst [V.int (0 + ((i:Nat):Int))]):=aB
     have hu6:=s6 _ _ hu
     generalize upd Hc p6 (.lst [V.int (0 + ((i:Nat):Int))]) = H6 at s6 e6 hu6 ⊢
     refine mN (bP hu6) (bP e6) (bX (by rw [Ab]; show _ + 1 ≤ _; omega)) fun p7 hp7 => ?_
     exact hA p7 _ (none_of s6 hp7) (s6.trans (aD hp7 _)) aB
   · rw [Ab,hpl,aXG] at lu
     rw [Ab] at hul
     have s3d:=s3.trans sd
     refine mN (bP (sd _ _ e3)) (bP eD) (bX (by rw [Ab,Ab]; omega)) fun r4 hr4 => ?_
     have s4:=aD hr4 (.lst (ps.map V.ref ++ us.map V.ref))
     walk_at "go"
     refine ⟨r4,ps ++ us,_,rfl,s3d.trans s4,none_of s3d hr4,by rw [Aj]; exact aB,?_⟩
     rw [cG,Aj]
     exact ((ls.keep sd).app (lu.older s3)).keep s4
 · rintro σ H3 ⟨r3,ps,v3,rfl,s3,hr3,e3,ls⟩
   have hsl:=oN hn
   have hpl:ps.length = (cG n).length:=by rw [ls.1,Ab]
   obtain ⟨ok1,ok2,ok3⟩:=aZI hn hm
   have r3':=aM e3
   walk_at "go"
   refine lY (fun j => if ((cG n).getD j []).length = m then some (V.ref (ps.getD j 0)) else none) r3' (aT (by rw [Ab]; omega)) (fun j x Hc A B hx sm hA hB => ?_) (fun D Hd hD sd eD => ?_)
   · obtain ⟨u,eu,rfl⟩:=cZ hx
     have hj:j < (cG n).length:=by rw [← hpl]; exact (Ad.mp eu).1
     have hu:=aM (sm _ _ (bZJ ls hj).2)
     rw [show ps.getD j 0 = u by rw [Af,eu]; rfl] at hu hA hB
     walk_at "go"
     refine ⟨Wk.set rfl (Wk.refl _),?_⟩
     walk_at "go"
     rw [Ab]
     by_cases hlm:((cG n).getD j []).length = m
     · rw [show decide (((((cG n).getD j []).length:Nat):Int) = ((m:Nat):Int)) = true from Ap (by omega)]
       walk_at "go"
       exact hA _ (if_pos hlm) _ (Same.refl _)
     · rw [show decide (((((cG n).getD j []).length:Nat):Int) = ((m:Nat):Int)) = false from Av (by omega)]
       walk_at "go"
       exact hB (if_neg hlm) _ (Same.refl _)
   · rw [Ab,hpl,oP] at eD
     have eD2:Hd D = some (.lst (((nQ n m).map fun j => ps.getD j 0).map V.ref)):=by
       rw [Ce]
       exact eD
     have hql:((nQ n m).map fun j => ps.getD j 0).length = (fF (cU n m)).length:=by unfold fF cU; rw [Ab,Ab,Ab]
     have hcl:(fF (cU n m)).length = (cU n m).length:=Ab ..
     refine tY (ks:=fF (cU n m)) (aM eD2) hql (fun i p k hp hk => ?_) (by omega) ok1 fun r5 hr5 => ?_
     · have hi:i < (cU n m).length:=by rw [← hcl]; exact (Ad.mp hk).1
       have h1:=sd _ _ (wN ls hi).2
       rw [Af,hp] at h1
       unfold fF at hk
       rw [Ag,Aa hi] at hk
       cases hk
       rw [yT]
       rw [Af,Aa hi] at h1
       exact aM h1
     · have s5:=aD hr5 (.lst ((gH (fF (cU n m))).map fun i => V.ref (((nQ n m).map fun j => ps.getD j 0).getD i 0)))
       refine q r5 ((gH (fF (cU n m))).map fun i => ((nQ n m).map fun j => ps.getD j 0).getD i 0) _ (none_of (s3.trans sd) hr5) (s3.trans (sd.trans s5)) (by rw [Ce]; exact aB) ?_
       rw [← ok2,Ce]
       have hord:∀ i ∈ gH (fF (cU n m)),i < (cU n m).length:=fun i hi => by
         have o:=ok1
         unfold zU at o
         rw [Cg,Cg] at o
         rw [← hcl]
         exact Cb (Ci.mp o.1.2 i hi)
       refine ⟨by rw [Ab,Ab],fun t p g hp hg => ?_⟩
       rw [Ag] at hp hg
       cases eo:(gH (fF (cU n m)))[t]? with
       | none => rw [eo] at hp; cases hp
       | some i =>
         rw [eo] at hp hg
         cases hp
         cases hg
         have r:=wN ls (hord i (Ak eo))
         exact ⟨r.1,(sd.trans s5) _ _ r.2⟩
def jF:Sp:=fun vs H Q _ => ∃ (cw:List Nat) (k:Nat) (p:Int),vs = [.str (aY cw),.int p] ∧ p = (k:Int) + 1 ∧ k < cw.length ∧ cw.length ≤ 7 ∧
 ∀ (r:Addr) (H':Hp),H r = none → Same H H' → H' r = some (.lst (((chs cw k).map one).map V.str)) → Q (.ref r) H'
theorem sc_l_choices:FnScope ["_law_word_here", "_law_place", "_law_found", "_law_n"] ["_law_word_here", "_law_place"] (aG dI):=⟨rfl,rfl,rfl,by decide +kernel,rfl,by decide +kernel,by decide +kernel⟩
theorem pR {Zy Zz:Addr} {f:Addr} {fd:FuncData} (F:Fun K "_law_choices" "_law_choices" dI f fd) (G:Gs K mg Zy Zz)  : FnOk P w K mg base CX0 1 f fd ["_law_word_here", "_law_place"] jF:=by
 refine F.ok sc_l_choices (fun vs H Q E h => ?_) (fun cdv A outer s H vs Q E hr h => ?_)
 · obtain ⟨cw,k,p,rfl,_⟩:=h; rfl
 obtain ⟨cw,k,pl,rfl,hpl,hk,h7,q⟩:=h
 refine ⟨_,(@aF _ _ _ _ _ (@aQ _ _ 2 _ _ _ _ sc_l_choices.nd (by rfl) (by exact (Or.inl rfl)) (cJ (aA (bC cA (mv 0) (aR iL (mv 1) aI) (fun _ _ => rfl)) aE)) (by rfl) (by first | exact Or.inl rfl | exact Or.inr rfl)) (@aF _ _ _ _ _ (bZ Bc rfl (pJ rfl G.b_range (aA aI (aA (aN (bZZ rfl) rfl G.b_min aJT (aA (mv 1) (aA aI aE))) aE))) (aP (i:=3) sc_l_choices.nd rfl (Or.inl rfl)) (@aK _ _ _ (dM (bH aQC (bC cA (mv 0) (aR iL (mv 3) aI) (fun _ _ => rfl)) (bC cA (mv 0) (aR iL (mv 1) aI) (fun _ _ => rfl)) (bS _)) (@aK _ _ _ (cW (eX Bp Eg Eh vT (mv 2) (aA (bC cA iS (aR iL (mv 3) aI) (fun _ _ => rfl)) aE)))) bQ))) (@aK _ _ _ (aW (mv 2))))),?_⟩
 have hwl:(aY cw).length = cw.length:=fE cw
 walk_at "go"
 refine jK (by rw [hwl]; exact bX (by omega)) (jE (k:=k) (by omega) hk) ?_
 walk_at "go"
 refine ⟨by show 1 ≤ sizeLine; decide,fun p hp => ?_⟩
 walk_at "go"
 have em:(if (5:Int) < pl then 5 else pl) = 1 + ((min k 4:Nat):Int):=by split <;> omega
 rw [em]
 refine ⟨⟨by omega,by omega,by omega,by omega⟩,?_⟩
 rw [show (1 + ((min k 4:Nat):Int) - 1).toNat = min k 4 by omega]
 refine gK (fun i σ H' => ∃ v,σ = [some (.str (aY cw)),some (.int pl),some (.ref p),v] ∧ Same H H' ∧ H' p = some (.lst (((cw.getD k 0 :: (List.range i).filterMap (chF cw k)).map one).map V.str)))
   ⟨none,rfl,aD hp _,aB⟩ ?_ ?_
 · rintro i σ H' hi ⟨v,rfl,sm,hH⟩
   have hi2:i < min k 4:=hi
   have hm:=bP hH
   have hlen:((((cw.getD k 0 :: (List.range i).filterMap (chF cw k)).map one).map V.str)).length < sizeLine:=by
     have:=Do (chF cw k) (List.range i)
     rw [Bj] at this
     rw [Ab,Ab,Bn]
     exact aT (by omega)
   walk_at "go"
   refine jK (by rw [hwl]; exact bX (by omega)) (jE (k:=i) (by omega) (by omega)) ?_
   walk_at "go"
   refine jK (by rw [hwl]; exact bX (by omega)) (jE (k:=k) (by omega) hk) ?_
   walk_at "go"
   rw [show decide (({ cps:=#[cw.getD i 0] }:Str) = { cps:=#[cw.getD k 0] }) = decide (cw.getD i 0 = cw.getD k 0) from pY _ _]
   refine lJ (fun hc => ?_) (fun hc => ?_)
   · have he:=Cb hc
     walk_at "go"
     refine jK (by decide) (by rw [show 1 + (i:Int) - 1 = (i:Int) by omega]; exact xE (k:=i) (by omega)) ?_
     walk_at "go"
     refine ⟨_,rfl,bA hp sm,?_⟩
     rw [aB,nN (F:=chF cw k) (if_pos he),← List.cons_append,Aj,Aj]
     rfl
   · have he:=Ec (Dq.mpr hc)
     walk_at "go"
     refine ⟨_,rfl,sm,?_⟩
     rw [hH,nM (F:=chF cw k) (if_neg he)]
 · rintro σ H' ⟨v,rfl,sm,hH⟩
   walk_at "go"
   exact q p H' hp sm hH
theorem sR {kvs:List (List Key × V)} {k:List Key} (h:¬ k ∈ kvs.map (·.1)):bJ kvs k = none:=by
 unfold bJ
 have e:kvs.find? (fun x => decide (x.1 = k)) = none:=List.find?_eq_none.mpr fun x hx => by
   rw [Bh]
   intro e
   exact h (Ba.mpr ⟨x,hx,e⟩)
 rw [e]
 rfl
def gM:Sp:=fun vs H Q _ => ∃ (a b l1 l2:Addr) (kvs:List (Key × V)) (f:Nat → Option Int) (cws:List (List Nat)) (rs:List Addr) (W:List Wt) (F:List Nat),vs = [.ref a,.ref b,.ref l1,.ref l2] ∧ H a = some (.dK kvs) ∧ Lk kvs f ∧ (∀ c,0 ≤ aL f c ∧ aL f c ≤ 100000) ∧ rdL H b = some ((cws.map aY).map V.str) ∧ cws.length ≤ 8 ∧ (∀ c ∈ cws,c.length ≤ 7) ∧
 H l1 = some (.lst (rs.map V.ref)) ∧ WtsAt H rs W ∧ H l2 = some (.lst ((F.map one).map V.str)) ∧ LackOk cws (aL f) W F ∧ ∀ H',Same H H' → Q (.bl true) H'
theorem sc_l_are_short:FnScope ["_law_locker_here", "_law_words", "_law_wants", "_law_flags", "_law_known", "_law_number", "_law_place", "_law_flag"] ["_law_locker_here", "_law_words", "_law_wants", "_law_flags"] (aG cC):=⟨rfl,rfl,rfl,by decide +kernel,rfl,by decide +kernel,by decide +kernel⟩
theorem lZ {Zy Zz:Addr} {f:Addr} {fd:FuncData} (F:Fun K "_law_are_short" "_law_are_short" cC f fd) (G:Gs K mg Zy Zz) (c_l_choices:Cal P w K mg base 1 "_law_choices" ["_law_word_here", "_law_place"] jF):FnOk P w K mg base CX0 2 f fd ["_law_locker_here", "_law_words", "_law_wants", "_law_flags"] gM:=by
 refine F.ok sc_l_are_short (fun vs H Q E h => ?_) (fun cdv A outer s H vs Q E hr h => ?_)
 · obtain ⟨a,b,l1,l2,kvs,f,cws,rs,W,F,rfl,_⟩:=h; rfl
 obtain ⟨a,b,l1,l2,kvs,f,cws,rs,W,F,rfl,ha,lk,hf,hb,h8,h7,el1,hwt,el2,hlo,q⟩:=h
 refine ⟨_,(@aF _ _ _ _ _ (@aQ _ _ 4 _ _ _ _ sc_l_are_short.nd (by rfl) (by exact (Or.inl rfl)) mQ (by rfl) (by first | exact Or.inl rfl | exact Or.inr rfl)) (@aF _ _ _ _ _ (bZ Bc rfl (bV (mv 2)) (hU (K:=K) (i:=5) (j:=6) (by rfl) (by rfl) sc_l_are_short.nd (by rfl) (by exact (Or.inl rfl)) (by exact Or.inl rfl) (by rfl) (by exact (Or.inl rfl)) (by exact Or.inl rfl)) (@aF _ _ _ _ _ (dM (PW.pt (fZ (bH (bJA (Room.u1 hr)) (fR (aA (mv 5) (aA (mv 6) aE))) (mv 4) (by rfl)) (fZ (bH sG (mv 5) (aZ qN rfl G.b_range jQ (aA (aN eJ rfl G.b_len cH (aA (mv 1) aE)) aE)) (by rfl)) (iO (bH sG (mv 6) (aZ qN rfl G.b_range jQ (aA aI (aA (aR cI (aN eJ rfl G.b_len cH (aA (bC cA (mv 1) (mv 5) (fun _ _ => rfl)) aE)) aI) aE))) (by rfl)))))) (@aK _ _ _ (aW fG)) bQ) (@aF _ _ _ _ _ (eG (Room.u1 hr) (mv 4) (fR (aA (mv 5) (aA (mv 6) aE))) fG rfl) (@aK _ _ _ (bZ Bc rfl (bV (bB c_l_choices hr (by decide) rfl (aA (bC cA (mv 1) (mv 5) (fun _ _ => rfl)) (aA (mv 6) aE)))) (aP (i:=7) sc_l_are_short.nd rfl (Or.inl rfl)) (@aK _ _ _ (dM (bH rA (mv 7) (mv 3) (by rfl)) (@aK _ _ _ (aW fG)) bQ))))))) (@aF _ _ _ _ _ (dM (bH bQE (aN aZ3 rfl G.b_len cH (aA (aZ (cX0 rfl) rfl G.b_set (by decide +kernel) (aA (mv 3) aE)) aE)) (aN eJ rfl G.b_len cH (aA (mv 3) aE)) (bS _)) (@aK _ _ _ (aW fG)) bQ) (@aK _ _ _ (aW (qS cXB (aN eJ rfl G.b_len cH (aA (mv 2) aE)) (aN (cX9 rfl) rfl G.b_sum cQK (aA (dN rfl (bV (mv 3)) (eO (N:=["_law_flag", "_law_locker_here"]) ["_law_locker_here", "_law_words", "_law_wants", "_law_flags", "_law_known", "_law_number", "_law_place", "_law_flag"] (aG cC) [none,some 0] rfl rfl rfl (fun x h => bM h) (by decide +kernel)) (by decide +kernel) rfl (by decide +kernel) (fun C s₀ H₀ ex => (aP (i:=0) (show List.Nodup (["_law_flag", "_law_locker_here"]:List Str) by decide +kernel) rfl (Or.inl rfl))) (fun C s₀ H₀ ex => fD) (fun C s₀ H₀ ex => (fK Bs Di (wX (Room.u1 hr)) (mv 1) (aA (mv 0) (aA aI aE))))) aE)) (bS _))))))),?_⟩
 have hll:((cws.map aY).map V.str).length = cws.length:=by rw [Ab,Ab]
 have hrl:(rs.map V.ref).length = W.length:=by rw [Ab,hwt.1]
 have ndF:=xI hlo
 have ndW:W.Nodup:=hlo.sub.nodup (jA cws cws.length)
 have hW56:W.length ≤ 56:=Ax hlo.sub.length_le (Ax (jH h7 _) (by omega))
 have hF27:F.length ≤ 27:=by
   obtain ⟨p,e⟩:=hlo.flags
   rw [e]
   exact Ax (List.length_filter_le _ _) (by decide)
 have r1:=aM el1
 walk_at "go"
 intro pk hpk
 have s1:=aD hpk (.dT [])
 have e1:(upd H pk (.dT [])) pk = some (.dT []):=aB
 generalize upd H pk (.dT []) = H1 at s1 e1 ⊢
 have r11:=aH s1 r1
 walk_at "go"
 refine eF (xs:=rs.map V.ref) (fun i σ H' => ∃ (kvt:List (List Key × V)) (v5 v6 v7:Option V),σ = [some (.ref a),some (.ref b),some (.ref l1),some (.ref l2),some (.ref pk),v5,v6,v7] ∧ Same H H' ∧ H' pk = some (.dT kvt) ∧ kvt.map (·.1) = (W.take i).map bU)
   ⟨[],_,_,_,rfl,s1,e1,rfl⟩ (fun i σ H' _ ⟨_,_,_,_,_,e,_⟩ => aH e r1) ?_ ?_
 · rintro i x σ H2 hx ⟨kvt,v5,v6,v7,rfl,s2,e2,hkt⟩
   have hi:i < W.length:=by have:=(Ad.mp hx).1; rw [hrl] at this; exact this
   have ew:W[i]? = some W[i]:=Aa hi
   rw [Ag] at hx
   cases ep:rs[i]? with
   | none => rw [ep] at hx; cases hx
   | some p =>
     rw [ep] at hx
     cases hx
     have htp:=s2 _ _ (hwt.2 i p W[i] ep ew)
     have hwm:=Ak ew
     have hnew:bU W[i] ∉ kvt.map (·.1):=fun z => by
       rw [hkt] at z
       obtain ⟨u,hu,eu⟩:=Ba.mp z
       rw [gI eu] at hu
       obtain ⟨j,hj⟩:=List.mem_iff_getElem?.mp hu
       rw [List.getElem?_take] at hj
       split at hj
       · rename_i hji
         have:=(List.getElem?_inj (by omega) ndW).mp (hj.trans ew.symm)
         omega
       · cases hj
     have hkl:kvt.length = i:=by
       have:=Cp List.length hkt
       rw [Ab,Ab,Bl] at this
       omega
     obtain ⟨hw1,hw2,hw3⟩:=wlP_mem.mp (hlo.sub.subset hwm)
     have htk:(W.take (i + 1)).map bU = (W.take i).map bU ++ [bU W[i]]:=by rw [Bb,ew,Aj]; rfl
     have hall:=hlo.all W[i] hwm
     generalize W[i] = w at htp hnew hw1 hw2 hw3 htk hall hwm
     obtain ⟨wn,wp⟩:=w
     have hw1:wn < cws.length:=hw1
     have hw2:1 ≤ wp:=hw2
     have hw3:wp ≤ (cws.getD wn []).length:=hw3
     have hall:∀ c ∈ chs (cws.getD wn []) (wp - 1),c ∈ F:=hall
     have hcl:(aY (cws.getD wn [])).length = (cws.getD wn []).length:=fE _
     have hc7:(cws.getD wn []).length ≤ 7:=by
       rw [Af,Aa hw1]
       exact h7 _ (Bx hw1)
     have htp:H2 p = some (.tup [.int (wn:Int),.int (wp:Int)]):=htp
     have tt:=eE htp
     walk_at "go"
     refine ⟨by show 2 ≤ sizeLine; decide,fun t ht => ?_⟩
     have s3:=aD ht (HO.tup [V.int (wn:Int),V.int (wp:Int)])
     have t3:(upd H2 t (HO.tup [V.int (wn:Int),V.int (wp:Int)])) t = some (HO.tup ((bU (wn,wp)).map kV)):=aB
     have e3:=s3 _ _ e2
     generalize upd H2 t (HO.tup [V.int (wn:Int),V.int (wp:Int)]) = H3 at s3 t3 e3 ⊢
     refine cQZ (neg:=false) (k:=bU (wn,wp)) (.inl e3) t3 ?_
     rw [sR hnew,show (if false = true then !(none:Option V).isSome else (none:Option V).isSome) = false from rfl]
     have s03:=s2.trans s3
     have rb3:=aH s03 hb
     walk_at "go"
     rw [hll]
     refine pQ fun r4 hr4 => ?_
     have s4:=aD hr4 (HO.rng 0 ((cws.length:Nat):Int))
     have g4:(upd H3 r4 (HO.rng 0 ((cws.length:Nat):Int))) r4 = some (HO.rng 0 ((cws.length:Nat):Int)):=aB
     have e4:=s4 _ _ e3
     generalize upd H3 r4 (HO.rng 0 ((cws.length:Nat):Int)) = H4 at s4 g4 e4 ⊢
     refine rF g4 ?_
     rw [Ap (show (0:Int) ≤ (wn:Int) ∧ (wn:Int) < ((cws.length:Nat):Int) from ⟨by omega,by omega⟩)]
     have s04:=s03.trans s4
     have rb4:=aH s04 hb
     walk_at "go"
     refine dR rb4 (mK hw1) ?_
     walk_at "go"
     rw [hcl]
     refine bX5 fun r5 hr5 => ?_
     have s5:=aD hr5 (HO.rng 1 (((cws.getD wn []).length:Int) + 1))
     have g5:(upd H4 r5 (HO.rng 1 (((cws.getD wn []).length:Int) + 1))) r5 = some (HO.rng 1 (((cws.getD wn []).length:Int) + 1)):=aB
     have e5:=s5 _ _ e4
     generalize upd H4 r5 (HO.rng 1 (((cws.getD wn []).length:Int) + 1)) = H5 at s5 g5 e5 ⊢
     refine rF g5 ?_
     rw [Ap (show (1:Int) ≤ (wp:Int) ∧ (wp:Int) < ((cws.getD wn []).length:Int) + 1 from ⟨by omega,by omega⟩)]
     have s05:=s04.trans s5
     walk_at "go"
     refine ⟨by show 2 ≤ sizeLine; decide,fun t2 ht2 => ?_⟩
     have s6:=aD ht2 (HO.tup [V.int (wn:Int),V.int (wp:Int)])
     have t6:(upd H5 t2 (HO.tup [V.int (wn:Int),V.int (wp:Int)])) t2 = some (HO.tup ((bU (wn,wp)).map kV)):=aB
     have e6:=s6 _ _ e5
     generalize upd H5 t2 (HO.tup [V.int (wn:Int),V.int (wp:Int)]) = H6 at s6 t6 e6 ⊢
     refine lM (k:=bU (wn,wp)) e6 t6 (aT (by omega)) ?_
     rw [fM _ (sR hnew)]
     have s07:Same H (upd H6 pk (.dT (kvt ++ [(bU (wn,wp),V.bl true)]))):=bA hpk (s05.trans s6)
     have e7:(upd H6 pk (.dT (kvt ++ [(bU (wn,wp),V.bl true)]))) pk = some (.dT (kvt ++ [(bU (wn,wp),V.bl true)])):=aB
     generalize upd H6 pk (.dT (kvt ++ [(bU (wn,wp),V.bl true)])) = H7 at s07 e7 ⊢
     have rb7:=aH s07 hb
     walk_at "go"
     refine dR rb7 (mK hw1) ?_
     walk_at "go"
     refine ⟨cws.getD wn [],wp - 1,_,rfl,by omega,by omega,hc7,fun rc H8 hrc s8 er8 => ?_⟩
     have rc8:=aM er8
     walk_at "go"
     refine eF (xs:=((chs (cws.getD wn []) (wp - 1)).map one).map V.str) (fun u σ H' => ∃ (v7:Option V),σ = [some (.ref a),some (.ref b),some (.ref l1),some (.ref l2),some (.ref pk),some (.int (wn:Int)),some (.int (wp:Int)),v7] ∧ Same H7 H' ∧ H' rc = some (.lst (((chs (cws.getD wn []) (wp - 1)).map one).map V.str)))
       ⟨_,rfl,s8,er8⟩ (fun u σ H' _ ⟨_,_,_,e⟩ => aM e) ?_ ?_
     · rintro u x σ H9 hx ⟨v7,rfl,s9,er9⟩
       obtain ⟨d,hdm,rfl⟩:∃ d,d ∈ chs (cws.getD wn []) (wp - 1) ∧ x = .str (one d):=by
         rw [Ag,Ag] at hx
         cases e:(chs (cws.getD wn []) (wp - 1))[u]? with
         | none => rw [e] at hx; cases hx
         | some d => rw [e] at hx; cases hx; exact ⟨d,Ak e,rfl⟩
       have r9:=aH (s07.trans s9) (aM el2)
       walk_at "go"
       refine aQ0 (neg:=true) r9 rfl (cQ _) ?_
       rw [sZ,Ap (hall d hdm),show (if true = true then !true else true) = false from rfl]
       walk_at "go"
       exact ⟨_,rfl,s9,er9⟩
     · rintro σ H9 ⟨v7,rfl,s9,er9⟩
       walk_at "go"
       exact ⟨kvt ++ [(bU (wn,wp),V.bl true)],_,_,_,rfl,s07.trans s9,s9 _ _ e7,by rw [Aj,hkt,htk]; rfl⟩
 · rintro σ H2 ⟨kvt,v5,v6,v7,rfl,s2,e2,hkt⟩
   have r2:=aM (s2 _ _ el2)
   have r12:=aM (s2 _ _ el1)
   have hFl:((F.map one).map V.str).length = F.length:=by rw [Ab,Ab]
   walk_at "go"
   refine bJ7 (zs:=F.map one) r2 (by rw [Ab]; omega) fun rt hrt => ?_
   have hdn:oX (F.map one) = F.length:=by
     rw [sF,Ab]
     exact List.pairwise_map.mpr (ndF.imp fun h e => h (one_inj.mp e))
   rw [hdn]
   have s3:=s2.trans (aD hrt (mH rt F.length))
   have r23:=aH (aD hrt (mH rt F.length)) r2
   have r13:=aH (aD hrt (mH rt F.length)) r12
   have es:(upd H2 rt (mH rt F.length)) rt = some (mH rt F.length):=aB
   generalize upd H2 rt (mH rt F.length) = H3 at s3 r23 r13 es ⊢
   walk_at "go"
   refine aZV es (by omega) ?_
   walk_at "go"
   rw [hFl,Ap rfl]
   walk_at "go"
   refine lY (xs:=(F.map one).map V.str) (fun j => (F[j]?).map fun c => V.int (aL f c)) r23 (by rw [hFl]; exact aT (by omega)) (fun j x Hc A B hx sm hA hB => ?_) (fun D Hd hD sd hr => ?_)
   · obtain ⟨d,hd,rfl⟩:∃ d,F[j]? = some d ∧ x = .str (one d):=by
       rw [Ag,Ag] at hx
       cases e:F[j]? with
       | none => rw [e] at hx; cases hx
       | some d => rw [e] at hx; cases hx; exact ⟨d,rfl,rfl⟩
     have r:=hA (.int (aL f d)) (by rw [hd]; rfl)
     have hac:=sm _ _ (s3 _ _ ha)
     walk_at "go"
     refine ⟨Wk.set rfl (Wk.refl _),?_⟩
     walk_at "go"
     refine xG (z:=one d) (.inl hac) ?_
     rw [lk.val d,lO]
     exact r _ (Same.refl _)
   · have efm:(List.range ((F.map one).map V.str).length).filterMap (fun j => (F[j]?).map fun c => V.int (aL f c)) = (F.map (aL f)).map V.int:=by
       rw [hFl,Ce]
       have h:∀ n,n ≤ F.length → (List.range n).filterMap (fun j => (F[j]?).map fun c => V.int (aL f c)) = (F.take n).map (V.int ∘ aL f):=fun n => by
         induction n with
         | zero => intro _; rfl
         | succ n ih =>
           intro hn
           have e:F[n]? = some F[n]:=Aa (by omega)
           rw [fA (y:=V.int (aL f F[n])) (by rw [e]; rfl),ih (by omega),Bb,e,Aj]
           rfl
       have r:=h F.length (Ai _)
       rw [Bo] at r
       exact r
     rw [efm] at hr
     walk_at "go"
     refine cZI (aM hr) (fun n hn => by obtain ⟨c,_,rfl⟩:=Ba.mp hn; have:=hf c; omega) (by rw [Ab]; omega) ?_
     walk_at "go"
     rw [hrl,Ap (show ((W.length:Nat):Int) > (F.map (aL f)).sum from hlo.few)]
     exact q _ (s3.trans sd)
theorem vR (cws:List (List Nat)):∀ i,(wlP cws i).Pairwise fun a b => aJ7 ((a.1:Int),(a.2:Int)) ((b.1:Int),(b.2:Int))
 | 0 => List.Pairwise.nil
 | i + 1 => by
   rw [jY]
   refine List.pairwise_append.mpr ⟨vR cws i,?_,fun a ha b hb => ?_⟩
   · unfold gB
     refine List.Pairwise.map _ (fun a b h => ?_) List.pairwise_lt_range
     exact .inr ⟨rfl,by show ((1 + a:Nat):Int) < ((1 + b:Nat):Int); omega⟩
   · have h1:=(wlP_mem.mp ha).1
     unfold gB at hb
     obtain ⟨j,_,rfl⟩:=Ba.mp hb
     exact .inl (by show (a.1:Int) < (i:Int); omega)
theorem rX {F:List Nat} {p:Nat → Bool} (e:F = flagsT.cps.toList.filter p):flagsT.cps.toList.filter (fun c => decide (c ∈ F)) = F:=by
 have h:flagsT.cps.toList.filter (fun c => decide (c ∈ F)) = flagsT.cps.toList.filter p:=by
   refine List.filter_congr fun c hc => ?_
   have hm:c ∈ F ↔ p c = true:=by rw [e,Cs]; exact ⟨fun z => z.2,fun z => ⟨hc,z⟩⟩
   cases hp:p c with
   | true => exact Ap (hm.mpr hp)
   | false => exact Av fun z => by rw [hm.mp z] at hp; cases hp
 rw [h,← e]
theorem mM (F:List Nat):∀ L:List Nat,L.filterMap (fun c => if decide (c ∈ F) = true then some (V.str (one c)) else none) = ((L.filter fun c => decide (c ∈ F)).map one).map V.str
 | [] => rfl
 | c :: r => by
   rw [De,Ej]
   by_cases hg:decide (c ∈ F) = true
   · rw [if_pos hg,if_pos hg,Aw,Aw,← mM F r]
   · rw [if_neg hg,if_neg hg,← mM F r]
theorem LackOk.plain {cws:List (List Nat)} {f:Nat → Option Int} {W:List Wt} {F:List Nat} (hf0:∀ c,0 ≤ aL f c) (h:LackOk cws (aL (aX (aL f))) W F):LackOk cws (aL f) W F:=by
 refine ⟨h.sub,h.flags,h.all,?_⟩
 have e:F.map (aL f) = F.map (aL (aX (aL f))):=Cd fun c hc => by
   obtain ⟨p,hp⟩:=h.flags
   rw [hp] at hc
   exact (yD (flags_mem.mp (Cs.mp hc).1) (hf0 c)).symm
 rw [e]
 exact h.few
theorem bJ8 {f:Nat → List Wt} {a b:List Nat} (h:a.Sublist b):(a.flatMap f).Sublist (b.flatMap f):=by
 induction h with
 | slnil => exact List.Sublist.refl _
 | cons x _ ih => rw [Dr]; exact ih.trans (List.sublist_append_right _ _)
 | cons_cons x _ ih => rw [Dr,Dr]; exact List.Sublist.append (List.Sublist.refl _) ih
theorem aJE {cws:List (List Nat)} {ks:List Nat} {i:Nat} (h:i < ks.length):(sel cws ks).getD i [] = cws.getD (ks.getD i 0) []:=by
 unfold sel
 rw [Af,Ag,Aa h,Af (l:=ks),Aa h]
 rfl
theorem aXP {cws:List (List Nat)} {ks:List Nat}:∀ i,i ≤ ks.length → (wlP (sel cws ks) i).map (fun w => (ks.getD w.1 0,w.2)) = (ks.take i).flatMap (gB cws)
 | 0,_ => rfl
 | i + 1,h => by
   have e:ks[i]? = some ks[i]:=Aa (by omega)
   rw [jY,Aj,aXP i (by omega),Bb,e,Fi]
   refine Cp _ ?_
   show (gB (sel cws ks) i).map _ = gB cws ks[i] ++ []
   have e2:ks.getD i 0 = ks[i]:=by rw [Af,e]; rfl
   unfold gB
   rw [Bw,Ce,aJE (by omega),e2]
   refine Cd fun j _ => ?_
   show (ks.getD i 0,1 + j) = (ks[i],1 + j)
   rw [e2]
theorem aQ8 {cws:List (List Nat)} {n:Nat → Int} {ks:List Nat} {W:List Wt} {F:List Nat} (hks:ks.Sublist (List.range cws.length)) (h:LackOk (sel cws ks) n W F):LackOk cws n (W.map fun w => (ks.getD w.1 0,w.2)) F:=by
 have hsl:(sel cws ks).length = ks.length:=Ab ..
 refine ⟨?_,h.flags,fun w hw f hf => ?_,by rw [Ab]; exact h.few⟩
 · have h1:=h.sub.map (fun w => (ks.getD w.1 0,w.2))
   unfold wl at h1
   rw [hsl,aXP _ (Ai _),Bo] at h1
   exact h1.trans (bJ8 hks)
 · obtain ⟨w0,hw0,rfl⟩:=Ba.mp hw
   have hlt:w0.1 < ks.length:=by rw [← hsl]; exact mF h hw0
   refine h.all w0 hw0 f ?_
   unfold chW at hf ⊢
   rw [aJE hlt]
   exact hf
theorem aXS {H:Hp} {Q:VK} {p:Addr} {xs:List V} (e:H p = some (.tup xs)) (h:Q (.int xs.length) H):uQ [.ref p] H Q:=by
 have e1:rdL H p = none:=by unfold rdL; rw [e]; rfl
 unfold uQ
 simp only [e1,eE e]
 exact h
theorem iA (ks:List Nat):(ks.map fun k => V.int ((k:Nat):Int)).all bF = true:=by
 rw [Ci]
 intro x hx
 obtain ⟨k,_,rfl⟩:=Ba.mp hx
 rfl
theorem bXZ (ks:List Nat):gQ (ks.map fun k => V.int ((k:Nat):Int)) (ks.map fun k => V.int ((k:Nat):Int)) = true:=by
 rw [iC rfl,Ci]
 intro j hj
 exact fJ (eQ (iA ks) j)
theorem bJS {n:Nat} {ns:List Nat}:inV (.int ((n:Nat):Int)) (ns.map fun k => V.int ((k:Nat):Int)) = decide (n ∈ ns):=by
 induction ns with
 | nil => rfl
 | cons d r ih =>
   rw [Aw]
   show (((d:Int) == (n:Int)) || inV (.int ((n:Nat):Int)) (r.map fun k => V.int ((k:Nat):Int))) = _
   rw [ih]
   by_cases h:n = d
   · subst h
     rw [Gi,Bool.true_or,Ap Aq]
   · rw [show ((d:Int) == (n:Int)) = false from Dd.mpr (by omega),Eo]
     exact Dx.mpr ⟨fun z => Al _ z,fun z => (Bg.mp z).resolve_left h⟩
def iJ:Sp:=fun vs H Q _ => ∃ (a b u nm:Addr) (kvs:List (Key × V)) (f:Nat → Option Int) (cws:List (List Nat)) (ks:List Nat) (X:Addr → Prop),vs = [.ref a,.ref b,.ref u,.ref nm] ∧ H a = some (.dK kvs) ∧ Lk kvs f ∧ (∀ c,0 ≤ aL f c ∧ aL f c ≤ 1000) ∧ rdL H b = some ((cws.map aY).map V.str) ∧ cws.length ≤ 6 ∧ (∀ c ∈ cws,c.length ≤ 7 ∧ ∀ d ∈ c,bL d) ∧ ks.Sublist (List.range cws.length) ∧ H nm = some (.lst (ks.map fun k => V.int ((k:Nat):Int))) ∧ PaperAt X H (aL (aX (aL f))) cws ks u ∧
 ∀ H',Same H H' → Q (.bl true) H'
theorem sc_l_is_paper:FnScope ["_law_locker_here", "_law_words", "_law_paper", "_law_numbers", "_law_wants", "_law_flags", "_law_want"] ["_law_locker_here", "_law_words", "_law_paper", "_law_numbers"] (aG cK):=⟨rfl,rfl,rfl,by decide +kernel,rfl,by decide +kernel,by decide +kernel⟩
theorem nV {Zy Zz:Addr} {f:Addr} {fd:FuncData} (F:Fun K "_law_is_paper" "_law_is_paper" cK f fd) (G:Gs K mg Zy Zz) (c_l_are_short:Cal P w K mg base 2 "_law_are_short" ["_law_locker_here", "_law_words", "_law_wants", "_law_flags"] gM):FnOk P w K mg base CX0 3 f fd ["_law_locker_here", "_law_words", "_law_paper", "_law_numbers"] iJ:=by
 refine F.ok sc_l_is_paper (fun vs H Q E h => ?_) (fun cdv A outer s H vs Q E hr h => ?_)
 · obtain ⟨a,b,u,nm,kvs,f,cws,ks,X,rfl,_⟩:=h; rfl
 obtain ⟨a,b,u,nm,kvs,f,cws,ks,X,rfl,ha,lk,hf,hb,h6,hL,hks,enm,⟨c,l1,l2,rs,W,F,et,ec,el1,hwt,el2,hlo,_,_,_,_⟩,q⟩:=h
 refine ⟨_,(@aF _ _ _ _ _ (dM (PW.pt (fZ (gP (cP (aN lD rfl G.b_isinstance bW (aA (mv 2) (aA (gJ rfl G.b_tuple rE) aE))))) (fZ (bH bQE (aN eJ rfl G.b_len cH (aA (mv 2) aE)) aI (bS _)) (fZ (bH (bZ1 hr.units0) (bC cA (mv 2) aI (fun _ _ => rfl)) (mv 3) (bS _)) (iO (gP (cP (aN lD rfl G.b_isinstance bW (aA (bC cA (mv 2) aI (fun _ _ => rfl)) (aA (gJ rfl G.b_list cE) aE)))))))))) (@aK _ _ _ (aW fG)) bQ) (@aF _ _ _ _ _ (uZ (jS cXX (mv 2) (iD aI) wC) (hU (K:=K) (i:=4) (j:=5) (by rfl) (by rfl) sc_l_is_paper.nd (by rfl) (by exact (Or.inl rfl)) (by exact Or.inl rfl) (by rfl) (by exact (Or.inr rfl)) (by exact Or.inl rfl))) (@aF _ _ _ _ _ (dM (PW.pt (fZ (gP (cP (aN lD rfl G.b_isinstance bW (aA (mv 4) (aA (gJ rfl G.b_list cE) aE))))) (iO (gP (cP (aN lD rfl G.b_isinstance bW (aA (mv 5) (aA (gJ rfl G.b_list cE) aE)))))))) (@aK _ _ _ (aW fG)) bQ) (@aF _ _ _ _ _ (dM (PW.pt (fZ (bH (cJJ hr.units) (mv 4) (aN (zK (Dz (Nat.add_le_add_left (by decide) _) hr.units)) rfl G.b_sorted pM (aA (mv 4) aE)) (bS _)) (iO (bH (bZ1 hr.units0) (dN rfl (mL iS) (eO (N:=["_law_flag", "_law_flags"]) ["_law_locker_here", "_law_words", "_law_paper", "_law_numbers", "_law_wants", "_law_flags", "_law_want"] (aG cK) [none,some 5] rfl rfl rfl (fun x h => bM h) (by decide +kernel)) (by decide +kernel) rfl (by decide +kernel) (fun C s₀ H₀ ex => (aP (i:=0) (show List.Nodup (["_law_flag", "_law_flags"]:List Str) by decide +kernel) rfl (Or.inl rfl))) (fun C s₀ H₀ ex => (iP (bH cZJ (mv 0) (mv 1) (by rfl)))) (fun C s₀ H₀ ex => (mv 0))) (mv 5) (bS _))))) (@aK _ _ _ (aW fG)) bQ) (@aF _ _ _ _ _ (bZ Bc rfl (bV (mv 4)) (aP (i:=6) sc_l_is_paper.nd rfl (Or.inl rfl)) (@aF _ _ _ _ _ (dM (PW.pt (fZ (gP (cP (aN lD rfl G.b_isinstance bW (aA (mv 6) (aA (gJ rfl G.b_tuple rE) aE))))) (fZ (bH bQE (aN eJ rfl G.b_len cH (aA (mv 6) aE)) aI (bS _)) (fZ (bH rA (bC cA (mv 6) aI (fun _ _ => rfl)) (mv 3) (by rfl)) (iO (cP (aN lD rfl G.b_isinstance bW (aA (bC cA (mv 6) aI (fun _ _ => rfl)) (aA (gJ rfl G.b_bool vQ) aE))))))))) (@aK _ _ _ (aW fG)) bQ) (@aK _ _ _ (dM (PW.pt (fZ (gP (cP (aN lD rfl G.b_isinstance bW (aA (bC cA (mv 6) aI (fun _ _ => rfl)) (aA (gJ rfl G.b_int uN) aE))))) (iO (cP (aN lD rfl G.b_isinstance bW (aA (bC cA (mv 6) aI (fun _ _ => rfl)) (aA (gJ rfl G.b_bool vQ) aE))))))) (@aK _ _ _ (aW fG)) bQ)))) (@aK _ _ _ (aW (bB c_l_are_short hr (by decide) rfl (aA (mv 0) (aA (mv 1) (aA (mv 4) (aA (mv 5) aE)))))))))))),?_⟩
 have hlo':=aQ8 hks hlo
 have hlk:∀ k ∈ ks,k < cws.length:=fun k hk => Bz.mp (hks.subset hk)
 have hkl:ks.length ≤ 6:=by have:=hks.length_le; rw [Bj] at this; omega
 have hm0:∀ w ∈ W.map (fun w => (ks.getD w.1 0,w.2)),w.1 ∈ ks:=fun w hw => by
   obtain ⟨w0,hw0,rfl⟩:=Ba.mp hw
   have hlt:w0.1 < ks.length:=by rw [← show (sel cws ks).length = ks.length from Ab ..]; exact mF hlo hw0
   show ks.getD w0.1 0 ∈ ks
   rw [Af,Aa hlt]
   exact Bx hlt
 generalize W.map (fun w => (ks.getD w.1 0,w.2)) = W' at hwt hlo' hm0
 have hW56:W'.length ≤ 56:=Ax hlo'.sub.length_le (Ax (jH (fun c hc => (hL c hc).1) _) (by omega))
 obtain ⟨pF,hpF⟩:=hlo.flags
 have r1:=aM el1
 have r2:=aM el2
 have rc:=aM ec
 have rn:=aM enm
 have tt:=eE et
 walk_at "go"
 refine aXS et ?_
 walk_at "go"
 rw [show decide ((([V.ref c,V.ref l1,V.ref l2]:List V).length:Int) = 3) = true from rfl]
 walk_at "go"
 refine dQ et (v:=.ref c) rfl ?_
 refine aJD rc rn (iA _) (iA _) ?_
 rw [if_pos rfl,bXZ]
 walk_at "go"
 refine dQ et (v:=.ref c) rfl ?_
 walk_at "go"
 refine ⟨u,_,rfl,SqT.of et,(by decide:¬ (HT.sIx 3 0 (some 1) = 0 ∧ HT.sIx 3 3 none = 3)),fun pt hpt => ?_⟩
 have k1:=aD hpt (.tup [.ref l1,.ref l2])
 have t1:iW (upd H pt (.tup [.ref l1,.ref l2])) pt = some [.ref l1,.ref l2]:=kE
 change bQ6 K 2 _ _ _ (upd H pt (.tup [.ref l1,.ref l2])) _
 generalize upd H pt (.tup [.ref l1,.ref l2]) = H0 at k1 t1 ⊢
 have el10:=k1 _ _ el1
 have el20:=k1 _ _ el2
 have r10:=aH k1 r1
 have r20:=aH k1 r2
 walk_at "go"
 refine yB (ks:=W'.map fun w => ((w.1:Int),(w.2:Int))) r10 (by rw [Ab,hwt.1]) (fun i p k hp hk => ?_) (by rw [hwt.1]; omega) ?_ fun p1 hp1 => ?_
 · rw [Ag] at hk
   cases ew:W'[i]? with
   | none => rw [ew] at hk; cases hk
   | some w => rw [ew] at hk; cases hk; exact k1 _ _ (hwt.2 i p w hp ew)
 · exact List.Pairwise.map _ (fun _ _ h => h) ((vR _ _).sublist hlo'.sub)
 have s1:=k1.trans (aD hp1 (.lst (rs.map V.ref)))
 refine cX7 0 (aH (aD hp1 _) r10) dA rfl (fun j x y hx hy => ?_) ?_
 · rw [hx] at hy
   cases hy
   obtain ⟨p,_,rfl⟩:=cZ hx
   exact Alx.same (.inr ⟨p,rfl⟩)
 generalize upd H0 p1 (.lst (rs.map V.ref)) = H1 at s1 ⊢
 walk_at "go"
 refine wG (fun c => if decide (c ∈ F) = true then some (.str (one c)) else none) (by decide) (fun i3 c Hc2 A' B' hc sm2 hA' => ?_) (fun D H2 hD s2 e2 => ?_)
 · have r:=hA' _ (Same.refl _)
   have r22:=aH (s1.trans sm2) r2
   walk_at "go"
   refine ⟨Wk.set rfl (Wk.refl _),?_⟩
   walk_at "go"
   refine aQ0 (neg:=false) r22 rfl (cQ _) ?_
   rw [if_neg (by decide),show inV (V.str ⟨#[c]⟩) ((F.map one).map V.str) = decide (c ∈ F) from sZ]
   refine lJ (fun hg => ?_) (fun hg => ?_)
   · rw [if_pos hg] at r
     walk_at "go"
     exact r
   · rw [if_neg hg] at r
     exact r
 rw [show (Str.ofString "abcdefghijklmnopqrstuvw1234") = flagsT from rfl,mM,rX hpF] at e2
 have s02:=s1.trans s2
 refine aJD (aM e2) (aH s02 r2) (cQ _) (cQ _) ?_
 rw [if_pos rfl,yK (cQ _)]
 have r12:=aH s02 r1
 walk_at "go"
 refine eF (xs:=rs.map V.ref) (fun i σ H' => ∃ (v6:Option V),σ = [some (.ref a),some (.ref b),some (.ref u),some (.ref nm),some (.ref l1),some (.ref l2),v6] ∧ Same H H')
   ⟨_,rfl,s02⟩ (fun i σ H' _ ⟨_,_,s⟩ => aH s r1) ?_ ?_
 · rintro i x σ H3 hx ⟨v6,rfl,s3⟩
   obtain ⟨p,ep,rfl⟩:=cZ hx
   have hi:i < W'.length:=by rw [← hwt.1]; exact (Ad.mp ep).1
   have ew:W'[i]? = some W'[i]:=Aa hi
   have htp:=s3 _ _ (hwt.2 i p _ ep ew)
   have hwm:=hm0 _ (Ak ew)
   generalize W'[i] = w at htp hwm
   obtain ⟨wn,wp⟩:=w
   have htp:H3 p = some (.tup [.int (wn:Int),.int (wp:Int)]):=htp
   have rn3:=aH s3 rn
   walk_at "go"
   refine aXS htp ?_
   walk_at "go"
   rw [show decide ((([V.int (wn:Int),V.int (wp:Int)]:List V).length:Int) = 2) = true from rfl]
   walk_at "go"
   refine dQ htp (v:=.int (wn:Int)) rfl ?_
   refine aQ0 (neg:=true) rn3 rfl (iA _) ?_
   rw [bJS,Ap (show wn ∈ ks from hwm),show (if true = true then !true else true) = false from rfl]
   walk_at "go"
   refine dQ htp (v:=.int (wn:Int)) rfl ?_
   walk_at "go"
   refine dQ htp (v:=.int (wp:Int)) rfl ?_
   walk_at "go"
   refine dQ htp (v:=.int (wp:Int)) rfl ?_
   walk_at "go"
   exact ⟨_,rfl,s3⟩
 · rintro σ H3 ⟨v6,rfl,s3⟩
   walk_at "go"
   exact ⟨a,b,l1,l2,kvs,f,cws,rs,W',F,rfl,s3 _ _ ha,lk,fun c => ⟨(hf c).1,by have:=(hf c).2; omega⟩,aH s3 hb,by omega,fun c hc => (hL c hc).1,s3 _ _ el1,⟨hwt.1,fun j p w hp hw => s3 _ _ (hwt.2 j p w hp hw)⟩,s3 _ _ el2,hlo'.plain fun c => (hf c).1,fun H4 s4 => q _ (s3.trans s4)⟩
theorem yH (xs ys:List (List Nat)):(xs.map aY).map V.str ++ (ys.map aY).map V.str = ((xs ++ ys).map aY).map V.str:=by rw [Aj,Aj]
theorem FirstOf.one {n:Nat → Int} {cws:List (List Nat)} {m:Nat} {ks ks':List Nat} (h:FirstOf n cws m ks) (h':FirstOf n cws m ks'):ks = ks':=by
 obtain ⟨j,h1,h2,h3⟩:=h
 obtain ⟨j',h1',h2',h3'⟩:=h'
 rcases Nat.lt_trichotomy j j' with l | rfl | l
 · exact absurd h2 (h3' j ks l h1)
 · rw [h1'] at h1
   exact (Bi h1).symm
 · exact absurd h2' (h3 j' ks' l h1')
theorem tQ {X Y:Addr → Prop} {H:Hp} {n:Nat → Int} {cws:List (List Nat)} {l:List Nat} {u v:Addr} (a:PaperAt X H n cws l u) (b:PaperAt Y H n cws l v):Alt H 3 (.ref u) (.ref v):=by
 obtain ⟨c,l1,l2,rs,W,F,h1,h2,h3,h4,h5,_,h7,_⟩:=a
 obtain ⟨c',l1',l2',rs',W',F',g1,g2,g3,g4,g5,_,g7,_⟩:=b
 obtain ⟨rfl,rfl⟩:=h7.one g7
 refine .tup h1 g1 rfl fun j x y hx hy => ?_
 match j,hx,hy with
 | 0,hx,hy => cases hx; cases hy; exact .lst (aM h2) (aM g2) rfl (Alt.flats (iA _))
 | 1,hx,hy =>
   cases hx
   cases hy
   refine .lst (aM h3) (aM g3) (by rw [Ab,Ab,h4.1,g4.1]) fun j x y hx hy => ?_
   obtain ⟨p,ep,rfl⟩:=cZ hx
   obtain ⟨q,eq,rfl⟩:=cZ hy
   have hj:j < (W.map fun w => (l.getD w.1 0,w.2)).length:=by rw [← h4.1]; exact (Ad.mp ep).1
   have ew:=Aa hj
   exact .tup (h4.2 j p _ ep ew) (g4.2 j q _ eq ew) rfl (Alt.flats rfl)
 | 2,hx,hy => cases hx; cases hy; exact .lst (aM h5) (aM g5) rfl (Alt.flats (cQ _))
 | j + 3,hx,_ => cases hx
def gS (H:Hp) (ts:List Addr) (p:Addr):Prop:=∃ (i:Nat) (u c l1 l2:Addr),ts[i]? = some u ∧ H u = some (.tup [.ref c,.ref l1,.ref l2]) ∧ (p = c ∨ p = l1 ∨ p = l2)
theorem PaperAt.frame {X Z:Addr → Prop} {H H':Hp} {n:Nat → Int} {cws:List (List Nat)} {l:List Nat} {t:Addr} (h:PaperAt X H n cws l t) (fr:∀ p u,¬ Z p → H p = some u → H' p = some u) (hz:∀ p,¬ X p → ¬ Z p) (ht:∀ p xs,H p = some (.tup xs) → ¬ Z p):PaperAt X H' n cws l t:=by
 obtain ⟨c,l1,l2,rs,W,F,h1,h2,h3,h4,h5,h6,h7,h8,h9,h10⟩:=h
 exact ⟨c,l1,l2,rs,W,F,fr _ _ (ht _ _ h1) h1,fr _ _ (hz _ h8) h2,fr _ _ (hz _ h9) h3,⟨h4.1,fun j p w hp hw => fr _ _ (ht _ _ (h4.2 j p w hp hw)) (h4.2 j p w hp hw)⟩,fr _ _ (hz _ h10) h5,h6,h7,h8,h9,h10⟩
def pK:Sp:=fun vs H Q _ => ∃ (a b:Addr) (kvs:List (Key × V)) (f:Nat → Option Int) (cws:List (List Nat)),vs = [.ref a,.ref b] ∧ H a = some (.dK kvs) ∧ Lk kvs f ∧ (∀ c,0 ≤ aL f c ∧ aL f c ≤ 1000) ∧ H b = some (.lst ((cws.map aY).map V.str)) ∧ cws.length ≤ 6 ∧ (∀ c ∈ cws,c.length ≤ 7 ∧ ∀ d ∈ c,bL d) ∧
 ∀ H',Same H H' → Q (.bl true) H'
theorem sc_l_good:FnScope ["_law_locker_here", "_law_words", "_law_numbers", "_law_papers", "_law_due", "_law_paper", "_law_some", "_law_kept", "_law_best"] ["_law_locker_here", "_law_words"] (aG fI):=⟨rfl,rfl,rfl,by decide +kernel,rfl,by decide +kernel,by decide +kernel⟩
theorem xR {Zy Zz:Addr} {f:Addr} {fd:FuncData} (F:Fun K "_law_good" "_law_good" fI f fd) (G:Gs K mg Zy Zz) (c_most_kept:Cal P w K mg base 11 "most_kept" ["locker", "words"] jJ) (c_l_lists:Cal P w K mg base 1 "_law_lists" ["_law_many", "_law_size"] lV) (c_l_is_paper:Cal P w K mg base 3 "_law_is_paper" ["_law_locker_here", "_law_words", "_law_paper", "_law_numbers"] iJ):FnOk P w K mg base CX0 12 f fd ["_law_locker_here", "_law_words"] pK:=by
 refine F.ok sc_l_good (fun vs H Q E h => ?_) (fun cdv A outer s H vs Q E hr h => ?_)
 · obtain ⟨a,b,kvs,f,cws,rfl,_⟩:=h; rfl
 obtain ⟨a,b,kvs,f,cws,rfl,ha,lk,hf,hb,h6,hL,q⟩:=h
 refine ⟨_,(@aF _ _ _ _ _ (uZ (bB c_most_kept hr (by decide) rfl (aA (aZ aXX rfl G.b_dict bQD (aA (mv 0) aE)) (aA (aZ fB rfl G.b_list cE (aA (mv 1) aE)) aE))) (hU (K:=K) (i:=2) (j:=3) (by rfl) (by rfl) sc_l_good.nd (by rfl) (by exact (Or.inl rfl)) (by exact Or.inl rfl) (by rfl) (by exact (Or.inl rfl)) (by exact Or.inl rfl))) (@aF _ _ _ _ _ (@aQ _ _ 4 _ _ _ _ sc_l_good.nd (by rfl) (by exact (Or.inl rfl)) (bB c_l_lists hr (by decide) rfl (aA (aN eJ rfl G.b_len cH (aA (mv 1) aE)) (aA (aR cI (aN eJ rfl G.b_len cH (aA (mv 2) aE)) aI) aE))) (by rfl) (by first | exact Or.inl rfl | exact Or.inr rfl)) (@aF _ _ _ _ _ (dM (bH bQE (aN eJ rfl G.b_len cH (aA (mv 3) aE)) (aN eJ rfl G.b_len cH (aA (mv 4) aE)) (bS _)) (@aK _ _ _ (aW fG)) bQ) (@aF _ _ _ _ _ (bZ Bc rfl (cXM rfl G.b_zip (aA (mv 3) (aA (mv 4) aE))) (hU (K:=K) (i:=5) (j:=6) (by rfl) (by rfl) sc_l_good.nd (by rfl) (by exact (Or.inl rfl)) (by exact Or.inl rfl) (by rfl) (by exact (Or.inl rfl)) (by exact Or.inl rfl)) (@aK _ _ _ (dM (gP (cP (bB c_l_is_paper hr (by decide) rfl (aA (mv 0) (aA (mv 1) (aA (mv 5) (aA (mv 6) aE))))))) (@aK _ _ _ (aW fG)) bQ))) (@aF _ _ _ _ _ (hV (i:=7) sc_l_good.nd rfl (Or.inl rfl) rfl (bV (mv 3)) (cJ5 (N:=["_law_paper"]) (by decide +kernel) (by decide +kernel)) (by decide +kernel) rfl (by decide +kernel) (fun C s₀ H₀ ex => (aP (i:=0) (show List.Nodup (["_law_paper"]:List Str) by decide +kernel) rfl (Or.inl rfl))) (fun C s₀ H₀ ex => fD) (fun C s₀ H₀ ex => (fR (aA (aZ fB rfl G.b_list cE (aA (bC cA (mv 0) aI (fun _ _ => rfl)) aE)) (aA (aZ fB rfl G.b_list cE (aA (bC cA (mv 0) aI (fun _ _ => rfl)) aE)) (aA (aZ fB rfl G.b_list cE (aA (bC cA (mv 0) aI (fun _ _ => rfl)) aE)) aE)))))) (@aF _ _ _ _ _ (@aQ _ _ 8 _ _ _ _ sc_l_good.nd (by rfl) (by exact (Or.inl rfl)) (aZ fB rfl G.b_list cE (aA (mv 2) aE)) (by rfl) (by first | exact Or.inl rfl | exact Or.inr rfl)) (@aF _ _ _ _ _ (cW (eX Bp Eg Eh vT (mv 2) (aA aI aE))) (@aF _ _ _ _ _ (bZ Bc rfl (bV (mv 3)) (aP (i:=5) sc_l_good.nd rfl (Or.inl rfl)) (@aF _ _ _ _ _ (cW (mO Bp Fw Fx pP (bC cA (mv 5) aI (fun _ _ => rfl)))) (@aF _ _ _ _ _ (cW (mO Bp Fw Fx pP (bC cA (mv 5) aI (fun _ _ => rfl)))) (@aK _ _ _ (cW (mO Bp Fw Fx pP (bC cA (mv 5) aI (fun _ _ => rfl)))))))) (@aK _ _ _ (aW (qS (cQT hr.units) (bB c_most_kept hr (by decide) rfl (aA (mv 0) (aA (mv 1) aE))) (fR (aA (mv 8) (aA (mv 7) aE))) (bS _)))))))))))),?_⟩
 have rb:=aM hb
 have hll:((cws.map aY).map V.str).length = cws.length:=by rw [Ab,Ab]
 walk_at "go"
 refine aZJ (.inl ha) fun pa hpa => ?_
 have s1:=aD hpa (.dK kvs)
 have ea1:(upd H pa (.dK kvs)) pa = some (.dK kvs):=aB
 generalize upd H pa (.dK kvs) = H1 at s1 ea1 ⊢
 have rb1:=aH s1 rb
 walk_at "go"
 intro pb hpb
 have s2:=aD hpb (.lst ((cws.map aY).map V.str))
 have eb2:(upd H1 pb (.lst ((cws.map aY).map V.str))) pb = some (.lst ((cws.map aY).map V.str)):=aB
 have ea2:=s2 _ _ ea1
 generalize upd H1 pb (.lst ((cws.map aY).map V.str)) = H2 at s2 eb2 ea2 ⊢
 have s02:=s1.trans s2
 walk_at "go"
 refine ⟨pa,pb,kvs,f,cws,rfl,.inl ea2,lk,aM eb2,h6,hL,fun t k D ts ks m H3 ht hk hD s3 et ek eD htl hpap nkD hf1 hno => ?_⟩
 obtain ⟨hkm,hkc⟩:=hf1.mem
 obtain ⟨hlt,hkl1,hkl2⟩:=lK hkm
 have hkl:(ks.map fun k => V.int ((k:Nat):Int)).length = ks.length:=Ab ..
 have s03:=s02.trans s3
 have tt:=eE et
 have rk:=aM ek
 have rb3:=aH s03 rb
 walk_at "go"
 rw [hll,hkl,hkl1,show ((m:Nat):Int) + 1 = ((m + 1:Nat):Int) from rfl]
 refine ⟨cws.length,m + 1,rfl,h6,by omega,fun r4 ps H4 hr4 s4 e4 ls => ?_⟩
 have s04:=s03.trans s4
 have hpl:ps.length = (bD (List.range cws.length) (m + 1)).length:=by rw [ls.1,Ab]
 have eD4:=s4 _ _ eD
 have rD4:=aM eD4
 have r4':=aM e4
 walk_at "go"
 rw [Ab,Ab,htl,hpl,Ap rfl]
 walk_at "go"
 refine bJ4 (xs:=ts.map V.ref) (ys:=ps.map V.ref) (fun i σ H' => ∃ (v5 v6:Option V),σ = [some (.ref a),some (.ref b),some (.ref k),some (.ref D),some (.ref r4),v5,v6,none,none] ∧ Same H4 H')
   ⟨_,_,rfl,Same.refl _⟩ (fun i σ H' _ _ ⟨_,_,_,s⟩ => ⟨aH s rD4,aH s r4'⟩) ?_ ?_
 · rintro i x y σ H5 pt hx hy ⟨v5,v6,rfl,s5⟩ hpt
   obtain ⟨u,eu,rfl⟩:=cZ hx
   obtain ⟨p,ep,rfl⟩:=cZ hy
   have hi:i < (bD (List.range cws.length) (m + 1)).length:=by rw [← hpl]; exact (Ad.mp ep).1
   obtain ⟨l,el⟩:∃ l,(bD (List.range cws.length) (m + 1))[i]? = some l:=⟨_,Aa hi⟩
   have hp:=(ls.2 i p (l.map fun k => V.int ((k:Nat):Int)) ep (by rw [Ag,el]; rfl)).2
   have k6:=aD hpt (.tup [.ref u,.ref p])
   have t6:iW (upd H5 pt (.tup [.ref u,.ref p])) pt = some [.ref u,.ref p]:=kE
   generalize upd H5 pt (.tup [.ref u,.ref p]) = H6 at k6 t6 ⊢
   have s46:=s5.trans k6
   have s06:=s04.trans s46
   walk_at "go"
   refine ⟨a,b,u,p,kvs,f,cws,l,_,rfl,s06 _ _ ha,lk,hf,aH s06 rb,h6,hL,(mem_combs.mp (Ak el)).1,s46 _ _ hp,(hpap i u l eu el).keep (s4.trans s46),fun H7 s7 => ?_⟩
   walk_at "go"
   exact ⟨_,_,rfl,s46.trans s7⟩
 rintro σ H5 ⟨v5,v6,rfl,s5⟩
 have s35:=s4.trans s5
 have rD5:=aH s5 rD4
 have hpap5:∀ (i:Nat) u l,ts[i]? = some u → (bD (List.range cws.length) (m + 1))[i]? = some l → PaperAt (fun p => H2 p ≠ none ∨ p = D) H5 (aL (aX (aL f))) cws l u:=fun i u l hu hl => (hpap i u l hu hl).keep s35
 have hcl:(bD (List.range cws.length) (m + 1)).length ≤ 279936:=Ax (fH (by rw [Bj]; exact h6)) (cQJ (by omega))
 walk_at "go"
 refine eS (n:=ts.length) (fun Dk i ys Hc => Same H5 Hc ∧ ∃ qs:List Addr,ys = qs.map V.ref ∧ qs.length = i ∧ ∀ (j:Nat) v l,qs[j]? = some v → (bD (List.range cws.length) (m + 1))[j]? = some l → PaperAt (fun p => H5 p ≠ none ∨ p = Dk) Hc (aL (aX (aL f))) cws l v) (Dz (htl ▸ hcl) (by decide)) (fun Dk hDk => ⟨aD hDk _,[],rfl,rfl,fun j u l hu => nomatch hu⟩)
   (fun Dk i ys Hc _ r h => ⟨ts.map V.ref,(ts.map V.ref)[i]'(by rw [List.length_map]; exact h),aO (aH r.1 rD5),by simp [h]⟩) (fun Dk ys Hc _ r => ⟨ts.map V.ref,aO (aH r.1 rD5),by rw [List.length_map]; exact Nat.le_refl _⟩) ?_ ?_
 · rintro Dk i ys Hc x H6 A B hDk hi ⟨sm,qs,rfl,hql,hqs⟩ hDc ⟨rfl,hz⟩ ha' hb'
   have hx:=hz _ (aO (aH sm rD5))
   obtain ⟨u,eu,rfl⟩:=cZ hx
   obtain ⟨l,el⟩:∃ l,(bD (List.range cws.length) (m + 1))[i]? = some l:=⟨_,Aa (by omega)⟩
   obtain ⟨c,l1,l2,rs,W,F,h1,h2,h3,h4,h5,h6',h7,h8,h9,h10⟩:=(hpap5 i u l eu el).keep sm
   have rc:=aM h2
   walk_at "go"
   refine ⟨Wk.set rfl (Wk.refl _),?_⟩
   walk_at "go"
   refine dQ h1 (v:=.ref c) rfl ?_
   walk_at "go"
   intro c' hc'
   have k7:=aD hc' (.lst (l.map fun k => V.int ((k:Nat):Int)))
   have e7:(upd H6 c' (.lst (l.map fun k => V.int ((k:Nat):Int)))) c' = some (.lst (l.map fun k => V.int ((k:Nat):Int))):=aB
   generalize upd H6 c' (.lst (l.map fun k => V.int ((k:Nat):Int))) = H7 at k7 e7 ⊢
   have r37:=aM (k7 _ _ h3)
   walk_at "go"
   refine dQ (k7 _ _ h1) (v:=.ref l1) rfl ?_
   walk_at "go"
   intro l1' hl1'
   have k8:=aD hl1' (.lst (rs.map V.ref))
   have e8:(upd H7 l1' (.lst (rs.map V.ref))) l1' = some (.lst (rs.map V.ref)):=aB
   generalize upd H7 l1' (.lst (rs.map V.ref)) = H8 at k8 e8 ⊢
   have r58:=aM ((k7.trans k8) _ _ h5)
   walk_at "go"
   refine dQ ((k7.trans k8) _ _ h1) (v:=.ref l2) rfl ?_
   walk_at "go"
   intro l2' hl2'
   have k9:=aD hl2' (.lst ((F.map one).map V.str))
   have e9:(upd H8 l2' (.lst ((F.map one).map V.str))) l2' = some (.lst ((F.map one).map V.str)):=aB
   generalize upd H8 l2' (.lst ((F.map one).map V.str)) = H9 at k9 e9 ⊢
   walk_at "go"
   refine ⟨by show 3 ≤ sizeLine; decide,fun v hv => ?_⟩
   have k10:=aD hv (.tup [.ref c',.ref l1',.ref l2'])
   have e10:(upd H9 v (.tup [.ref c',.ref l1',.ref l2'])) v = _:=aB
   generalize upd H9 v (.tup [.ref c',.ref l1',.ref l2']) = H10 at k10 e10 ⊢
   have s610:=k7.trans (k8.trans (k9.trans k10))
   have hX:∀ {Hi:Hp} {p:Addr},Same H6 Hi → Hi p = none → ¬ (H5 p ≠ none ∨ p = Dk):=fun {Hi p} s hp z => by
     have hp6:=none_of s hp
     rcases z with z | z
     · exact z (none_of sm hp6)
     · rw [z,hDc] at hp6; cases hp6
   refine ha' _ _ (s610 _ _ hDc) ⟨bA hDk (sm.trans s610),qs ++ [v],by rw [Aj]; rfl,by rw [Am,hql]; rfl,fun j w l' hw hl' => ?_⟩
   by_cases hj:j < qs.length
   · rw [Ay hj] at hw
     exact ((hqs j w l' hw hl').keep s610).put (.inr rfl) (s610 _ _ hDc)
   · rw [Bf (by omega)] at hw
     have ej:j = i:=by
       have:=(Ad.mp hw).1
       rw [List.length_singleton] at this
       omega
     subst ej
     rw [show j - qs.length = 0 by omega] at hw
     cases hw
     rw [el] at hl'
     cases hl'
     exact PaperAt.put ⟨c',l1',l2',rs,W,F,e10,(k8.trans (k9.trans k10)) _ _ e7,(k9.trans k10) _ _ e8,⟨h4.1,fun j p w hp hw => s610 _ _ (h4.2 j p w hp hw)⟩,k10 _ _ e9,h6',h7,hX (Same.refl _) hc',hX k7 hl1',hX (k7.trans k8) hl2'⟩ (.inr rfl) (s610 _ _ hDc)
 rintro Dk ys H6 hDk ⟨sm,qs,rfl,hql,hqs⟩ hDk6 _
 have rk6:=aM ((s35.trans sm) _ _ ek)
 walk_at "go"
 intro pb7 hpb7
 have k7:=aD hpb7 (.lst (ks.map fun k => V.int ((k:Nat):Int)))
 have e7:(upd H6 pb7 (.lst (ks.map fun k => V.int ((k:Nat):Int)))) pb7 = some (.lst (ks.map fun k => V.int ((k:Nat):Int))):=aB
 generalize upd H6 pb7 (.lst (ks.map fun k => V.int ((k:Nat):Int))) = H7 at k7 e7 ⊢
 have s37:=s35.trans (sm.trans k7)
 have s57:=sm.trans k7
 have ek7:=s37 _ _ ek
 have mk7:=bP ek7
 have hks7:(ks.map fun k => V.int ((k:Nat):Int)).length < sizeLine:=aT (by rw [hkl]; omega)
 have hS:∀ p,gS H5 ts p → (∃ xs,H7 p = some (.lst xs)) ∧ H2 p = none ∧ p ≠ D ∧ H5 p ≠ none:=fun p ⟨i,u,c,l1,l2,hu,e,hp⟩ => by
   obtain ⟨l,el⟩:∃ l,(bD (List.range cws.length) (m + 1))[i]? = some l:=⟨_,Aa (by rw [← htl]; exact (Ad.mp hu).1)⟩
   obtain ⟨c',l1',l2',rs,W,F,h1,h2,h3,h4,h5,_,_,h8,h9,h10⟩:=hpap5 i u l hu el
   rw [e] at h1
   cases h1
   have key:∀ xs,H5 p = some (.lst xs) → ¬ (H2 p ≠ none ∨ p = D) → (∃ xs,H7 p = some (.lst xs)) ∧ H2 p = none ∧ p ≠ D ∧ H5 p ≠ none:=fun xs hx hn => ⟨⟨xs,s57 _ _ hx⟩,Fg fun z => hn (.inl z),fun z => hn (.inr z),by rw [hx]; exact fun z => nomatch z⟩
   rcases hp with rfl | rfl | rfl
   · exact key _ h2 h8
   · exact key _ h3 h9
   · exact key _ h5 h10
 have eD7:H7 D = some (.lst (ts.map V.ref)):=s37 _ _ eD
 have hk2:H2 k = none:=hk
 have ek5:=s35 _ _ ek
 have nSD:¬ (D = k ∨ gS H5 ts D):=fun z => z.elim (Ne.symm nkD) fun z => (hS D z).2.2.1 rfl
 have nTup:∀ p xs,H7 p = some (.tup xs) → ¬ (p = k ∨ gS H5 ts p):=fun p xs e z => by
   rcases z with z | z
   · rw [z,ek7] at e; cases e
   · obtain ⟨ys,ey⟩:=(hS p z).1
     rw [e] at ey
     cases ey
 have f8:∀ p u,¬ (p = k ∨ gS H5 ts p) → H7 p = some u → (upd H7 k (.lst ((ks.map fun k => V.int ((k:Nat):Int)) ++ [V.int 9]))) p = some u:=fun p u hp hu => (aJ fun z => hp (.inl z)).trans hu
 have l8:∀ p,gS H5 ts p → ∃ xs,(upd H7 k (.lst ((ks.map fun k => V.int ((k:Nat):Int)) ++ [V.int 9]))) p = some (.lst xs):=fun p hp => by
   by_cases z:p = k
   · rw [z]; exact ⟨_,aB⟩
   · rw [aJ z]; exact (hS p hp).1
 have rD8:=aM (f8 D _ nSD eD7)
 walk_at "go"
 generalize upd H7 k (.lst ((ks.map fun k => V.int ((k:Nat):Int)) ++ [V.int 9])) = H8 at f8 l8 rD8 ⊢
 refine eF (xs:=ts.map V.ref) (fun i σ H' => ∃ (v5:Option V),σ = [some (.ref a),some (.ref b),some (.ref k),some (.ref D),some (.ref r4),v5,v6,some (.ref Dk),some (.ref pb7)] ∧ (∀ p u,¬ (p = k ∨ gS H5 ts p) → H7 p = some u → H' p = some u) ∧ ∀ p,gS H5 ts p → ∃ xs,H' p = some (.lst xs))
   ⟨_,rfl,f8,l8⟩ (fun i σ H' _ ⟨_,_,fr,_⟩ => aM (fr D _ nSD eD7)) ?_ ?_
 · rintro i x σ H9 hx ⟨v5,rfl,f9,l9⟩
   obtain ⟨u,eu,rfl⟩:=cZ hx
   obtain ⟨l,el⟩:∃ l,(bD (List.range cws.length) (m + 1))[i]? = some l:=⟨_,Aa (by rw [← htl]; exact (Ad.mp eu).1)⟩
   obtain ⟨c,l1,l2,rs,W,F,h1,_⟩:=hpap5 i u l eu el
   have h17:=s57 _ _ h1
   have nu:=nTup u _ h17
   have step:∀ (Hx:Hp) (p0:Addr),gS H5 ts p0 → (∀ p u,¬ (p = k ∨ gS H5 ts p) → H7 p = some u → Hx p = some u) → (∀ p,gS H5 ts p → ∃ xs,Hx p = some (.lst xs)) → (∀ p u,¬ (p = k ∨ gS H5 ts p) → H7 p = some u → (upd Hx p0 (.lst [])) p = some u) ∧ ∀ p,gS H5 ts p → ∃ xs,(upd Hx p0 (.lst [])) p = some (.lst xs):=fun Hx p0 h0 hf hl => ⟨fun p u hp hu => (aJ fun z => hp (.inr (by rw [z]; exact h0))).trans (hf p u hp hu),fun p hp => by
     by_cases z:p = p0
     · rw [z]; exact ⟨_,aB⟩
     · rw [aJ z]; exact hl p hp⟩
   have sc:gS H5 ts c:=⟨i,u,c,l1,l2,eu,h1,.inl rfl⟩
   have sl1:gS H5 ts l1:=⟨i,u,c,l1,l2,eu,h1,.inr (.inl rfl)⟩
   have sl2:gS H5 ts l2:=⟨i,u,c,l1,l2,eu,h1,.inr (.inr rfl)⟩
   have eu9:=f9 u _ nu h17
   obtain ⟨x1,ex1⟩:=l9 c sc
   have mx1:=bP ex1
   walk_at "go"
   refine dQ eu9 (v:=.ref c) rfl ?_
   walk_at "go"
   obtain ⟨f10,l10⟩:=step H9 c sc f9 l9
   generalize upd H9 c (.lst []) = H10 at f10 l10 ⊢
   have eu10:=f10 u _ nu h17
   obtain ⟨x2,ex2⟩:=l10 l1 sl1
   have mx2:=bP ex2
   walk_at "go"
   refine dQ eu10 (v:=.ref l1) rfl ?_
   walk_at "go"
   obtain ⟨f11,l11⟩:=step H10 l1 sl1 f10 l10
   generalize upd H10 l1 (.lst []) = H11 at f11 l11 ⊢
   have eu11:=f11 u _ nu h17
   obtain ⟨x3,ex3⟩:=l11 l2 sl2
   have mx3:=bP ex3
   walk_at "go"
   refine dQ eu11 (v:=.ref l2) rfl ?_
   walk_at "go"
   obtain ⟨f12,l12⟩:=step H11 l2 sl2 f11 l11
   exact ⟨_,rfl,f12,l12⟩
 · rintro σ H9 ⟨v5',rfl,f9,_⟩
   have s27:Same H2 H7:=s3.trans s37
   have s29:Same H2 H9:=fun p u hu => f9 p u (fun z => by
     rcases z with z | z
     · rw [z,hk2] at hu; cases hu
     · rw [(hS p z).2.1] at hu; cases hu) (s27 _ _ hu)
   have s09:=s02.trans s29
   walk_at "go"
   refine ⟨a,b,kvs,f,cws,rfl,.inl (s09 _ _ ha),lk,aH s09 rb,h6,hL,fun t2 k2 D2 ts2 ks2 m2 H10 ht2 hk2' hD2 s10 et2 ek2 eD2 htl2 hpap2 _ hf2 hno2 => ?_⟩
   obtain rfl:m = m2:=by
     rcases Nat.lt_trichotomy m m2 with z | z | z
     · exact absurd hf2.mem.2 (hno m2 z ks2 hf2.mem.1)
     · exact z
     · exact absurd hkc (hno2 m z ks hkm)
   obtain rfl:=hf1.one hf2
   walk_at "go"
   refine ⟨by show 2 ≤ sizeLine; decide,fun p11 hp11 => ?_⟩
   have k11:=aD hp11 (.tup [.ref pb7,.ref Dk])
   have e11:(upd H10 p11 (.tup [.ref pb7,.ref Dk])) p11 = _:=aB
   generalize upd H10 p11 (.tup [.ref pb7,.ref Dk]) = H11 at k11 e11 ⊢
   have s911:=s10.trans k11
   have f11:∀ p u,¬ (p = k ∨ gS H5 ts p) → H7 p = some u → H11 p = some u:=fun p u hp hu => s911 _ _ (f9 p u hp hu)
   have n5:∀ p,H5 p = none → ¬ (p = k ∨ gS H5 ts p):=fun p hp z => by
     rcases z with z | z
     · rw [z,ek5] at hp; cases hp
     · exact (hS p z).2.2.2 hp
   have eb11:=f11 pb7 _ (n5 _ (none_of sm hpb7)) e7
   have eDk11:=f11 Dk _ (n5 _ hDk) (k7 _ _ hDk6)
   refine dQA 4 (.tup (k11 _ _ et2) e11 rfl fun j x y hx hy => ?_) ?_
   · match j,hx,hy with
     | 0,hx,hy => cases hx; cases hy; exact .lst (aM (k11 _ _ ek2)) (aM eb11) rfl (Alt.flats (iA _))
     | 1,hx,hy =>
       cases hx
       cases hy
       refine .lst (aM (k11 _ _ eD2)) (aM eDk11) (by rw [Ab,Ab,htl2,hql,htl]) fun j x y hx hy => ?_
       obtain ⟨u,eu,rfl⟩:=cZ hx
       obtain ⟨v,ev,rfl⟩:=cZ hy
       obtain ⟨l,el⟩:∃ l,(bD (List.range cws.length) (m + 1))[j]? = some l:=⟨_,Aa (by rw [← htl2]; exact (Ad.mp eu).1)⟩
       exact tQ ((hpap2 j u l eu el).keep k11) (((hqs j v l ev el).keep k7).frame f11 (fun p hp => n5 p (Fg fun z => hp (.inl z))) nTup)
     | j + 2,hx,_ => cases hx
   · exact q _ (s09.trans s911)
theorem sc_law:FnScope ["_law_script", "_law_start", "_law_words", "_law_locker_here"] ["_law_script"] (aG jV):=⟨rfl,rfl,rfl,by decide +kernel,rfl,by decide +kernel,by decide +kernel⟩
theorem cXU {Zy Zz:Addr} {f:Addr} {fd:FuncData} (F:Fun K "law" "law" jV f fd) (G:Gs K mg Zy Zz) (c_l_drawn:Cal P w K mg base 3 "_law_drawn" ["_law_script", "_law_start", "_law_most", "_law_longest"] (mY K)) (c_l_good:Cal P w K mg base 12 "_law_good" ["_law_locker_here", "_law_words"] pK) (c_l_word:Cal P w K mg base 2 "_law_word" ["_law_cell_here", "_law_spread", "_law_longest"] kR) (c_l_cell:Cal P w K mg base 1 "_law_cell" ["_law_script", "_law_k"] (kK K)):FnOk P w K mg base CX0 13 f fd ["_law_script"] (qG K):=by
 refine F.ok sc_law (fun vs H Q E h => ?_) (fun cdv A outer s H vs Q E hr h => ?_)
 · obtain ⟨a,ns,rfl,_⟩:=h; rfl
 obtain ⟨a,ns,rfl,hS,h63,q⟩:=h
 refine ⟨_,(@aF _ _ _ _ _ (bZ Bc rfl (yU rfl G.b_range (aA aI (aA (aN (bZ6 rfl) rfl G.b_max aXT (aA aI (aA (aN (bZZ rfl) rfl G.b_min aJT (aA (aN jU rfl G.b_len cH (aA (mv 0) aE)) (aA aI aE))) aE))) (aA aI aE)))) (aP (i:=1) sc_law.nd rfl (Or.inl rfl)) (@aF _ _ _ _ _ (uZ (bB c_l_drawn hr (by decide) rfl (aA (mv 0) (aA (mv 1) (aA aI (aA aI aE))))) (cXT rfl (jM (aP (i:=2) sc_law.nd rfl (Or.inl rfl)) (jM (aP (i:=3) sc_law.nd rfl (Or.inl rfl)) vL)))) (@aF _ _ _ _ _ (@aQ _ _ 2 _ _ _ _ sc_law.nd (by rfl) (by exact (Or.inl rfl)) (aR cI (mv 2) (cJ (aA (bB c_l_word hr (by decide) rfl (aA (bB c_l_cell hr (by decide) rfl (aA (mv 0) (aA (aR cI (mv 1) aI) aE))) (aA (aR kC (bB c_l_cell hr (by decide) rfl (aA (mv 0) (aA (mv 1) aE))) aI) (aA aI aE)))) aE))) (by rfl) (by first | exact Or.inl rfl | exact Or.inr rfl)) (@aK _ _ _ (dM (gP (cP (bB c_l_good hr (by decide) rfl (aA (mv 3) (aA (mv 2) aE))))) (@aK _ _ _ (aW fG)) bQ))))) (@aK _ _ _ (aW fG))),?_⟩
 walk_at "go"
 refine ⟨_,_,rfl,.inl hS,?_⟩
 have hnl:(ns.map V.int).length = ns.length:=Ab ..
 rw [hnl]
 walk_at "go"
 obtain ⟨m,hm⟩:∃ m:Int,m = (if (1:Int) < (if (40:Int) < (ns.length:Int) then 40 else (ns.length:Int)) then (if (40:Int) < (ns.length:Int) then 40 else (ns.length:Int)) else 1):=⟨_,rfl⟩
 have hm1:m ≤ 40:=by rw [hm]; split <;> split <;> omega
 have hm2:0 ≤ m:=by rw [hm]; split <;> split <;> omega
 rw [← hm]
 refine ⟨⟨by omega,by omega,by omega,by omega,by omega,by omega⟩,?_⟩
 refine zB (fun i σ H' => ∃ (v1 v2 v3:Option V),σ = [some (.ref a),v1,v2,v3] ∧ Same H H') ⟨_,_,_,rfl,Same.refl _⟩ ?_ ?_
 · rintro i σ H3 hi ⟨v1,v2,v3,rfl,s3⟩
   have hat:=bXT (by omega) hi
   have hS3:=s3.seq hS
   walk_at "go"
   refine ⟨a,ns,_,5,7,rfl,hS3,h63,by omega,by omega,by decide,by decide,by decide,by decide,fun r b l cws kvs f H4 s4 er eb el lk hf hkl h8 hL h5 => ?_⟩
   have rr:=aM er
   have hS4:=(s3.trans s4).seq hS
   walk_at "go"
   refine ⟨a,ns,_,rfl,hS4,by omega,fun n1 => ?_⟩
   walk_at "go"
   refine ⟨a,ns,_,rfl,hS4,by omega,fun n2 => ?_⟩
   walk_at "go"
   refine ⟨n1,_,2,rfl,by decide,by decide,fun cw H5 s5 hc1 hc2 hcL => ?_⟩
   have eb5:=s5 _ _ eb
   walk_at "go"
   refine ⟨by show 1 ≤ sizeLine; decide,fun p6 hp6 => ?_⟩
   have s6:=aD hp6 (.lst [V.str (aY cw)])
   have e6:(upd H5 p6 (.lst [V.str (aY cw)])) p6 = some (.lst (([cw].map aY).map V.str)):=aB
   have eb6:=s6 _ _ eb5
   generalize upd H5 p6 (.lst [V.str (aY cw)]) = H6 at s6 e6 eb6 ⊢
   refine mN (bP eb6) (bP e6) (bX (by rw [Ab,Ab]; show _ + 1 ≤ _; omega)) fun p7 hp7 => ?_
   rw [yH]
   have s7:=aD hp7 (.lst (((cws ++ [cw]).map aY).map V.str))
   have e7:(upd H6 p7 (.lst (((cws ++ [cw]).map aY).map V.str))) p7 = some (.lst (((cws ++ [cw]).map aY).map V.str)):=aB
   generalize upd H6 p7 (.lst (((cws ++ [cw]).map aY).map V.str)) = H7 at s7 e7 ⊢
   have s47:=s5.trans (s6.trans s7)
   walk_at "go"
   refine ⟨l,p7,kvs,f,cws ++ [cw],rfl,s47 _ _ el,lk,hf,e7,by rw [Am]; show _ + 1 ≤ _; omega,fun c hc => ?_,fun H9 s9 => ?_⟩
   · rcases Bk.mp hc with z | z
     · exact hL c z
     · rw [As.mp z]
       exact ⟨by omega,hcL⟩
   walk_at "go"
   exact ⟨_,_,_,rfl,s3.trans (s4.trans (s47.trans s9))⟩
 · rintro σ H3 ⟨v1,v2,v3,rfl,s3⟩
   walk_at "go"
   exact q _
end
local macro_rules | `(tactic| walk_at "bd") => `(tactic| (intro a1 a2 a3 a4 a5 a6 us hl; iterate 7 (all_goals try (rcases us with _ | ⟨u,us⟩; (· first | rfl | (simp at hl)))); all_goals (simp at hl)))
theorem all_mk {l:PySem.W.OpenLaw} {w:World} {K:PySem.W.Frag} {h:Heap} {mg:Str → Option Value} {fa:Addr} {od_0 an_0 od_1 an_1 od_2 an_2 od_3 an_3 od_4 an_4 od_5 an_5 od_6 an_6 od_7 an_7 od_8 an_8 od_9 an_9 od_10 an_10 od_11 an_11 od_12 an_12 od_13 an_13 od_14 an_14 od_15 an_15 od_16 an_16 od_17 an_17 od_18 an_18 od_19 an_19 od_20 an_20 od_21 an_21 od_22 an_22 od_23 an_23 od_24 an_24 od_25 an_25 od_26 an_26:Option Addr} {sl_0 sl_1 sl_2 sl_3 sl_4 sl_5 sl_6 sl_7 sl_8 sl_9 sl_10 sl_11 sl_12 sl_13 sl_14 sl_15 sl_16 sl_17 sl_18 sl_19 sl_20 sl_21 sl_22 sl_23 sl_24 sl_25 sl_26:Array (Option Value)} {f_0 f_1 f_2 f_3 f_4 f_5 f_6 f_7 f_8 f_9 f_10 f_11 f_12 f_13 f_14 f_15 f_16 f_17 f_18 f_19 f_20 f_21 f_22 f_23 f_24 f_25 f_26:Addr} {oc_0 kV_0 dc_0 pm_0 cd_0 ct_0 oc_1 kV_1 dc_1 pm_1 cd_1 ct_1 oc_2 kV_2 dc_2 pm_2 cd_2 ct_2 oc_3 kV_3 dc_3 pm_3 cd_3 ct_3 oc_4 kV_4 dc_4 pm_4 cd_4 ct_4 oc_5 kV_5 dc_5 pm_5 cd_5 ct_5 oc_6 kV_6 dc_6 pm_6 cd_6 ct_6 oc_7 kV_7 dc_7 pm_7 cd_7 ct_7 oc_8 kV_8 dc_8 pm_8 cd_8 ct_8 oc_9 kV_9 dc_9 pm_9 cd_9 ct_9 oc_10 kV_10 dc_10 pm_10 cd_10 ct_10 oc_11 kV_11 dc_11 pm_11 cd_11 ct_11 oc_12 kV_12 dc_12 pm_12 cd_12 ct_12 oc_13 kV_13 dc_13 pm_13 cd_13 ct_13 oc_14 kV_14 dc_14 pm_14 cd_14 ct_14 oc_15 kV_15 dc_15 pm_15 cd_15 ct_15 oc_16 kV_16 dc_16 pm_16 cd_16 ct_16 oc_17 kV_17 dc_17 pm_17 cd_17 ct_17 oc_18 kV_18 dc_18 pm_18 cd_18 ct_18 oc_19 kV_19 dc_19 pm_19 cd_19 ct_19 oc_20 kV_20 dc_20 pm_20 cd_20 ct_20 oc_21 kV_21 dc_21 pm_21 cd_21 ct_21 oc_22 kV_22 dc_22 pm_22 cd_22 ct_22 oc_23 kV_23 dc_23 pm_23 cd_23 ct_23 oc_24 kV_24 dc_24 pm_24 cd_24 ct_24 oc_25 kV_25 dc_25 pm_25 cd_25 ct_25 oc_26 kV_26 dc_26 pm_26 cd_26 ct_26:Value} {t_SUBSTITUTES:Tok} {t_FLAGS:Tok} {Zy:Addr} {Zz:Addr} (X:K.In h) (Gn:h.Ns mainGlobals mg) (hfa:mg "law" = some (.ref fa))
   (a_0:PySem.W.nsIn K mainGlobals "_law_cell" = some (some (.ref f_0))) (l_0:K.lookup f_0 = some ⟨oc_0,od_0,.func (PySem.W.fnOf "_law_cell" "_law_cell" (aV fN) (aU fN) (aG fN) .none kV_0 dc_0 pm_0 an_0 cd_0 ct_0),sl_0⟩) (c_0:PySem.W.codeIn K cd_0 "_law_cell" = true) (k_0:PySem.W.keepIn K (.ref f_0) = true)
   (a_1:PySem.W.nsIn K mainGlobals "_law_stream" = some (some (.ref f_1))) (l_1:K.lookup f_1 = some ⟨oc_1,od_1,.func (PySem.W.fnOf "_law_stream" "_law_stream" (aV dU) (aU dU) (aG dU) .none kV_1 dc_1 pm_1 an_1 cd_1 ct_1),sl_1⟩) (c_1:PySem.W.codeIn K cd_1 "_law_stream" = true) (k_1:PySem.W.keepIn K (.ref f_1) = true)
   (a_2:PySem.W.nsIn K mainGlobals "_law_word" = some (some (.ref f_2))) (l_2:K.lookup f_2 = some ⟨oc_2,od_2,.func (PySem.W.fnOf "_law_word" "_law_word" (aV fO) (aU fO) (aG fO) .none kV_2 dc_2 pm_2 an_2 cd_2 ct_2),sl_2⟩) (c_2:PySem.W.codeIn K cd_2 "_law_word" = true) (k_2:PySem.W.keepIn K (.ref f_2) = true)
   (a_3:PySem.W.nsIn K mainGlobals "_law_locker" = some (some (.ref f_3))) (l_3:K.lookup f_3 = some ⟨oc_3,od_3,.func (PySem.W.fnOf "_law_locker" "_law_locker" (aV eB) (aU eB) (aG eB) .none kV_3 dc_3 pm_3 an_3 cd_3 ct_3),sl_3⟩) (c_3:PySem.W.codeIn K cd_3 "_law_locker" = true) (k_3:PySem.W.keepIn K (.ref f_3) = true)
   (a_4:PySem.W.nsIn K mainGlobals "_law_drawn" = some (some (.ref f_4))) (l_4:K.lookup f_4 = some ⟨oc_4,od_4,.func (PySem.W.fnOf "_law_drawn" "_law_drawn" (aV dS) (aU dS) (aG dS) .none kV_4 dc_4 pm_4 an_4 cd_4 ct_4),sl_4⟩) (c_4:PySem.W.codeIn K cd_4 "_law_drawn" = true) (k_4:PySem.W.keepIn K (.ref f_4) = true)
   (a_5:PySem.W.nsIn K mainGlobals "rising_lists" = some (some (.ref f_5))) (l_5:K.lookup f_5 = some ⟨oc_5,od_5,.func (PySem.W.fnOf "rising_lists" "rising_lists" (aV bY) (aU bY) (aG bY) .none kV_5 dc_5 pm_5 an_5 cd_5 ct_5),sl_5⟩) (c_5:PySem.W.codeIn K cd_5 "rising_lists" = true) (k_5:PySem.W.keepIn K (.ref f_5) = true)
   (a_6:PySem.W.nsIn K mainGlobals "wants_of" = some (some (.ref f_6))) (l_6:K.lookup f_6 = some ⟨oc_6,od_6,.func (PySem.W.fnOf "wants_of" "wants_of" (aV dF) (aU dF) (aG dF) .none kV_6 dc_6 pm_6 an_6 cd_6 ct_6),sl_6⟩) (c_6:PySem.W.codeIn K cd_6 "wants_of" = true) (k_6:PySem.W.keepIn K (.ref f_6) = true)
   (a_7:PySem.W.nsIn K mainGlobals "choices_at" = some (some (.ref f_7))) (l_7:K.lookup f_7 = some ⟨oc_7,od_7,.func (PySem.W.fnOf "choices_at" "choices_at" (aV cM) (aU cM) (aG cM) .none kV_7 dc_7 pm_7 an_7 cd_7 ct_7),sl_7⟩) (c_7:PySem.W.codeIn K cd_7 "choices_at" = true) (k_7:PySem.W.keepIn K (.ref f_7) = true)
   (a_8:PySem.W.nsIn K mainGlobals "choices_of" = some (some (.ref f_8))) (l_8:K.lookup f_8 = some ⟨oc_8,od_8,.func (PySem.W.fnOf "choices_of" "choices_of" (aV cV) (aU cV) (aG cV) .none kV_8 dc_8 pm_8 an_8 cd_8 ct_8),sl_8⟩) (c_8:PySem.W.codeIn K cd_8 "choices_of" = true) (k_8:PySem.W.keepIn K (.ref f_8) = true)
   (a_9:PySem.W.nsIn K mainGlobals "plain_locker" = some (some (.ref f_9))) (l_9:K.lookup f_9 = some ⟨oc_9,od_9,.func (PySem.W.fnOf "plain_locker" "plain_locker" (aV cF) (aU cF) (aG cF) .none kV_9 dc_9 pm_9 an_9 cd_9 ct_9),sl_9⟩) (c_9:PySem.W.codeIn K cd_9 "plain_locker" = true) (k_9:PySem.W.keepIn K (.ref f_9) = true)
   (a_10:PySem.W.nsIn K mainGlobals "hoists_of" = some (some (.ref f_10))) (l_10:K.lookup f_10 = some ⟨oc_10,od_10,.func (PySem.W.fnOf "hoists_of" "hoists_of" (aV dJ) (aU dJ) (aG dJ) .none kV_10 dc_10 pm_10 an_10 cd_10 ct_10),sl_10⟩) (c_10:PySem.W.codeIn K cd_10 "hoists_of" = true) (k_10:PySem.W.keepIn K (.ref f_10) = true)
   (a_11:PySem.W.nsIn K mainGlobals "asked_from" = some (some (.ref f_11))) (l_11:K.lookup f_11 = some ⟨oc_11,od_11,.func (PySem.W.fnOf "asked_from" "asked_from" (aV cN) (aU cN) (aG cN) .none kV_11 dc_11 pm_11 an_11 cd_11 ct_11),sl_11⟩) (c_11:PySem.W.codeIn K cd_11 "asked_from" = true) (k_11:PySem.W.keepIn K (.ref f_11) = true)
   (a_12:PySem.W.nsIn K mainGlobals "hang_along" = some (some (.ref f_12))) (l_12:K.lookup f_12 = some ⟨oc_12,od_12,.func (PySem.W.fnOf "hang_along" "hang_along" (aV cX) (aU cX) (aG cX) .none kV_12 dc_12 pm_12 an_12 cd_12 ct_12),sl_12⟩) (c_12:PySem.W.codeIn K cd_12 "hang_along" = true) (k_12:PySem.W.keepIn K (.ref f_12) = true)
   (y_13:PySem.W.typeIn K (.ref f_13) = some (.type "function"))
   (a_13:PySem.W.findIn K (.ref Zy) "__init__" = some (some (.ref f_13))) (l_13:K.lookup f_13 = some ⟨oc_13,od_13,.func (PySem.W.fnOf "__init__" "Lack.__init__" (aV dG) (aU dG) (aG dG) .none kV_13 dc_13 pm_13 an_13 cd_13 ct_13),sl_13⟩) (c_13:PySem.W.codeIn K cd_13 "Lack.__init__" = true) (k_13:PySem.W.keepIn K (.ref f_13) = true)
   (a_14:PySem.W.nsIn K mainGlobals "hang_all" = some (some (.ref f_14))) (l_14:K.lookup f_14 = some ⟨oc_14,od_14,.func (PySem.W.fnOf "hang_all" "hang_all" (aV cD) (aU cD) (aG cD) .none kV_14 dc_14 pm_14 an_14 cd_14 ct_14),sl_14⟩) (c_14:PySem.W.codeIn K cd_14 "hang_all" = true) (k_14:PySem.W.keepIn K (.ref f_14) = true)
   (a_15:PySem.W.nsIn K mainGlobals "lack_of" = some (some (.ref f_15))) (l_15:K.lookup f_15 = some ⟨oc_15,od_15,.func (PySem.W.fnOf "lack_of" "lack_of" (aV eP) (aU eP) (aG eP) .none kV_15 dc_15 pm_15 an_15 cd_15 ct_15),sl_15⟩) (c_15:PySem.W.codeIn K cd_15 "lack_of" = true) (k_15:PySem.W.keepIn K (.ref f_15) = true)
   (a_16:PySem.W.nsIn K mainGlobals "can_hang" = some (some (.ref f_16))) (l_16:K.lookup f_16 = some ⟨oc_16,od_16,.func (PySem.W.fnOf "can_hang" "can_hang" (aV dX) (aU dX) (aG dX) .none kV_16 dc_16 pm_16 an_16 cd_16 ct_16),sl_16⟩) (c_16:PySem.W.codeIn K cd_16 "can_hang" = true) (k_16:PySem.W.keepIn K (.ref f_16) = true)
   (a_17:PySem.W.nsIn K mainGlobals "words_at" = some (some (.ref f_17))) (l_17:K.lookup f_17 = some ⟨oc_17,od_17,.func (PySem.W.fnOf "words_at" "words_at" (aV dE) (aU dE) (aG dE) .none kV_17 dc_17 pm_17 an_17 cd_17 ct_17),sl_17⟩) (c_17:PySem.W.codeIn K cd_17 "words_at" = true) (k_17:PySem.W.keepIn K (.ref f_17) = true)
   (a_18:PySem.W.nsIn K mainGlobals "first_hanging" = some (some (.ref f_18))) (l_18:K.lookup f_18 = some ⟨oc_18,od_18,.func (PySem.W.fnOf "first_hanging" "first_hanging" (aV cB) (aU cB) (aG cB) .none kV_18 dc_18 pm_18 an_18 cd_18 ct_18),sl_18⟩) (c_18:PySem.W.codeIn K cd_18 "first_hanging" = true) (k_18:PySem.W.keepIn K (.ref f_18) = true)
   (a_19:PySem.W.nsIn K mainGlobals "paper_for" = some (some (.ref f_19))) (l_19:K.lookup f_19 = some ⟨oc_19,od_19,.func (PySem.W.fnOf "paper_for" "paper_for" (aV cS) (aU cS) (aG cS) .none kV_19 dc_19 pm_19 an_19 cd_19 ct_19),sl_19⟩) (c_19:PySem.W.codeIn K cd_19 "paper_for" = true) (k_19:PySem.W.keepIn K (.ref f_19) = true)
   (a_20:PySem.W.nsIn K mainGlobals "most_kept" = some (some (.ref f_20))) (l_20:K.lookup f_20 = some ⟨oc_20,od_20,.func (PySem.W.fnOf "most_kept" "most_kept" (aV cR) (aU cR) (aG cR) .none kV_20 dc_20 pm_20 an_20 cd_20 ct_20),sl_20⟩) (c_20:PySem.W.codeIn K cd_20 "most_kept" = true) (k_20:PySem.W.keepIn K (.ref f_20) = true)
   (a_21:PySem.W.nsIn K mainGlobals "_law_lists" = some (some (.ref f_21))) (l_21:K.lookup f_21 = some ⟨oc_21,od_21,.func (PySem.W.fnOf "_law_lists" "_law_lists" (aV dH) (aU dH) (aG dH) .none kV_21 dc_21 pm_21 an_21 cd_21 ct_21),sl_21⟩) (c_21:PySem.W.codeIn K cd_21 "_law_lists" = true) (k_21:PySem.W.keepIn K (.ref f_21) = true)
   (a_22:PySem.W.nsIn K mainGlobals "_law_choices" = some (some (.ref f_22))) (l_22:K.lookup f_22 = some ⟨oc_22,od_22,.func (PySem.W.fnOf "_law_choices" "_law_choices" (aV dI) (aU dI) (aG dI) .none kV_22 dc_22 pm_22 an_22 cd_22 ct_22),sl_22⟩) (c_22:PySem.W.codeIn K cd_22 "_law_choices" = true) (k_22:PySem.W.keepIn K (.ref f_22) = true)
   (a_23:PySem.W.nsIn K mainGlobals "_law_are_short" = some (some (.ref f_23))) (l_23:K.lookup f_23 = some ⟨oc_23,od_23,.func (PySem.W.fnOf "_law_are_short" "_law_are_short" (aV cC) (aU cC) (aG cC) .none kV_23 dc_23 pm_23 an_23 cd_23 ct_23),sl_23⟩) (c_23:PySem.W.codeIn K cd_23 "_law_are_short" = true) (k_23:PySem.W.keepIn K (.ref f_23) = true)
   (a_24:PySem.W.nsIn K mainGlobals "_law_is_paper" = some (some (.ref f_24))) (l_24:K.lookup f_24 = some ⟨oc_24,od_24,.func (PySem.W.fnOf "_law_is_paper" "_law_is_paper" (aV cK) (aU cK) (aG cK) .none kV_24 dc_24 pm_24 an_24 cd_24 ct_24),sl_24⟩) (c_24:PySem.W.codeIn K cd_24 "_law_is_paper" = true) (k_24:PySem.W.keepIn K (.ref f_24) = true)
   (a_25:PySem.W.nsIn K mainGlobals "_law_good" = some (some (.ref f_25))) (l_25:K.lookup f_25 = some ⟨oc_25,od_25,.func (PySem.W.fnOf "_law_good" "_law_good" (aV fI) (aU fI) (aG fI) .none kV_25 dc_25 pm_25 an_25 cd_25 ct_25),sl_25⟩) (c_25:PySem.W.codeIn K cd_25 "_law_good" = true) (k_25:PySem.W.keepIn K (.ref f_25) = true)
   (a_26:PySem.W.nsIn K mainGlobals "law" = some (some (.ref f_26))) (l_26:K.lookup f_26 = some ⟨oc_26,od_26,.func (PySem.W.fnOf "law" "law" (aV jV) (aU jV) (aG jV) .none kV_26 dc_26 pm_26 an_26 cd_26 ct_26),sl_26⟩) (c_26:PySem.W.codeIn K cd_26 "law" = true) (k_26:PySem.W.keepIn K (.ref f_26) = true)
   (z_len:PySem.W.nsIn K mainGlobals "len" = some none)
   (z_range:PySem.W.nsIn K mainGlobals "range" = some none)
   (z_list:PySem.W.nsIn K mainGlobals "list" = some none)
   (z_max:PySem.W.nsIn K mainGlobals "max" = some none)
   (z_enumerate:PySem.W.nsIn K mainGlobals "enumerate" = some none)
   (z_int:PySem.W.nsIn K mainGlobals "int" = some none)
   (z_sorted:PySem.W.nsIn K mainGlobals "sorted" = some none)
   (z_min:PySem.W.nsIn K mainGlobals "min" = some none)
   (z_sum:PySem.W.nsIn K mainGlobals "sum" = some none)
   (z_set:PySem.W.nsIn K mainGlobals "set" = some none)
   (z_isinstance:PySem.W.nsIn K mainGlobals "isinstance" = some none)
   (z_tuple:PySem.W.nsIn K mainGlobals "tuple" = some none)
   (z_bool:PySem.W.nsIn K mainGlobals "bool" = some none)
   (z_zip:PySem.W.nsIn K mainGlobals "zip" = some none)
   (z_dict:PySem.W.nsIn K mainGlobals "dict" = some none)
   (g_SUBSTITUTES:PySem.W.nsIn K mainGlobals "SUBSTITUTES" = some (some (.str "1234" t_SUBSTITUTES)))
   (g_FLAGS:PySem.W.nsIn K mainGlobals "FLAGS" = some (some (.str "abcdefghijklmnopqrstuvw1234" t_FLAGS)))
   (q_Lack:PySem.W.nsIn K mainGlobals "Lack" = some (some (.ref Zy)))
   (q_TowerError:PySem.W.nsIn K mainGlobals "TowerError" = some (some (.ref Zz)))
   (f_m_Lack:PySem.W.exmOne K (.ref Zy) (.ref Zy) = some true)
   (f_t1_TowerError:PySem.W.specialIn K (.ref Zz) "__getattribute__" = some (some (.builtin "type.__getattribute__")))
   (f_t2_TowerError:PySem.W.readsIn K Zz (.type "type") = true)
   (f_t3_TowerError:PySem.W.findCls K (.ref Zz) (.type "type") "__init__" = some (.val (.builtin "ValueError.__init__")))
   (f_xo_Lack:uE K Zy [.type "ValueError",.type "Exception",.type "BaseException",.type "object"] "ValueError.__new__" = true)
   (f_xk_Lack:PySem.W.keepIn K (.ref Zy) = true)
   (f_xe1_Lack:PySem.W.hasDictIn K Zy = true)
   (f_xe2_Lack:PySem.W.findIn K (.ref Zy) "__getattribute__" = some (some (.builtin "BaseException.__getattribute__")))
   (f_xe3_Lack:PySem.W.findIn K (.ref Zy) "__getattr__" = some none)
   (f_xe4_Lack:PySem.W.findIn K (.ref Zy) "__class__" = some (some (.builtin "object.__class__")))
   (f_xe5_Lack:PySem.W.specialIn K (.builtin "object.__class__") "__get__" = some (some (.builtin "getset_descriptor.__get__")))
   (f_xe6_Lack:PySem.W.takesIn K (.builtin "object.__class__") = some true)
   (f_xe7_Lack:PySem.W.mroIn K Zy (.type "object") = some true)
   (f_xe8_Lack:PySem.W.subIn K (.ref Zy) (.type "BaseException") = some true)
   (f_xs_Lack:PySem.W.findIn K (.ref Zy) "__setattr__" = some (some (.builtin "object.__setattr__")))
   (f_xr_Lack:cQW K Zy Zz = true)
   (f_xv_Lack:PySem.W.subIn K (.ref Zy) (.type "ValueError") = some true)
   (f_xn_Lack_wants:PySem.W.findIn K (.ref Zy) "wants" = some none)
   (f_xn_Lack_flags:PySem.W.findIn K (.ref Zy) "flags" = some none)
   : ∃ fd:FuncData,(∀ (s:Shared) (v:Value),BindsTo s fd ⟨[v],[]⟩ [("_law_script",v)]) ∧ ∀ base:Heap,K.In base → base.Ns mainGlobals mg → FnOk l.prog w K mg base CX0 13 fa fd ["_law_script"] (qG K):=by
 have M:∀ {x:Str} {v:Value},PySem.W.nsIn K mainGlobals x = some (some v) → mg x = some v:=fun h => PySem.W.mg_of X Gn h
 have N:∀ {x:Str},PySem.W.nsIn K mainGlobals x = some none → mg x = none:=fun h => PySem.W.mg_none_of X Gn h
 have e:=hfa.symm.trans (M a_26)
 cases e
 have G:Gs K mg Zy Zz:=⟨M q_Lack,M q_TowerError,f_m_Lack,f_t1_TowerError,f_t2_TowerError,f_t3_TowerError,f_xo_Lack,f_xk_Lack,f_xe1_Lack,f_xe2_Lack,f_xe3_Lack,f_xe4_Lack,f_xe5_Lack,f_xe6_Lack,f_xe7_Lack,f_xe8_Lack,f_xs_Lack,f_xr_Lack,f_xv_Lack,f_xn_Lack_wants,f_xn_Lack_flags,N z_len,N z_range,N z_list,N z_max,N z_enumerate,N z_int,N z_sorted,N z_min,N z_sum,N z_set,N z_isinstance,N z_tuple,N z_bool,N z_zip,N z_dict,⟨_,M g_SUBSTITUTES⟩,⟨_,M g_FLAGS⟩⟩
 have F_0:=bO (st:=fN) l_0 c_0 k_0
 have b_0:=F_0.binds (ps:=["_law_script", "_law_k"]) (by walk_at "bd")
 have F_1:=bO (st:=dU) l_1 c_1 k_1
 have b_1:=F_1.binds (ps:=["_law_cell_here", "_law_many"]) (by walk_at "bd")
 have F_2:=bO (st:=fO) l_2 c_2 k_2
 have b_2:=F_2.binds (ps:=["_law_cell_here", "_law_spread", "_law_longest"]) (by walk_at "bd")
 have F_3:=bO (st:=eB) l_3 c_3 k_3
 have b_3:=F_3.binds (ps:=["_law_cell_here", "_law_words"]) (by walk_at "bd")
 have F_4:=bO (st:=dS) l_4 c_4 k_4
 have b_4:=F_4.binds (ps:=["_law_script", "_law_start", "_law_most", "_law_longest"]) (by walk_at "bd")
 have F_5:=bO (st:=bY) l_5 c_5 k_5
 have b_5:=F_5.binds (ps:=["numbers", "many"]) (by walk_at "bd")
 have F_6:=bO (st:=dF) l_6 c_6 k_6
 have b_6:=F_6.binds (ps:=["words"]) (by walk_at "bd")
 have F_7:=bO (st:=cM) l_7 c_7 k_7
 have b_7:=F_7.binds (ps:=["word", "place"]) (by walk_at "bd")
 have F_8:=bO (st:=cV) l_8 c_8 k_8
 have b_8:=F_8.binds (ps:=["words"]) (by walk_at "bd")
 have F_9:=bO (st:=cF) l_9 c_9 k_9
 have b_9:=F_9.binds (ps:=["locker"]) (by walk_at "bd")
 have F_10:=bO (st:=dJ) l_10 c_10 k_10
 have b_10:=F_10.binds (ps:=["words", "flags"]) (by walk_at "bd")
 have F_11:=bO (st:=cN) l_11 c_11 k_11
 have b_11:=F_11.binds (ps:=["first", "choices", "hung"]) (by walk_at "bd")
 have F_12:=bO (st:=cX) l_12 c_12 k_12
 have b_12:=F_12.binds (ps:=["flag", "asked", "hung"]) (by walk_at "bd")
 have F_13:=bO (st:=dG) l_13 c_13 k_13
 have b_13:=F_13.binds (ps:=["self", "wants", "flags"]) (by walk_at "bd")
 have F_14:=bO (st:=cD) l_14 c_14 k_14
 have b_14:=F_14.binds (ps:=["locker", "words"]) (by walk_at "bd")
 have F_15:=bO (st:=eP) l_15 c_15 k_15
 have b_15:=F_15.binds (ps:=["locker", "words"]) (by walk_at "bd")
 have F_16:=bO (st:=dX) l_16 c_16 k_16
 have b_16:=F_16.binds (ps:=["locker", "words"]) (by walk_at "bd")
 have F_17:=bO (st:=dE) l_17 c_17 k_17
 have b_17:=F_17.binds (ps:=["words", "numbers"]) (by walk_at "bd")
 have F_18:=bO (st:=cB) l_18 c_18 k_18
 have b_18:=F_18.binds (ps:=["locker", "words", "many"]) (by walk_at "bd")
 have F_19:=bO (st:=cS) l_19 c_19 k_19
 have b_19:=F_19.binds (ps:=["locker", "words", "numbers"]) (by walk_at "bd")
 have F_20:=bO (st:=cR) l_20 c_20 k_20
 have b_20:=F_20.binds (ps:=["locker", "words"]) (by walk_at "bd")
 have F_21:=bO (st:=dH) l_21 c_21 k_21
 have b_21:=F_21.binds (ps:=["_law_many", "_law_size"]) (by walk_at "bd")
 have F_22:=bO (st:=dI) l_22 c_22 k_22
 have b_22:=F_22.binds (ps:=["_law_word_here", "_law_place"]) (by walk_at "bd")
 have F_23:=bO (st:=cC) l_23 c_23 k_23
 have b_23:=F_23.binds (ps:=["_law_locker_here", "_law_words", "_law_wants", "_law_flags"]) (by walk_at "bd")
 have F_24:=bO (st:=cK) l_24 c_24 k_24
 have b_24:=F_24.binds (ps:=["_law_locker_here", "_law_words", "_law_paper", "_law_numbers"]) (by walk_at "bd")
 have F_25:=bO (st:=fI) l_25 c_25 k_25
 have b_25:=F_25.binds (ps:=["_law_locker_here", "_law_words"]) (by walk_at "bd")
 have F_26:=bO (st:=jV) l_26 c_26 k_26
 refine ⟨PySem.W.fnOf "law" "law" (aV jV) (aU jV) (aG jV) .none kV_26 dc_26 pm_26 an_26 cd_26 ct_26,fun s v => .of_eq rfl,fun base _ _ => ?_⟩
 have mk:∀ {k:Nat} {x:Str} {ps:List Str} {sp:Sp} {f:Addr} {fd:FuncData},FnOk l.prog w K mg base CX0 k f fd ps sp → mg x = some (.ref f) → PySem.W.keepIn K (.ref f) = true → Binds K fd ps [] → Cal l.prog w K mg base k x ps sp:=fun a b c d => ⟨_,_,a,b,c,d⟩
 have mkX:∀ {k:Nat} {x:Str} {ps:List Str} {sp:Sp} {f:Addr} {fd:FuncData},FnOk l.prog w K mg base (CXr l.prog w) k f fd ps sp → mg x = some (.ref f) → PySem.W.keepIn K (.ref f) = true → Binds K fd ps [] → bJ0 l.prog w K mg base k x ps sp:=fun a b c d => ⟨_,_,a,b,c,d⟩
 have c_l_cell:=mk (yQ F_0 G ) (M a_0) k_0 b_0
 have c_l_stream:=mk (sO F_1 G ) (M a_1) k_1 b_1
 have c_l_word:=mk (yS F_2 G c_l_stream) (M a_2) k_2 b_2
 have c_l_locker:=mk (rO F_3 G c_l_stream) (M a_3) k_3 b_3
 have c_l_drawn:=mk (uB F_4 G c_l_cell c_l_word c_l_locker) (M a_4) k_4 b_4
 have c_rising_lists:Cal l.prog w K mg base 9 "rising_lists" ["numbers", "many"] (bR 8):=⟨f_5,_,aXF bR kJ (M a_5) k_5 b_5 (fun d n c => lG F_5 G c) 8,M a_5,k_5,b_5⟩
 have c_wants_of:=mk (sT F_6 G ) (M a_6) k_6 b_6
 have c_choices_at:=mk (nP F_7 G ) (M a_7) k_7 b_7
 have c_choices_of:=mk (nY F_8 G c_wants_of c_choices_at) (M a_8) k_8 b_8
 have c_plain_locker:=mk (lH F_9 G ) (M a_9) k_9 b_9
 have c_hoists_of:=mk (pW F_10 G ) (M a_10) k_10 b_10
 have c_asked_from:=mk (nS F_11 G ) (M a_11) k_11 b_11
 have c_hang_along:=mk (nU F_12 G ) (M a_12) k_12 b_12
 have c_Lack_init:bXP l.prog w K mg base 1 Zy ["self", "wants", "flags"] (fT Zy):=⟨f_13,_,qU F_13 G ,a_13,y_13,b_13⟩
 have c_hang_all:=mkX (rM F_14 G c_choices_of c_plain_locker c_hoists_of c_asked_from c_hang_along c_Lack_init) (M a_14) k_14 b_14
 have c_lack_of:=mk (tK F_15 G c_hang_all) (M a_15) k_15 b_15
 have c_can_hang:=mk (sJ F_16 G c_lack_of) (M a_16) k_16 b_16
 have c_words_at:=mk (sN F_17 G ) (M a_17) k_17 b_17
 have c_first_hanging:=mk (kD F_18 G c_rising_lists c_can_hang c_words_at) (M a_18) k_18 b_18
 have c_paper_for:=mk (pX F_19 G c_lack_of c_words_at) (M a_19) k_19 b_19
 have c_most_kept:=mk (qI F_20 G c_first_hanging c_rising_lists c_paper_for) (M a_20) k_20 b_20
 have c_l_lists:=mk (uC F_21 G ) (M a_21) k_21 b_21
 have c_l_choices:=mk (pR F_22 G ) (M a_22) k_22 b_22
 have c_l_are_short:=mk (lZ F_23 G c_l_choices) (M a_23) k_23 b_23
 have c_l_is_paper:=mk (nV F_24 G c_l_are_short) (M a_24) k_24 b_24
 have c_l_good:=mk (xR F_25 G c_most_kept c_l_lists c_l_is_paper) (M a_25) k_25 b_25
 exact cXU F_26 G c_l_drawn c_l_good c_l_word c_l_cell
theorem walk {l:PySem.W.OpenLaw} {q:Program} {loose:List Str} {XP:(Str → Option Value) → Heap → Prop} {YP:World → Heap → Prop} {d:DefRec} {K:Params → PySem.W.Frag} (hn:l.most = some 63) (hdf:d.params.defaults = [])
   (hY:∀ (w:World) (h:Heap),YP w h → (K w.params).In h)
   (F:∀ (w:World) (mg:Str → Option Value) (fa:Addr) (h:Heap),(K w.params).In h → h.Ns mainGlobals mg → mg d.name = some (.ref fa) →
     ∃ fd:FuncData,(∀ (s:Shared) (u:Value),BindsTo s fd ⟨[u],[]⟩ [("_law_script",u)]) ∧ ∀ base:Heap,(K w.params).In base → base.Ns mainGlobals mg → FnOk l.prog w (K w.params) mg base CX0 13 fa fd ["_law_script"] (qG (K w.params))) :
   PySem.W.WalkO q loose XP YP l.row.toRowW d [] (fun f vs => PySem.call f vs) :=
 L2.bXB (n:=63) (k:=13) (x := "_law_script") (CX:=fun _ => CX0) (sp:=fun w => qG (K w.params)) hn (by decide) hdf ⟨rfl,by decide,by decide⟩ hY F (fun _ _ a ns hl _ hS => ⟨a,ns,rfl,hS,hl,fun _ => rfl⟩) fun _ _ _ _ _ z => z
end Mine
namespace PySem.W.Fast
theorem tw1565045106706713962:True:=⟨⟩
theorem tw17619029971436455773:True:=⟨⟩
theorem tw542632916121995593:True:=⟨⟩
theorem tw3450641909574574720:True:=⟨⟩
theorem tw12661735567886014176:True:=⟨⟩
theorem tw5651055792597860751:True:=⟨⟩
theorem tw12655946290317264480:True:=⟨⟩
theorem tw14865406068331551978:True:=⟨⟩
theorem tw15123683915729247982:True:=⟨⟩
theorem tw9951494097701550804:True:=⟨⟩
theorem tw10282194310473633233:True:=⟨⟩
theorem tw9172577335450801216:True:=⟨⟩
theorem tw4961643839019342053:True:=⟨⟩
theorem tw2903701686109605451:True:=⟨⟩
theorem tw15490070063593599194:True:=⟨⟩
theorem tw11270527392048749637:True:=⟨⟩
theorem tw2403422407773964168:True:=⟨⟩
theorem tw6389810248812907341:True:=⟨⟩
theorem tw3809175298328538576:True:=⟨⟩
theorem tw531300436400507690:True:=⟨⟩
theorem tw7771725311984286947:True:=⟨⟩
theorem tw2610888490178209796:True:=⟨⟩
theorem tw3859186239751459275:True:=⟨⟩
theorem tw8030178722887408898:True:=⟨⟩
theorem tw723941104335055014:True:=⟨⟩
theorem tw16355875353006368487:True:=⟨⟩
theorem tw12862034158232021400:True:=⟨⟩
theorem tw1107027651915515340:True:=⟨⟩
theorem tw16003366756774819126:True:=⟨⟩
theorem tw10999830032907280877:True:=⟨⟩
theorem tw3605035128131275782:True:=⟨⟩
theorem tw2082508314221512263:True:=⟨⟩
theorem tw13808894277028028150:True:=⟨⟩
theorem tw13368641502753469016:True:=⟨⟩
theorem tw4169373459301891033:True:=⟨⟩
theorem tw12834579729082661757:True:=⟨⟩
theorem tw10270480085703010410:True:=⟨⟩
theorem tw13073712551448906207:True:=⟨⟩
theorem tw15676721540174035890:True:=⟨⟩
theorem tw6617010851133296073:True:=⟨⟩
theorem tw11834388007487190958:True:=⟨⟩
theorem tw3854706976992551604:True:=⟨⟩
theorem tw10279938750657703937:True:=⟨⟩
theorem tw1071318040918010303:True:=⟨⟩
theorem tw4889220582100777270:True:=⟨⟩
theorem tw5469193895163525412:True:=⟨⟩
theorem tw12479091348853757737:True:=⟨⟩
theorem tw1059347686901529076:True:=⟨⟩
theorem tw14427349306969657706:True:=⟨⟩
theorem tw7401486164396951919:True:=⟨⟩
theorem tw275560916274955273:True:=⟨⟩
theorem tw15427561470448520145:True:=⟨⟩
theorem tw2607058402686605666:True:=⟨⟩
theorem tw5730909431817935609:True:=⟨⟩
theorem tw1577296538006960191:True:=⟨⟩
theorem tw950907265267722615:True:=⟨⟩
theorem tw15163688424505339795:True:=⟨⟩
theorem tw15445635343387881776:True:=⟨⟩
theorem tw4302271639296895127:True:=⟨⟩
theorem tw16400582119220640563:True:=⟨⟩
theorem tw16401754491443412481:True:=⟨⟩
theorem tw2447118435935299713:True:=⟨⟩
theorem tw11877859176974499068:True:=⟨⟩
theorem tw12349853775370004351:True:=⟨⟩
theorem tw1692375871828488579:True:=⟨⟩
theorem tw17743256994116161916:True:=⟨⟩
theorem tw8867318862210752263:True:=⟨⟩
theorem tw10553823192558714506:True:=⟨⟩
theorem tw8759255628875660705:True:=⟨⟩
theorem tw17055141062565323659:True:=⟨⟩
theorem tw3164193231973223421:True:=⟨⟩
theorem tw4638901587132124397:True:=⟨⟩
theorem tw17048668406575107822:True:=⟨⟩
theorem tw9861449881636273737:True:=⟨⟩
theorem tw5007560364088560817:True:=⟨⟩
theorem tw10534023899713271637:True:=⟨⟩
theorem tw6887098627919284116:True:=⟨⟩
theorem tw7557077587773120277:True:=⟨⟩
theorem tw5222052577592463409:True:=⟨⟩
theorem tw3595327442145937878:True:=⟨⟩
theorem tw15750197948279116441:True:=⟨⟩
theorem tw17761387547648965454:True:=⟨⟩
theorem tw16793290470292791453:True:=⟨⟩
theorem tw942354093589817013:True:=⟨⟩
theorem tw3442770473856125087:True:=⟨⟩
theorem tw4784496603268732863:True:=⟨⟩
theorem tw318048998503197839:True:=⟨⟩
theorem tw3948674992249776898:True:=⟨⟩
theorem tw8087823994893632202:True:=⟨⟩
theorem tw4710555257889294462:True:=⟨⟩
theorem tw12411833214177382012:True:=⟨⟩
theorem tw7289092195637357655:True:=⟨⟩
theorem tw13509707854279370226:True:=⟨⟩
theorem tw17636930299327123857:True:=⟨⟩
theorem tw10455273692734826952:True:=⟨⟩
theorem tw5267990131807877879:True:=⟨⟩
theorem tw3803018741514958485:True:=⟨⟩
theorem tw5875791977107342796:True:=⟨⟩
theorem tw18210560649368269594:True:=⟨⟩
theorem tw6436793067402115730:True:=⟨⟩
theorem tw15653972352394295898:True:=⟨⟩
theorem tw14805279298419893863:True:=⟨⟩
theorem tw7840998857006517636:True:=⟨⟩
theorem tw16968496669123092603:True:=⟨⟩
theorem tw12349609098580498714:True:=⟨⟩
theorem tw6679692983228877978:True:=⟨⟩
theorem tw10466542003363648955:True:=⟨⟩
theorem tw7126623505463553091:True:=⟨⟩
theorem tw12093326936100738204:True:=⟨⟩
theorem tw7835608541130214167:True:=⟨⟩
theorem tw4119789442307563152:True:=⟨⟩
theorem tw13281646826009524266:True:=⟨⟩
theorem tw10693745019236439916:True:=⟨⟩
theorem tw13852842997738906503:True:=⟨⟩
theorem tw478894976875712757:True:=⟨⟩
theorem tw15221873706511598673:True:=⟨⟩
theorem tw10453837215380731708:True:=⟨⟩
theorem tw1163924480788682624:True:=⟨⟩
theorem tw8475580573405521824:True:=⟨⟩
theorem tw11124869211684019807:True:=⟨⟩
theorem tw866678574628567304:True:=⟨⟩
theorem tw12705583660267541611:True:=⟨⟩
theorem tw5347403732650046426:True:=⟨⟩
theorem tw7112937198817265009:True:=⟨⟩
theorem tw6591304554631350572:True:=⟨⟩
theorem tw4623344289922037435:True:=⟨⟩
theorem tw1862004489807890399:True:=⟨⟩
theorem tw5819114773736046586:True:=⟨⟩
theorem tw15929752852527243046:True:=⟨⟩
theorem tw10874816514942387293:True:=⟨⟩
theorem tw51167158439953217:True:=⟨⟩
theorem tw13094147283247781909:True:=⟨⟩
theorem tw1298013477731902919:True:=⟨⟩
theorem tw11125569741653917077:True:=⟨⟩
theorem tw4834961035496857136:True:=⟨⟩
theorem tw8813930065513789476:True:=⟨⟩
theorem tw6452752050621528397:True:=⟨⟩
theorem tw17978895640196191579:True:=⟨⟩
theorem tw10136639957513021718:True:=⟨⟩
theorem tw188912570138846874:True:=⟨⟩
theorem tw7700651670608109619:True:=⟨⟩
theorem tw788405979363187870:True:=⟨⟩
theorem tw6158466619068964238:True:=⟨⟩
theorem tw5067559806616662548:True:=⟨⟩
theorem tw5248306067637734784:True:=⟨⟩
theorem tw7073359523955515303:True:=⟨⟩
theorem tw3676921019395699013:True:=⟨⟩
theorem tw14909554729498263390:True:=⟨⟩
theorem tw17521520522485607148:True:=⟨⟩
theorem tw17585640256447883555:True:=⟨⟩
theorem tw16352658132600188153:True:=⟨⟩
theorem tw10818543185609382514:True:=⟨⟩
theorem tw9281536634491768398:True:=⟨⟩
theorem tw14165026314584161876:True:=⟨⟩
theorem tw16240517214768448390:True:=⟨⟩
theorem tw12923898624871431215:True:=⟨⟩
theorem tw14842764523375769637:True:=⟨⟩
theorem tw10489609971988730273:True:=⟨⟩
theorem tw1198200790135427403:True:=⟨⟩
theorem tw8155390972437235657:True:=⟨⟩
theorem tw17916983212330750649:True:=⟨⟩
theorem tw15314480698387816330:True:=⟨⟩
theorem tw14227738215639892452:True:=⟨⟩
theorem tw12539412851627152470:True:=⟨⟩
theorem tw1408578713352233503:True:=⟨⟩
theorem tw15816092704524009292:True:=⟨⟩
theorem tw7231400431580643399:True:=⟨⟩
theorem tw4976904835543846845:True:=⟨⟩
theorem tw10018974267149017970:True:=⟨⟩
theorem tw9945183242757428667:True:=⟨⟩
theorem tw3285483749705831708:True:=⟨⟩
theorem tw18413501128994278137:True:=⟨⟩
theorem tw148909464939619612:True:=⟨⟩
theorem tw9258747567202944761:True:=⟨⟩
theorem tw2311333399085178189:True:=⟨⟩
theorem tw682306370130747220:True:=⟨⟩
theorem tw1010812111305649460:True:=⟨⟩
theorem tw2658217711469017901:True:=⟨⟩
theorem tw13187139260082594731:True:=⟨⟩
theorem tw4926710049540059555:True:=⟨⟩
theorem tw13975159325034471516:True:=⟨⟩
theorem tw10986826101448692976:True:=⟨⟩
theorem tw4588685671441565703:True:=⟨⟩
theorem tw10906363357191286573:True:=⟨⟩
theorem tw17754705569103122267:True:=⟨⟩
theorem tw9037104858750024057:True:=⟨⟩
theorem tw15195313537337557869:True:=⟨⟩
theorem tw6328466722600189139:True:=⟨⟩
theorem tw4715592290374390868:True:=⟨⟩
end PySem.W.Fast
open PySem PySem.W PyProof.Rows
set_option maxRecDepth 100000 in
set_option maxHeartbeats 0 in
theorem PySem.Challenge.cw_flaglocker_k22_papers_that_no_more_can_holds : PySem.Challenge.rw_flaglocker_k22_papers_that_no_more_can.Holds := by
  w_on; o_law; k_head; (case hw => w_witness2)
  k_fill
  refine Mine.walk (l:=PySem.Challenge.rw_flaglocker_k22_papers_that_no_more_can) rfl rfl (fun w h Y => PySem.W.kIn_of Y) ?F
  case F =>
    intro w mg fa h KX G hmg
    refine' Mine.all_mk KX G hmg ?a_0 ?l_0 ?c_0 ?k_0 ?a_1 ?l_1 ?c_1 ?k_1 ?a_2 ?l_2 ?c_2 ?k_2 ?a_3 ?l_3 ?c_3 ?k_3 ?a_4 ?l_4 ?c_4 ?k_4 ?a_5 ?l_5 ?c_5 ?k_5 ?a_6 ?l_6 ?c_6 ?k_6 ?a_7 ?l_7 ?c_7 ?k_7 ?a_8 ?l_8 ?c_8 ?k_8 ?a_9 ?l_9 ?c_9 ?k_9 ?a_10 ?l_10 ?c_10 ?k_10 ?a_11 ?l_11 ?c_11 ?k_11 ?a_12 ?l_12 ?c_12 ?k_12 ?y_13 ?a_13 ?l_13 ?c_13 ?k_13 ?a_14 ?l_14 ?c_14 ?k_14 ?a_15 ?l_15 ?c_15 ?k_15 ?a_16 ?l_16 ?c_16 ?k_16 ?a_17 ?l_17 ?c_17 ?k_17 ?a_18 ?l_18 ?c_18 ?k_18 ?a_19 ?l_19 ?c_19 ?k_19 ?a_20 ?l_20 ?c_20 ?k_20 ?a_21 ?l_21 ?c_21 ?k_21 ?a_22 ?l_22 ?c_22 ?k_22 ?a_23 ?l_23 ?c_23 ?k_23 ?a_24 ?l_24 ?c_24 ?k_24 ?a_25 ?l_25 ?c_25 ?k_25 ?a_26 ?l_26 ?c_26 ?k_26 ?z_len ?z_range ?z_list ?z_max ?z_enumerate ?z_int ?z_sorted ?z_min ?z_sum ?z_set ?z_isinstance ?z_tuple ?z_bool ?z_zip ?z_dict ?g_SUBSTITUTES ?g_FLAGS ?q_Lack ?q_TowerError ?f_m_Lack ?f_t1_TowerError ?f_t2_TowerError ?f_t3_TowerError ?f_xo_Lack ?f_xk_Lack ?f_xe1_Lack ?f_xe2_Lack ?f_xe3_Lack ?f_xe4_Lack ?f_xe5_Lack ?f_xe6_Lack ?f_xe7_Lack ?f_xe8_Lack ?f_xs_Lack ?f_xr_Lack ?f_xv_Lack ?f_xn_Lack_wants ?f_xn_Lack_flags
    (case q_Lack | q_TowerError | a_0 | l_0 | c_0 | k_0 | a_1 | l_1 | c_1 | k_1 | a_2 | l_2 | c_2 | k_2 | a_3 | l_3 | c_3 | k_3 | a_4 | l_4 | c_4 | k_4 | a_5 | l_5 | c_5 | k_5 | a_6 | l_6 | c_6 | k_6 | a_7 | l_7 | c_7 | k_7 | a_8 | l_8 | c_8 | k_8 | a_9 | l_9 => k_is)
    (case c_9 | k_9 | a_10 | l_10 | c_10 | k_10 | a_11 | l_11 | c_11 | k_11 | a_12 | l_12 | c_12 | k_12 | a_13 | l_13 | c_13 | k_13 | a_14 | l_14 | c_14 | k_14 | a_15 | l_15 | c_15 | k_15 | a_16 | l_16 | c_16 | k_16 | a_17 | l_17 | c_17 | k_17 | a_18 | l_18 | c_18 | k_18 | a_19 | l_19 => k_is)
    (case c_19 | k_19 | a_20 | l_20 | c_20 | k_20 | a_21 | l_21 | c_21 | k_21 | a_22 | l_22 | c_22 | k_22 | a_23 | l_23 | c_23 | k_23 | a_24 | l_24 | c_24 | k_24 | a_25 | l_25 | c_25 | k_25 | a_26 | l_26 | c_26 | k_26 | z_len | z_range | z_list | z_max | z_enumerate | z_int | z_sorted | z_min | z_sum | z_set => k_is)
    (case z_isinstance | z_tuple | z_bool | z_zip | z_dict | g_SUBSTITUTES | g_FLAGS => k_is)
    (case f_m_Lack => kts_exm)
    (case f_t1_TowerError | f_t2_TowerError | f_t3_TowerError => k_is)
    (case f_xo_Lack => kernel_rfl!)
    (case f_xk_Lack | f_xe1_Lack | f_xe2_Lack | f_xe3_Lack | f_xe4_Lack | f_xe5_Lack | f_xe6_Lack | f_xe7_Lack | f_xe8_Lack | f_xs_Lack => k_is)
    (case f_xr_Lack => kernel_rfl!)
    (case f_xv_Lack | f_xn_Lack_wants | f_xn_Lack_flags | y_13 => k_is)
