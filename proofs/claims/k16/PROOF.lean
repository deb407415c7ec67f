import PyProof.Rows.All
import Wide.All
import OpenK.AllK
import Wide.FinOn
import Lean
import PyProof.EqAt
import PyProof.EqKinds
import PyProof.TupleCall
import PySem.Challenge.RW_flaglocker_k16_just_enough_flags
set_option Elab.async false
set_option compiler.extract_closed false
set_option linter.all false
set_option maxRecDepth 100000
abbrev Aa:=@PySem.wpAny_bind
abbrev Ab:=@List.getElem?_eq_getElem
abbrev Ac:=@List.length_map
abbrev Ad:=@PySem.Heap.get?_push_of_some
abbrev Ae:=@PySem.wpAny_pure
abbrev Af:=@List.getElem?_eq_some_iff
abbrev Ag:=@List.getD_eq_getElem?_getD
abbrev Ah:=@Array.getD_eq_getD_getElem?
abbrev Ai:=@Nat.le_refl
abbrev Aj:=@Array.getElem?_eq_getElem
abbrev Ak:=@PySem.Heap.lt_size
abbrev Al:=@List.getElem?_map
abbrev Am:=@List.mem_cons_of_mem
abbrev An:=@List.mem_cons_self
abbrev Ao:=@Bool.false_ne_true
abbrev Ap:=@PySem.Heap.get?_push_size
abbrev Aq:=@List.mem_singleton
abbrev Ar:=@List.length_append
abbrev As:=@List.mem_of_getElem?
abbrev Au:=@decide_eq_true
abbrev Av:=@Nat.ne_of_lt
abbrev Aw:=@Array.length_toList
abbrev Ax:=@List.map_append
abbrev Ay:=@List.map_cons
abbrev Az:=@List.mem_append_right
abbrev Ba:=@List.getElem?_append_left
abbrev Bb:=@Nat.lt_of_lt_of_le
abbrev Bc:=@List.mem_map
abbrev Bd:=@decide_eq_false
abbrev Be:=@List.mem_cons
abbrev Bf:=@List.getElem?_append_right
abbrev Bg:=@Nat.le_trans
abbrev Bh:=@List.getElem_mem
abbrev Bi:=@List.length_cons
abbrev Bj:=@PySem.Heap.get?_update_other
abbrev Bk:=@decide_eq_true_iff
abbrev Bl:=@PySem.wpAny_setState_of
abbrev Bm:=@List.pairwise_iff_getElem
abbrev Bn:=@List.mem_range
abbrev Bo:=@Option.some.inj
abbrev Bp:=@PySem.PassesOwn.never
abbrev Bq:=@List.take_add_one
abbrev Br:=@of_decide_eq_true
abbrev Bs:=@List.append_nil
abbrev Bt:=@PySem.F.slot_dict_get
abbrev Bu:=@List.size_toArray
abbrev Bv:=@PySem.wpAny_holding
abbrev Bw:=@PySem.wpAny_mono
abbrev Bx:=@Array.getElem?_eq_some_iff
abbrev By:=@List.length_take
abbrev Bz:=@Array.getElem?_toList
abbrev Ca:=@List.nodup_cons
abbrev Cb:=@PySem.wpAny_loadPart'
abbrev Cc:=@PySem.wpAny_call_entry
abbrev Cd:=@Int.toNat_natCast
abbrev Ce:=@List.mem_filterMap
abbrev Cf:=@List.filterMap_append
abbrev Cg:=@List.map_congr_left
abbrev Ci:=@List.mem_append
abbrev Cj:=@List.take_length
abbrev Ck:=@Option.map_eq_some_iff
abbrev Cm:=@Array.getElem?_eq_none
abbrev Co:=@List.mem_iff_getElem
abbrev Cp:=@List.map_map
abbrev Cq:=@Nat.zero_le
abbrev Cr:=@congrArg
abbrev Cs:=@List.length_range
abbrev Ct:=@PySem.wpAny_field
abbrev Cu:=@PySem.wpAny_passesOwn
abbrev Cv:=@Nat.lt_irrefl
abbrev Cw:=@PySem.Heap.SameBut.update
abbrev Cy:=@PySem.F.type_dict_get
abbrev Cz:=@PyProof.Rows.callWith_type1
abbrev Da:=@List.mem_append_left
abbrev Dc:=@PySem.Obj.data_mapFields
abbrev Dd:=@PySem.Around.under_plainId
abbrev De:=@PySem.W.kia_one
abbrev Df:=@List.sum_cons
abbrev Dg:=@decide_eq_decide
abbrev Dh:=@beq_eq_false_iff_ne
abbrev Di:=@PySem.mem_of_lookup
abbrev Dj:=@PySem.Heap.get?_update_self
abbrev Dk:=@List.length_filterMap_le
abbrev Dm:=@Array.getElem_mem_toList
abbrev Do:=@List.mem_filter
abbrev Dp:=@List.range_succ
abbrev Dq:=@PySem.F.plainAttrs_list
abbrev Dr:=@List.countP_cons
abbrev Ds:=@List.take_of_length_le
abbrev Dt:=@Nat.lt_succ_of_lt
abbrev Du:=@Bool.eq_false_iff
abbrev Dv:=@PySem.codeAny_builtin
abbrev Dw:=@List.mem_iff_getElem?
abbrev Dx:=@Nat.lt_succ_self
abbrev Dy:=@PySem.wpAny_Call_Name_kw
abbrev Dz:=@List.all_eq_true
abbrev Ea:=@List.lookup_cons
abbrev Eb:=@List.getElem_map
abbrev Ec:=@PySem.wpAny_askSetting
abbrev Ed:=@of_decide_eq_false
abbrev Ee:=@Array.mem_toList_iff
abbrev Ef:=@PySem.wpAny_typeNameOfWhole_keyiter
abbrev Eg:=@PySem.wpAny_newObj_type
abbrev Eh:=@List.pairwise_map
abbrev Ei:=@PySem.F.slot_dict_keyiterator_next
abbrev Ej:=@List.filterMap_cons
abbrev Ek:=@PySem.codeAny_mono
abbrev El:=@PySem.plainId_quiet
abbrev Em:=@PySem.Heap.size_push
abbrev En:=@PySem.tupleKind_room_in1
abbrev Eo:=@List.filterMap_nil
abbrev Ep:=@Array.mem_of_getElem?
abbrev Er:=@Option.isNone_iff_eq_none
abbrev Et:=@Option.map_some
abbrev Eu:=@PySem.wpAny_specialOf
abbrev Ew:=@Int.emod_nonneg
abbrev Ey:=@Nat.not_lt_zero
abbrev Ez:=@List.mem_of_mem_take
abbrev Fa:=@List.nodup_append
abbrev Fb:=@Option.isSome_iff_exists
abbrev Fc:=@PySem.wpAny_comprehension_free
abbrev Fd:=@PySem.wpAny_attempt
abbrev Fe:=@List.filterMap_cons_some
abbrev Ff:=@PySem.F.slot_list_append
abbrev Fg:=@PySem.F.type_list_append
abbrev Fh:=@List.toList_toArray
abbrev Fi:=@List.length_drop
abbrev Fj:=@Bool.and_eq_true
abbrev Fk:=@PySem.wpAny_getItem_str_slice
abbrev Fl:=@Nat.le_of_lt
abbrev Fm:=@Nat.ne_of_gt
abbrev Fn:=@PySem.W.callWith_K
abbrev Fo:=@PySem.F.entry_dict_get
abbrev Fp:=@Array.toList_filterMap
abbrev Fq:=@List.pairwise_lt_range
abbrev Fs:=@List.filter_append
abbrev Ft:=@List.countP_eq_length
abbrev Fu:=@Classical.choose_spec
abbrev Fv:=@List.countP_le_length
abbrev Fw:=@List.getElem?_zipWith
abbrev Fx:=@PySem.wpAny_loadPart_at
abbrev Fy:=@List.append_assoc
abbrev Fz:=@PySem.Heap.get?_none_of_le
abbrev Ga:=@List.getElem?_set_ne
abbrev Gb:=@PySem.wpAny_call
abbrev Gc:=@beq_iff_eq
abbrev Gd:=@PySem.codeAny_call_builtin
abbrev Ge:=@Array.toList_extract
abbrev Gf:=@List.getElem_inj
abbrev Gg:=@Nat.le_add_right
abbrev Gh:=@List.filter_cons
abbrev Gi:=@Nat.succ_pos
abbrev Gj:=@Nat.lt_of_not_le
abbrev Gk:=@List.filterMap_cons_none
abbrev Gm:=@List.Pairwise.imp_of_mem
abbrev Gp:=@PySem.wpAny_execs_nil
abbrev Gq:=@PySem.SeqAt.EqAt.same
abbrev Gr:=@PySem.W.of_hideAll
abbrev Gu:=@Nat.lt_of_le_of_lt
abbrev Gv:=@Int.emod_lt_of_pos
abbrev Gw:=@List.getElem_range
abbrev Gx:=@List.pairwise_cons
abbrev Gy:=@Nat.add_sub_cancel_left
abbrev Gz:=@List.getElem?_set_self
abbrev Ha:=@PySem.wpAny_truthy_bool
abbrev Hb:=@PySem.W.cellsFrom_some
abbrev He:=@PySem.wpAny_pyIter_list
abbrev Hf:=@PySem.wpAny_setField
abbrev Hg:=@Option.isSome_map
abbrev Hh:=@PySem.call_meetsIn
abbrev Hi:=@PySem.fastTable_eq_tree
abbrev Hj:=@PySem.wpAny_storeSet_of
abbrev Hk:=@beq_self_eq_true
abbrev Hl:=@Nat.min_eq_right
abbrev Hm:=@List.any_cons
abbrev Hn:=@PySem.wpAny_standAt
abbrev Ho:=@Bool.false_or
abbrev Hq:=@Int.le_refl
abbrev Hr:=@Nat.zero_add
abbrev Ht:=@Nat.not_lt
abbrev Hv:=@Nat.mod_lt
abbrev Hw:=@PySem.intKind_is
namespace L2
open PySem PySem.Spec PyProof.Rows
abbrev Key:=Sum Int Str
def gW:Key → Value → Bool
 | .inl k,v => Value.isInt k v
 | .inr x,v => Value.isStrOf x v
def cZU (w:World):Key → Int
 | .inl k => hashInt k
 | .inr x => hashStr w x
theorem bB:∀ {k:Key} {v:Value},gW k v = true → (∃ i t,k = Sum.inl i ∧ v = Value.int i t) ∨ (∃ x t,k = Sum.inr x ∧ v = Value.str x t)
 | .inl i,v,h => by
   obtain ⟨t,e⟩:=Value.isInt_shape (k:=i) (v:=v) h
   exact .inl ⟨i,t,rfl,e⟩
 | .inr x,v,h => by
   obtain ⟨t,e⟩:=Value.isStrOf_shape (x:=x) (v:=v) h
   exact .inr ⟨x,t,rfl,e⟩
theorem yZ (i:Int) (t:Tok):gW (.inl i) (.int i t) = true:=by simp [gW,Value.isInt]
theorem yL (x:Str) (t:Tok):gW (.inr x) (.str x t) = true:=by simp [gW,Value.isStrOf]
theorem cQO (a b:Int):decide ((Sum.inl a:Key) = Sum.inl b) = (a == b):=by
 by_cases e:a = b
 · subst e; simp
 · have h:¬ (Sum.inl a:Key) = Sum.inl b:=fun q => e (Sum.inl.inj q)
   rw [Bd h]
   exact (Dh.mpr e).symm
theorem cQQ (a b:Str):decide ((Sum.inr a:Key) = Sum.inr b) = decide (a = b):=by
 by_cases e:a = b
 · subst e; simp
 · have h:¬ (Sum.inr a:Key) = Sum.inr b:=fun q => e (Sum.inr.inj q)
   rw [Bd h,Bd e]
theorem cQB (a:Int) (b:Str):decide ((Sum.inl a:Key) = Sum.inr b) = false:=Bd (fun q => nomatch q)
theorem cQG (a:Str) (b:Int):decide ((Sum.inr a:Key) = Sum.inl b) = false:=Bd (fun q => nomatch q)
def aM (prog:Program) (w:World):PySem.KeyKind prog w Key where
 is:=gW
 hash:=cZU w
 inj:=fun v a b ha hb => by
   rcases bB ha with ⟨i,t,rfl,rfl⟩ | ⟨x,t,rfl,rfl⟩
   · rcases bB hb with ⟨j,u,rfl,e⟩ | ⟨y,u,rfl,e⟩
     · injection e with e1 _; rw [e1]
     · exact nomatch e
   · rcases bB hb with ⟨j,u,rfl,e⟩ | ⟨y,u,rfl,e⟩
     · exact nomatch e
     · injection e with e1 _; rw [e1]
 byValue:=fun k v h => by
   rcases bB h with ⟨i,t,rfl,rfl⟩ | ⟨x,t,rfl,rfl⟩ <;> rfl
 pyHash:=fun hv h => by
   rcases bB hv with ⟨i,t,rfl,rfl⟩ | ⟨x,t,rfl,rfl⟩
   · exact wpAny_pyHash_int h
   · exact wpAny_pyHash_str h
 eqBool:=fun hu hv h => by
   rcases bB hu with ⟨i,t,rfl,rfl⟩ | ⟨x,t,rfl,rfl⟩
   · rcases bB hv with ⟨j,u,rfl,rfl⟩ | ⟨y,u,rfl,rfl⟩
     · rw [cQO] at h; exact wpAny_eqBool_int h
     · rw [cQB] at h; exact SeqAt.EqAt.int_str i t y u _ _ _ _ h
   · rcases bB hv with ⟨j,u,rfl,rfl⟩ | ⟨y,u,rfl,rfl⟩
     · rw [cQG] at h; exact SeqAt.EqAt.str_int x t j u _ _ _ _ h
     · rw [cQQ] at h; exact wpAny_eqBool_str h
 «strs» := fun k x t v h => by
   rcases bB h with ⟨i,u,rfl,e⟩ | ⟨y,u,rfl,e⟩
   · exact nomatch e
   · injection e with e1 _
     subst e1
     cases v <;> rfl
theorem sC (prog:Program) (w:World) (i:Int) (t:Tok):(aM prog w).is (.inl i) (.int i t) = true:=yZ i t
theorem rF (prog:Program) (w:World) (x:Str) (t:Tok):(aM prog w).is (.inr x) (.str x t) = true:=yL x t
end L2
namespace L2
open PySem PySem.Spec PyProof.Rows
inductive V where
 | non | bl (b:Bool) | int (i:Int) | str (x:Str) | byt (b:Array UInt8) | flt (b:UInt64) | ref (a:Addr) | ty (n:String)
 deriving DecidableEq
def RelV:V → Value → Prop
 | .non,u => u = Value.none
 | .bl b,u => u = Value.bool b
 | .int i,u => ∃ t,u = Value.int i t
 | .str x,u => ∃ t,u = Value.str x t
 | .byt b,u => ∃ t,u = Value.bytes b t
 | .flt b,u => ∃ t,u = Value.float b t
 | .ref a,u => u = Value.ref a
 | .ty n,u => u = Value.type n
abbrev Vals:List V → List Value → Prop:=Paired RelV
theorem Vals.length {xs:List V} {us:List Value} (r:Vals xs us):xs.length = us.length:=Paired.length r
theorem Vals.get:∀ {xs:List V} {us:List Value} {i:Nat} {x:V},Vals xs us → xs[i]? = some x → ∃ u,us[i]? = some u ∧ RelV x u
 | _,_,_,_,.nil,e => by simp at e
 | _,_,0,_,.cons r _,e => by simp at e; subst e; exact ⟨_,rfl,r⟩
 | _,_,i + 1,x,.cons _ t,e => by
   obtain ⟨u,h1,h2⟩:=Vals.get (i:=i) (x:=x) t (by simpa using e)
   exact ⟨u,by simpa using h1,h2⟩
theorem Vals.set {x:V} {u:Value} (r:RelV x u):∀ {xs:List V} {us:List Value} (i:Nat),Vals xs us → Vals (xs.set i x) (us.set i u)
 | _,_,_,.nil => .nil
 | _,_,0,.cons _ t => .cons r t
 | _,_,i + 1,.cons q t => .cons q (Vals.set r i t)
theorem Vals.append:∀ {xs ys:List V} {us ws:List Value},Vals xs us → Vals ys ws → Vals (xs ++ ys) (us ++ ws)
 | _,_,_,_,.nil,s => s
 | _,_,_,_,.cons r t,s => .cons r (Vals.append t s)
theorem Vals.take:∀ {xs:List V} {us:List Value} (n:Nat),Vals xs us → Vals (xs.take n) (us.take n)
 | _,_,0,_ => .nil
 | _,_,_ + 1,.nil => .nil
 | _,_,n + 1,.cons r t => .cons r (Vals.take n t)
theorem Vals.drop:∀ {xs:List V} {us:List Value} (n:Nat),Vals xs us → Vals (xs.drop n) (us.drop n)
 | _,_,0,r => r
 | _,_,_ + 1,.nil => .nil
 | _,_,n + 1,.cons _ t => Vals.drop n t
theorem Vals.none_of:∀ {xs:List V} {us:List Value} {i:Nat},Vals xs us → xs[i]? = none → us[i]? = none:=fun {xs us i} r e => by
 have h1:=r.length
 have h2:xs.length ≤ i:=List.getElem?_eq_none_iff.mp e
 exact List.getElem?_eq_none_iff.mpr (by omega)
def RelO:Option V → Option Value → Prop
 | some v,some u => RelV v u
 | none,none => True
 | _,_ => False
def KV {κ:Type}:List (κ × V) → List (κ × Value) → Prop:=Paired fun (p:κ × V) (q:κ × Value) => p.1 = q.1 ∧ RelV p.2 q.2
def kV:Key → V
 | .inl i => .int i
 | .inr x => .str x
inductive HO where
   | lst (xs:List V)
   | tup (xs:List V)
   | dK (kvs:List (Key × V)) | dT (kvs:List (List Key × V))
   | set (S:Int → Bool) (n:Nat)
   | ins (C dx:Addr) (fs:List (Str × V))
   | own (x:Addr)
   | xd (fs:List (Str × V))
   | met (f x:Addr)
   | rng (lo hi:Int)
   | frz (o:Obj) (u:HO)
   | tbl (ps:Array Value)
   | ext (φ:Heap → Prop)
abbrev Hp:=Addr → Option HO
def upd (H:Hp) (a:Addr) (o:HO):Hp:=fun b => if b = a then some o else H b
theorem aB {H:Hp} {a:Addr} {o:HO}:upd H a o a = some o:=by unfold upd; rw [if_pos rfl]
theorem aH {H:Hp} {a b:Addr} {o:HO} (h:b ≠ a):upd H a o b = H b:=by unfold upd; rw [if_neg h]
theorem bXG {H:Hp} {a:Addr} {o u:HO}:upd (upd H a o) a u = upd H a u:=by
 funext b; unfold upd; split <;> rfl
theorem cZS {H:Hp} {a b:Addr} {o u:HO} (h:H a = some o) (h':H b = some u) (d:o ≠ u):a ≠ b:=by
 intro e; subst e; rw [h] at h'; exact d (Bo h')
theorem aZ {H:Hp} {a b:Addr} {o:HO} (h:H a = some o) (h':H b = none):a ≠ b:=by
 intro e; subst e; rw [h] at h'; cases h'
section
variable (P:Program) (w:World)
def ObjOk (H:Hp) (h:Heap) (a:Addr):HO → Prop
 | .lst xs => xs.length ≤ sizeLine ∧ ∃ (its:List Value) (n:Nat),Vals xs its ∧ h.get? a = some { cls:=.type "list",data:=.seq its.toArray n }
 | .tup xs => xs.length ≤ sizeLine ∧ ∃ its:List Value,Vals xs its ∧ IsTup h a its.toArray
 | .dK kvs => kvs.length ≤ sizeLine ∧ (a == sysModules) = false ∧ ∃ vs,KV kvs vs ∧ h.DictOf (aM P w) a vs
 | .dT kvs => kvs.length ≤ sizeLine ∧ (a == sysModules) = false ∧ ∃ xs:List (List Key × Addr × Value),
     Paired (fun (p:List Key × V) (q:List Key × Addr × Value) => p.1 = q.1 ∧ H q.2.1 = some (.tup (p.1.map kV)) ∧ RelV p.2 q.2.2) kvs xs ∧
     ∃ o es ep,h.get? a = some o ∧ o.ExactDict ∧ o.data = .dict es ep ∧ es.toList = xs.map (entryOfKey (tupleKind (aM P w))) ∧ (xs.map (·.1)).Nodup
 | .set S n => h.SetOf (intKind P w) a S n
 | .ins C dx fs => H dx = some (.own a) ∧ fs.length ≤ 1000 ∧ dx ≠ a ∧ h.get? a = some (PySem.W.instObj C dx) ∧
     ∃ mA,h.Ns1 dx mA ∧ (∀ f,RelO (fs.lookup f) (mA f)) ∧ PySem.Within mA (fs.map (·.1))
 | .own _ => ∃ o,h.get? a = some o
 | .xd fs => ∃ mA,h.Ns1 a mA ∧ ∀ f,RelO (fs.lookup f) (mA f)
 | .rng lo hi => ∃ t u v,h.get? a = some { cls:=.type "range",data:=.fields #[.int lo t,.int hi u,.int 1 v] }
 | .frz o u => h.get? a = some o ∧ ObjOk H h a u
 | .tbl ps => h.get? a = some { cls:=.none,data:=.fields ps }
 | .met f x => h.get? a = some (PySem.W.methodObj (.ref f) (.ref x))
 | .ext φ => φ h ∧ (∃ o,h.get? a = some o) ∧ ∀ h1 h2:Heap,φ h1 → (∀ o,h1.get? a = some o → h2.get? a = some o) → φ h2
def HOk (H:Hp) (h:Heap):Prop:=∀ a o,H a = some o → ObjOk P w H h a o
end
section
variable {P:Program} {w:World} {H H':Hp} {h h':Heap} {a:Addr} {o:HO}
theorem ObjOk.lt (x:ObjOk P w H h a o):a < h.objs.size:=by
 cases o with
 | lst xs => obtain ⟨_,_,_,_,e⟩:=x; exact Ak e
 | tup xs => obtain ⟨_,_,_,p⟩:=x; exact p.lt
 | dK kvs => obtain ⟨_,_,_,_,o,_,_,e,_⟩:=x; exact Ak e
 | dT kvs => obtain ⟨_,_,_,_,o,_,_,e,_⟩:=x; exact Ak e
 | set S n => obtain ⟨o,_,_,_,e,_⟩:=x; exact Ak e
 | ins C dx fs => obtain ⟨_,_,_,e,_⟩:=x; exact Ak e
 | own y => obtain ⟨_,e⟩:=x; exact Ak e
 | xd fs => obtain ⟨_,⟨_,_,_,e,_⟩,_⟩:=x; exact Ak e
 | rng lo hi => obtain ⟨_,_,_,e⟩:=x; exact Ak e
 | frz ob u => obtain ⟨e,_⟩:=x; exact Ak e
 | tbl ps => exact Ak (show h.get? a = some _ from x)
 | met f y => exact Ak (show h.get? a = some _ from x)
 | ext φ => obtain ⟨_,⟨_,e⟩,_⟩:=x; exact Ak e
theorem Paired.mapP {α β:Type} {F G:α → β → Prop}:∀ {l₁:List α} {l₂:List β},Paired F l₁ l₂ → (∀ a b,F a b → G a b) → Paired G l₁ l₂
 | _,_,.nil,_ => .nil
 | _,_,.cons r t,f => .cons (f _ _ r) (Paired.mapP t f)
theorem ObjOk.stay (x:ObjOk P w H h a o) (k:∀ b u,(b = a ∨ H b = some (.own a)) → h.get? b = some u → h'.get? b = some u)
   (ho:∀ b,H b = some (.own a) → H' b = some (.own a)) (ht:∀ b xs,H b = some (.tup xs) → H' b = some (.tup xs)):ObjOk P w H' h' a o:=by
 induction o with
 | lst xs => obtain ⟨z,its,n,r,e⟩:=x; exact ⟨z,its,n,r,k _ _ (.inl rfl) e⟩
 | tup xs => obtain ⟨z,its,r,ob,e,c⟩:=x; exact ⟨z,its,r,ob,k _ _ (.inl rfl) e,c⟩
 | dK kvs => obtain ⟨z,y,vs,r,ob,es,ep,e,c⟩:=x; exact ⟨z,y,vs,r,ob,es,ep,k _ _ (.inl rfl) e,c⟩
 | dT kvs =>
   obtain ⟨z,y,xs,r,ob,es,ep,e,c⟩:=x
   exact ⟨z,y,xs,Paired.mapP r fun p q z => ⟨z.1,ht _ _ z.2.1,z.2.2⟩,ob,es,ep,k _ _ (.inl rfl) e,c⟩
 | set S n => obtain ⟨ob,es,ep,t,e,c⟩:=x; exact ⟨ob,es,ep,t,k _ _ (.inl rfl) e,c⟩
 | ins C dx fs =>
   obtain ⟨d,z,ne,e,mA,⟨od,es,ep,e2,c⟩,r⟩:=x
   exact ⟨ho _ d,z,ne,k _ _ (.inl rfl) e,mA,⟨od,es,ep,k _ _ (.inr d) e2,c⟩,r⟩
 | own y => obtain ⟨ob,e⟩:=x; exact ⟨ob,k _ _ (.inl rfl) e⟩
 | xd fs => obtain ⟨mA,⟨od,es,ep,e,c⟩,r⟩:=x; exact ⟨mA,⟨od,es,ep,k _ _ (.inl rfl) e,c⟩,r⟩
 | rng lo hi => obtain ⟨t,u,v,e⟩:=x; exact ⟨t,u,v,k _ _ (.inl rfl) e⟩
 | frz ob u ih => obtain ⟨e,q⟩:=x; exact ⟨k _ _ (.inl rfl) e,ih q⟩
 | tbl ps =>
   have e:h.get? a = some { cls:=.none,data:=.fields ps }:=x
   show h'.get? a = some { cls:=.none,data:=.fields ps }
   exact k a _ (.inl rfl) e
 | met f y =>
   have e:h.get? a = some (PySem.W.methodObj (.ref f) (.ref y)):=x
   show h'.get? a = some (PySem.W.methodObj (.ref f) (.ref y))
   exact k a _ (.inl rfl) e
 | ext φ => obtain ⟨p,⟨o,e⟩,st⟩:=x; exact ⟨st _ _ p fun o q => k _ _ (.inl rfl) q,⟨o,k _ _ (.inl rfl) e⟩,st⟩
theorem HOk.lt (x:HOk P w H h) (e:H a = some o):a < h.objs.size:=(x a o e).lt
theorem HOk.fresh (x:HOk P w H h) (e:h.objs.size ≤ a):H a = none:=by
 cases q:H a with
 | none => rfl
 | some u => exact absurd (Bb (x.lt q) e) (Cv _)
theorem HOk.kept (x:HOk P w H h) (k:∀ b u,h.get? b = some u → h'.get? b = some u):HOk P w H h':=fun a o e =>
 (x a o e).stay (fun b u _ q => k b u q) (fun _ q => q) fun _ _ q => q
theorem HOk.laid (x:HOk P w H h) (k:∀ b u,h.get? b = some u → h'.get? b = some u) (hp:h.objs.size ≤ a) (new:ObjOk P w (upd H a o) h' a o):HOk P w (upd H a o) h':=fun b u e => by
 have hn:=x.fresh hp
 by_cases hb:b = a
 · subst hb; rw [aB] at e; cases e; exact new
 · rw [aH hb] at e
   exact (x b u e).stay (fun c v _ q => k c v q) (fun c q => by rw [aH (aZ q hn)]; exact q) fun c xs q => by rw [aH (aZ q hn)]; exact q
end
def Rd (H:Hp) (a:Addr) (u:HO):Prop:=H a = some u ∨ ∃ o,H a = some (.frz o u)
theorem Rd.of {H:Hp} {a:Addr} {u:HO} (h:H a = some u):Rd H a u:=.inl h
theorem Rd.ok {P:Program} {w:World} {H:Hp} {h:Heap} {a:Addr} {u:HO} (r:Rd H a u) (x:HOk P w H h):ObjOk P w H h a u:=by
 rcases r with r | ⟨o,r⟩
 · exact x a u r
 · obtain ⟨_,q⟩:=x a _ r
   exact q
def Mut:Option HO → Prop
 | some (.lst _) => True
 | some (.dK _) => True
 | some (.dT _) => True
 | some (.set _ _) => True
 | some (.ins _ _ _) => True
 | some (.ext _) => True
 | _ => False
section
variable {P:Program} {w:World} {H:Hp} {h h':Heap} {x e:Addr} {o':HO}
theorem HOk.write (ok:HOk P w H h) (mu:Mut (H x)) (he:e = x ∨ H e = some (.own x)) (k:∀ b u,b ≠ e → h.get? b = some u → h'.get? b = some u) (heo:∃ u,h'.get? e = some u)
   (new:ObjOk P w (upd H x o') h' x o'):HOk P w (upd H x o') h':=fun b u q => by
 have nown:∀ c y,H c = some (.own y) → c ≠ x:=fun c y r z => by subst z; rw [r] at mu; exact mu
 have ntup:∀ c xs,H c = some (.tup xs) → c ≠ x:=fun c xs r z => by subst z; rw [r] at mu; exact mu
 by_cases hb:b = x
 · subst hb; rw [aB] at q; cases q; exact new
 · rw [aH hb] at q
   by_cases hbe:b = e
   · have q':H b = some (.own x):=by
       rcases he with z | z
       · exact absurd (hbe.trans z) hb
       · rw [hbe]; exact z
     rw [q] at q'; cases q'
     obtain ⟨v,hv⟩:=heo
     exact ⟨v,by rw [hbe]; exact hv⟩
   · refine (ok b u q).stay (fun c v hc r => k c v ?_ r) (fun c r => by rw [aH (nown c b r)]; exact r) fun c xs r => by rw [aH (ntup c xs r)]; exact r
     rcases hc with rfl | hc
     · exact hbe
     · rintro rfl
       rcases he with z | z
       · exact nown c b hc z
       · rw [hc] at z; cases z; exact hb rfl
end
structure Un (fs ex:List Addr) (H H':Hp) (h h':Heap):Prop where
 keep:∀ b o,h.get? b = some o → H b = none → b ∉ fs → b ∉ ex → h'.get? b = some o
 slot:∀ b o,h.get? b = some o → H b = none → b ∈ fs → b ∉ ex → ∃ sl,h'.get? b = some { o with slots:=sl }
 free:∀ b o,h.get? b = some o → H b = none → b ∉ ex → H' b = none
 there:∀ b o,h.get? b = some o → b ∉ ex → ∃ o',h'.get? b = some o'
 tups:∀ b xs,H b = some (.tup xs) → H' b = some (.tup xs)
 frzs:∀ b o u,H b = some (.frz o u) → H' b = some (.frz o u)
 tbls:∀ b ps,H b = some (.tbl ps) → ∃ more,H' b = some (.tbl (ps ++ more))
section
variable {fs fs' ex ex':List Addr} {H H1 H2:Hp} {h h1 h2 h':Heap} {a x e:Addr} {o:HO}
theorem Un.any (u:Un fs ex H H1 h h1) {b:Addr} {ob:Obj} (q:h.get? b = some ob) (n:H b = none) (hx:b ∉ ex):∃ sl,h1.get? b = some { ob with slots:=sl }:=by
 by_cases hb:b ∈ fs
 · exact u.slot b ob q n hb hx
 · exact ⟨ob.slots,u.keep b ob q n hb hx⟩
theorem Un.trans (a:Un fs ex H H1 h h1) (b:Un fs ex H1 H2 h1 h2):Un fs ex H H2 h h2 where
 keep:=fun c ob q n hc hx => b.keep c ob (a.keep c ob q n hc hx) (a.free c ob q n hx) hc hx
 slot:=fun c ob q n hc hx => by
   obtain ⟨sl,e1⟩:=a.slot c ob q n hc hx
   obtain ⟨sl',e2⟩:=b.slot c _ e1 (a.free c ob q n hx) hc hx
   exact ⟨sl',e2⟩
 free:=fun c ob q n hx => by
   obtain ⟨o',e1⟩:=a.there c ob q hx
   exact b.free c o' e1 (a.free c ob q n hx) hx
 there:=fun c ob q hx => by
   obtain ⟨o',e1⟩:=a.there c ob q hx
   exact b.there c o' e1 hx
 tups:=fun c xs q => b.tups c xs (a.tups c xs q)
 frzs:=fun c ob xs q => b.frzs c ob xs (a.frzs c ob xs q)
 tbls:=fun c ps q => by
   obtain ⟨m1,e1⟩:=a.tbls c ps q
   obtain ⟨m2,e2⟩:=b.tbls c _ e1
   exact ⟨m1 ++ m2,by rw [e2,Array.append_assoc]⟩
theorem Un.kept (k:∀ b u,h.get? b = some u → h'.get? b = some u):Un fs ex H H h h' :=
 ⟨fun b ob q _ _ _ => k b ob q,fun b ob q _ _ _ => ⟨ob.slots,k b ob q⟩,fun _ _ _ n _ => n,fun b ob q _ => ⟨ob,k b ob q⟩,fun _ _ q => q,fun _ _ _ q => q,fun _ ps q => ⟨#[],by rw [q]; simp⟩⟩
theorem Un.refl:Un fs ex H H h h:=Un.kept fun _ _ q => q
theorem Un.laid (k:∀ b u,h.get? b = some u → h'.get? b = some u) (hp:h.objs.size ≤ a) (hn:H a = none):Un fs ex H (upd H a o) h h' where
 keep:=fun b u q _ _ _ => k b u q
 slot:=fun b u q _ _ _ => ⟨u.slots,k b u q⟩
 free:=fun b u q n _ => by rw [aH (Av (Bb (Ak q) hp))]; exact n
 there:=fun b u q _ => ⟨u,k b u q⟩
 tups:=fun b xs q => by rw [aH (aZ q hn)]; exact q
 frzs:=fun b u xs q => by rw [aH (aZ q hn)]; exact q
 tbls:=fun b ps q => ⟨#[],by rw [aH (aZ q hn),q]; simp⟩
theorem Un.write (mu:Mut (H x)) (he:e = x ∨ H e = some (.own x)) (k:∀ b u,b ≠ e → h.get? b = some u → h'.get? b = some u) (heo:∃ u,h'.get? e = some u):Un fs ex H (upd H x o) h h':=by
 have hx:∀ b,H b = none → b ≠ x:=fun b n z => by subst z; rw [n] at mu; exact mu
 have hb:∀ b,H b = none → b ≠ e:=fun b n z => by
   subst z
   rcases he with r | r
   · exact hx b n r
   · rw [n] at r; cases r
 have hm:∀ b u,H b = some u → ¬ Mut (some u) → b ≠ x:=fun b u q nm z => by subst z; rw [q] at mu; exact nm mu
 refine ⟨fun b u q n _ _ => k b u (hb b n) q,fun b u q n _ _ => ⟨u.slots,k b u (hb b n) q⟩,fun b u q n _ => by rw [aH (hx b n)]; exact n,fun b u q _ => ?_,
   fun b xs q => by rw [aH (hm b _ q fun z => z)]; exact q,fun b u xs q => by rw [aH (hm b _ q fun z => z)]; exact q,fun b ps q => ⟨#[],by rw [aH (hm b _ q fun z => z),q]; simp⟩⟩
 by_cases hbe:b = e
 · subst hbe; exact heo
 · exact ⟨u,k b u hbe q⟩
theorem Un.mono (u:Un fs ex H H1 h h1) (hs:∀ b ∈ fs,b ∈ fs') (hx:∀ b ∈ ex,b ∈ ex'):Un fs' ex' H H1 h h1 :=
 ⟨fun b ob q n hb he => u.keep b ob q n (fun z => hb (hs b z)) fun z => he (hx b z),fun _ _ q n _ he => u.any q n fun z => he (hx _ z),fun b ob q n he => u.free b ob q n fun z => he (hx b z),fun b ob q he => u.there b ob q fun z => he (hx b z),u.tups,u.frzs,u.tbls⟩
end
def trk (h:Heap) (H:Hp):List Addr:=(List.range h.objs.size).filter fun a => (H a).isSome
def qL (h:Heap) (H:Hp):Heap:=PySem.W.hideAll h (trk h H)
theorem zJ (h:Heap) (H:Hp):(qL h H).objs.size = h.objs.size:=PySem.W.hideAll_size _ _
theorem aZH {h:Heap} {H:Hp} {b:Addr} {o:Obj} (e:h.get? b = some o) (n:H b = none):(qL h H).get? b = some o :=
 PySem.W.hideAll_get _ e fun hm => by
   have q:(H b).isSome = true:=(Do.mp hm).2
   rw [n] at q; simp at q
theorem bXQ {h:Heap} {H:Hp} {b:Addr} {o:Obj} (e:(qL h H).get? b = some o):h.get? b = some o ∧ H b = none:=by
 have e':h.get? b = some o:=Gr (trk h H) e
 refine ⟨e',?_⟩
 cases q:H b with
 | none => rfl
 | some x =>
   have hm:b ∈ trk h H:=List.mem_filter.mpr ⟨List.mem_range.mpr (Heap.lt_size e'),by simp [q]⟩
   have z:(qL h H).get? b = none:=PySem.W.hideAll_none (trk h H) hm
   rw [z] at e; cases e
def aJ7 (g h:Heap) (L:Addr):List (Addr × Obj):=(List.range h.objs.size).filterMap fun a => if a = L ∨ (g.get? a).isSome = true then none else (h.get? a).map fun o => (a,o)
def rest (g h:Heap) (L d:Addr):List (Addr × Obj):=(aJ7 g h L).filter fun p => decide (p.1 ≠ d)
end L2
namespace L2
open PySem PySem.Spec PyProof.Rows
structure Mod (K:PySem.W.Frag) (mg:Str → Option Value) (base:Heap):Prop where
 kin:K.In base
 glob:base.Ns mainGlobals mg
 blt:∃ mb,base.Ns builtinsNs mb ∧ ∀ x:Str,x ≠ "__name__" → mb x = bootBuiltins x
 nolimit:base.NoLimit
structure Cx where
 prog:Program
 w:World
 K:PySem.W.Frag
 mg:Str → Option Value
 base:Heap
 A:Around
 N:List Str
 s₀:Shared
 H₀:Hp
 env:Env
 outer:List Env
 stack:List Env
 ex:List Addr
 fn:Str → Bool
 calm:Bool
 pn:List (Addr × Obj)
 xe:Value → Shared → Prop
def frs (l:List Env):List Addr:=l.filterMap (·.frame)
abbrev Cx.fs (X:Cx):List Addr:=frs X.outer
def Vis (sc:Scope) (x:Str):Prop:=sc.names.lookup x = some .local ∨ sc.names.lookup x = some .cell ∨ sc.names.lookup x = some .free
def Loc (sc:Scope) (x:Str):Prop:=sc.names.lookup x = some .local ∨ sc.names.lookup x = some .cell
def dQ1 (env:Env) (h:Heap) (m:Str → Option Value) (x:Str) (u:Value):Prop :=
 (env.kindOf x = some .local ∧ m x = some u) ∨ ((env.kindOf x = some .cell ∨ env.kindOf x = some .free) ∧ ∃ c,env.cells.lookup x = some c ∧ h.IsCell c (some u))
structure Cx.Ok (X:Cx):Prop where
 mod:Mod X.K X.mg X.base
 kind:X.env.scope.kind = .function
 glob:X.env.globals = mainGlobals
 blt:X.env.builtins = builtinsNs
 above:X.s₀.heap.objs.size ≤ X.env.locals
 inj:∀ x y c,X.env.cells.lookup x = some c → X.env.cells.lookup y = some c → x = y
 has:∀ x,(X.env.kindOf x = some .cell ∨ X.env.kindOf x = some .free) → ∃ c,X.env.cells.lookup x = some c
 cab:∀ x c,X.fn x = true → X.env.cells.lookup x = some c → X.s₀.heap.objs.size ≤ c
 hd:X.calm = true → X.A.handled = none
 frames:X.A.frames = some X.stack
 stk:X.stack = X.outer ∨ (X.stack = X.env :: X.outer ∧ X.env.frame = some X.env.locals)
 exf:∀ b ∈ X.ex,b ≠ X.env.locals ∧ ∀ x c,X.env.cells.lookup x = some c → c ≠ b
 bs:∀ b o,X.base.get? b = some o → X.s₀.heap.get? b = some o ∧ X.H₀ b = none
 bsz:X.base.objs.size ≤ X.s₀.heap.objs.size
 noex:∀ b o,X.base.get? b = some o → b ∉ X.ex
 exfs:∀ b ∈ X.ex,b ∉ X.fs
 funs:X.s₀.heap.FunFrames X.base X.outer
 frf:∀ b ∈ X.fs,X.H₀ b = none
structure Inv (X:Cx) (pins:List (Addr × Obj)) (σ:List (Option V)) (H:Hp) (s:Shared):Prop where
 ok:X.Ok
 os:s.os = X.s₀.os
 bare:AllBare s.gens
 base:Un X.fs X.ex X.H₀ H X.s₀.heap s.heap
 loc:∃ m,s.heap.Ns X.env.locals m ∧ ∀ (i:Nat) (x:Str) (v:V),X.N[i]? = some x → σ[i]? = some (some v) → Vis X.env.scope x → ∃ u,RelV v u ∧ dQ1 X.env s.heap m x u
 cell:∀ x c,X.env.cells.lookup x = some c → ∃ v,s.heap.IsCell c v
 free:H X.env.locals = none
 freeC:∀ x c,X.env.cells.lookup x = some c → H c = none
 pin:∀ p ∈ X.pn ++ pins,s.heap.get? p.1 = some p.2 ∧ H p.1 = none ∧ p.1 ≠ X.env.locals ∧ p.1 ∉ X.fs ∧ ∀ v,p.2.data ≠ .cell v
 hok:HOk X.prog X.w H s.heap
 len:σ.length = X.N.length
section
variable {X:Cx} {pins:List (Addr × Obj)} {σ:List (Option V)} {H H':Hp} {s:Shared} {h':Heap}
theorem Cx.Ok.nofr (ok:X.Ok) {b:Addr} {o:Obj} (e:X.base.get? b = some o):b ∉ X.fs:=fun hb => by
 have:=(ok.funs.mem hb).1
 rw [e] at this; cases this
theorem Inv.bs (I:Inv X pins σ H s):∀ b o,X.base.get? b = some o → s.heap.get? b = some o ∧ H b = none:=fun b o e =>
 ⟨I.base.keep b o (I.ok.bs b o e).1 (I.ok.bs b o e).2 (I.ok.nofr e) (I.ok.noex b o e),I.base.free b o (I.ok.bs b o e).1 (I.ok.bs b o e).2 (I.ok.noex b o e)⟩
theorem Inv.bk (I:Inv X pins σ H s):∀ b o,X.base.get? b = some o → s.heap.get? b = some o:=fun b o e => (I.bs b o e).1
theorem Inv.mod (I:Inv X pins σ H s):Mod X.K X.mg X.base:=I.ok.mod
theorem Inv.kIn (I:Inv X pins σ H s):X.K.In s.heap:=I.ok.mod.kin.keeps I.bk
theorem Inv.nolimit (I:Inv X pins σ H s):s.heap.NoLimit:=I.ok.mod.nolimit.keeps I.bk
theorem Inv.fr (I:Inv X pins σ H s):∃ m,Fr X.base X.env.locals s.heap m :=
 let ⟨m,hn,_⟩:=I.loc
 ⟨m,hn,I.bk,Bg I.ok.bsz I.ok.above⟩
theorem Inv.lt (I:Inv X pins σ H s):X.env.locals < s.heap.objs.size:=let ⟨_,hn,_⟩:=I.loc; hn.lt
theorem Inv.sz (I:Inv X pins σ H s):X.s₀.heap.objs.size ≤ s.heap.objs.size:=Bg I.ok.above (Fl I.lt)
theorem Inv.nofs (I:Inv X pins σ H s) {a:Addr} (h:s.heap.objs.size ≤ a):a ∉ X.fs:=fun hb => by
 obtain ⟨_,o,ho,_⟩:=I.ok.funs.mem hb
 exact absurd (Bb (Ak ho) (Bg I.sz h)) (Cv _)
theorem Inv.cne (I:Inv X pins σ H s):∀ x c,X.env.cells.lookup x = some c → c ≠ X.env.locals:=fun x c e z => by
 obtain ⟨v,o,ho,hd⟩:=I.cell x c e
 obtain ⟨m,⟨o',es,ep,ho',hd',_⟩,_⟩:=I.loc
 rw [z,ho'] at ho; cases ho; rw [hd'] at hd; cases hd
theorem Inv.funs (I:Inv X pins σ H s):s.heap.FunFrames X.base X.outer:=by
 have all:∀ (l:List Env),(∀ b ∈ frs l,b ∈ X.fs) → X.s₀.heap.FunFrames X.base l → s.heap.FunFrames X.base l:=by
   intro l
   induction l with
   | nil => intro _ _; trivial
   | cons env r ih =>
     intro hs hl
     obtain ⟨hk,⟨L,o,hf,hn,ho,hd⟩,hr⟩:=hl
     have hL:L ∈ X.fs:=hs L (by unfold frs; rw [Ej,hf]; exact An)
     obtain ⟨sl,e⟩:=I.base.slot L o ho (I.ok.frf L hL) hL fun z => I.ok.exfs L z hL
     exact ⟨hk,⟨L,_,hf,hn,e,hd⟩,ih (fun b hb => hs b (by unfold frs; rw [Ej,hf]; exact Am _ hb)) hr⟩
 exact all X.outer (fun _ hb => hb) I.ok.funs
theorem Inv.stack (I:Inv X pins σ H s):s.heap.FunFrames X.base X.stack:=by
 rcases I.ok.stk with e | ⟨e,hf⟩
 · rw [e]; exact I.funs
 · rw [e]
   obtain ⟨m,hn,_⟩:=I.loc
   refine .cons (by rw [I.ok.kind]; decide) hf hn ?_ I.funs
   exact Fz (Bg I.ok.bsz I.ok.above)
theorem Inv.stkSub (I:Inv X pins σ H s):∀ b ∈ frs X.stack,b ∈ X.env.locals :: X.fs:=fun b hb => by
 rcases I.ok.stk with e | ⟨e,hf⟩
 · rw [e] at hb; exact Am _ hb
 · rw [e] at hb
   unfold frs at hb
   rw [Ej,hf] at hb
   exact hb
theorem Inv.stkFree (I:Inv X pins σ H s):∀ b ∈ frs X.stack,H b = none:=fun b hb => by
 rcases Be.mp (I.stkSub b hb) with e | hb
 · rw [e]; exact I.free
 · obtain ⟨_,o,ho,_⟩:=I.ok.funs.mem hb
   exact I.base.free b o ho (I.ok.frf b hb) fun z => I.ok.exfs b z hb
theorem Inv.step {g':Array GenState} {t':Nat} {d':Drawn} {ch:List Addr} (I:Inv X pins σ H s)
   (hch:∀ b ∈ ch,(b ∈ X.ex ∨ X.s₀.heap.objs.size ≤ b) ∧ b ≠ X.env.locals ∧ (∀ x c,X.env.cells.lookup x = some c → c ≠ b) ∧ ∀ p ∈ X.pn ++ pins,p.1 ≠ b)
   (keep:∀ b o,b ≠ X.env.locals → b ∉ X.fs → b ∉ ch → s.heap.get? b = some o → H b = none → h'.get? b = some o)
   (slot:∀ b o,b ≠ X.env.locals → b ∈ X.fs → b ∉ ch → s.heap.get? b = some o → H b = none → ∃ sl,h'.get? b = some { o with slots:=sl }) (free:∀ b o,b ∉ ch → s.heap.get? b = some o → H b = none → H' b = none)
   (there:∀ b o,b ∉ ch → s.heap.get? b = some o → ∃ o',h'.get? b = some o')
   (tups:∀ b xs,H b = some (.tup xs) → H' b = some (.tup xs)) (frzs:∀ b o u,H b = some (.frz o u) → H' b = some (.frz o u)) (tbls:∀ b ps,H b = some (.tbl ps) → ∃ more,H' b = some (.tbl (ps ++ more)))
   (ns:∀ m,s.heap.Ns X.env.locals m → h'.Ns X.env.locals m) (hok:HOk X.prog X.w H' h') (hg:AllBare g') :
   Inv X pins σ H' { s with heap:=h',gens:=g',drawn:=d',toks:=t' }:=by
 have neL:∀ b o,X.s₀.heap.get? b = some o → b ≠ X.env.locals:=fun b o e => Av (Bb (Ak e) I.ok.above)
 have neC:∀ b o,X.s₀.heap.get? b = some o → b ∉ X.ex → b ∉ ch:=fun b o e hx hb => by
   rcases (hch b hb).1 with z | z
   · exact hx z
   · exact absurd (Bb (Ak e) z) (Cv _)
 have cellK:∀ x c,X.env.cells.lookup x = some c → ∀ v,s.heap.IsCell c v → h'.IsCell c v:=fun x c e v ⟨o,ho,hd⟩ => by
   have nch:c ∉ ch:=fun z => (hch c z).2.2.1 x c e rfl
   by_cases hc:c ∈ X.fs
   · obtain ⟨sl,q⟩:=slot c o (I.cne x c e) hc nch ho (I.freeC x c e)
     exact ⟨_,q,hd⟩
   · exact ⟨o,keep c o (I.cne x c e) hc nch ho (I.freeC x c e),hd⟩
 refine ⟨I.ok,I.os,hg,⟨fun b o e n hb hx => ?_,fun b o e n hb hx => ?_,fun b o e n hx => ?_,fun b o e hx => ?_,fun b xs e => tups b xs (I.base.tups b xs e),fun b o xs e => frzs b o xs (I.base.frzs b o xs e),fun b ps e => ?_⟩,?_,fun x c e => ?_,?_,fun x c e => ?_,fun p hp => ?_,hok,I.len⟩
 · exact keep b o (neL b o e) hb (neC b o e hx) (I.base.keep b o e n hb hx) (I.base.free b o e n hx)
 · obtain ⟨sl,e1⟩:=I.base.slot b o e n hb hx
   obtain ⟨sl',e2⟩:=slot b _ (neL b o e) hb (neC b o e hx) e1 (I.base.free b o e n hx)
   exact ⟨sl',e2⟩
 · obtain ⟨o',e1⟩:=I.base.there b o e hx
   exact free b o' (neC b o e hx) e1 (I.base.free b o e n hx)
 · obtain ⟨o',e1⟩:=I.base.there b o e hx
   exact there b o' (neC b o e hx) e1
 · obtain ⟨m1,e1⟩:=I.base.tbls b ps e
   obtain ⟨m2,e2⟩:=tbls b _ e1
   exact ⟨m1 ++ m2,by rw [e2,Array.append_assoc]⟩
 · obtain ⟨m,hn,hl⟩:=I.loc
   refine ⟨m,ns m hn,fun i x v e1 e2 e3 => ?_⟩
   obtain ⟨u,r,l⟩:=hl i x v e1 e2 e3
   refine ⟨u,r,?_⟩
   rcases l with l | ⟨k,c,e,z⟩
   · exact .inl l
   · exact .inr ⟨k,c,e,cellK x c e _ z⟩
 · obtain ⟨v,z⟩:=I.cell x c e
   exact ⟨v,cellK x c e v z⟩
 · obtain ⟨m,⟨o,_,_,ho,_⟩,_⟩:=I.loc
   exact free _ o (fun z => (hch _ z).2.1 rfl) ho I.free
 · obtain ⟨v,o,ho,hd⟩:=I.cell x c e
   exact free c o (fun z => (hch c z).2.2.1 x c e rfl) ho (I.freeC x c e)
 · obtain ⟨e,n,ne,nf,d⟩:=I.pin p hp
   have nch:p.1 ∉ ch:=fun z => (hch p.1 z).2.2.2 p hp rfl
   exact ⟨keep p.1 p.2 ne nf nch e n,free p.1 p.2 nch e n,ne,nf,d⟩
theorem Inv.un {t':Nat} (I:Inv X pins σ H s) (u:Un X.fs [] H H' s.heap h') (hok:HOk X.prog X.w H' h'):Inv X pins σ H' { s with heap:=h',toks:=t' }:=by
 obtain ⟨m,⟨o,es,ep,ho,r⟩,_⟩:=id I.loc
 obtain ⟨sl,hL⟩:=u.any ho I.free (by simp)
 exact I.step (g':=s.gens) (d':=s.drawn) (ch:=[]) (fun _ z => nomatch z) (fun b o _ hb _ e n => u.keep b o e n hb (by simp)) (fun b o _ hb _ e n => u.slot b o e n hb (by simp)) (fun b o _ e n => u.free b o e n (by simp)) (fun b o _ e => u.there b o e (by simp)) u.tups u.frzs u.tbls (fun m' hm => by
   obtain ⟨o',es',ep',ho',r'⟩:=hm
   rw [ho] at ho'; cases ho'
   exact ⟨_,es',ep',hL,r'⟩) hok I.bare
theorem Inv.call {g':Array GenState} {t':Nat} {d':Drawn} {ch:List Addr} (I:Inv X pins σ H s) (u:Un (frs X.stack) ch H H' s.heap h') (hok:HOk X.prog X.w H' h') (hg:AllBare g')
   (hch:∀ b ∈ ch,(b ∈ X.ex ∨ X.s₀.heap.objs.size ≤ b) ∧ b ≠ X.env.locals ∧ (∀ x c,X.env.cells.lookup x = some c → c ≠ b) ∧ ∀ p ∈ X.pn ++ pins,p.1 ≠ b) :
   Inv X pins σ H' { s with heap:=h',gens:=g',drawn:=d',toks:=t' }:=by
 obtain ⟨m,⟨o,es,ep,ho,r⟩,_⟩:=id I.loc
 obtain ⟨sl,hL⟩:=u.any ho I.free fun z => (hch _ z).2.1 rfl
 exact I.step (ch:=ch) hch (fun b o hL hb hc e n => u.keep b o e n (fun z => (Be.mp (I.stkSub b z)).elim hL hb) hc) (fun b o _ _ hc e n => u.any e n hc) (fun b o hc e n => u.free b o e n hc) (fun b o hc e => u.there b o e hc) u.tups u.frzs u.tbls (fun m' hm => by
   obtain ⟨o',es',ep',ho',r'⟩:=hm
   rw [ho] at ho'; cases ho'
   exact ⟨_,es',ep',hL,r'⟩) hok hg
theorem Inv.turned {t':Nat} {it:Addr} (I:Inv X pins σ H s) (k:∀ b o,b ≠ it → s.heap.get? b = some o → h'.get? b = some o) (hn:H it = none) (hL:it ≠ X.env.locals)
   (h1:it ∈ X.ex ∨ X.s₀.heap.objs.size ≤ it) (h2:∀ x c,X.env.cells.lookup x = some c → c ≠ it) (h3:∀ p ∈ X.pn ++ pins,p.1 ≠ it):Inv X pins σ H { s with heap:=h',toks:=t' }:=by
 have nit:∀ b u,H b = some u → b ≠ it:=fun b u e z => by rw [z,hn] at e; cases e
 refine I.step (g':=s.gens) (d':=s.drawn) (ch:=[it]) (fun b hb => ?_) (fun b o _ _ hc e _ => k b o (fun z => hc (by simp [z])) e) (fun b o _ _ hc e _ => ⟨o.slots,k b o (fun z => hc (by simp [z])) e⟩) (fun _ _ _ _ n => n)
   (fun b o hc e => ⟨o,k b o (fun z => hc (by simp [z])) e⟩) (fun _ _ e => e) (fun _ _ _ e => e) (fun b ps e => ⟨#[],by rw [e]; simp⟩) (fun m hm => ?_) (fun b u e => ?_) I.bare
 · have e:b = it:=by simpa using hb
   subst e
   exact ⟨h1,hL,h2,h3⟩
 · obtain ⟨o,es,ep,ho,r⟩:=hm
   exact ⟨o,es,ep,k _ o (Ne.symm hL) ho,r⟩
 · refine (I.hok b u e).stay (fun c v hc q => k c v ?_ q) (fun _ q => q) fun _ _ q => q
   rcases hc with z | z
   · rw [z]; exact nit b u e
   · exact nit c _ z
theorem Inv.tok (I:Inv X pins σ H s) (t:Nat):Inv X pins σ H { s with toks:=t }:=I.un (h':=s.heap) (t':=t) Un.refl I.hok
theorem Inv.kept {t':Nat} (I:Inv X pins σ H s) (k:∀ b u,s.heap.get? b = some u → h'.get? b = some u):Inv X pins σ H { s with heap:=h',toks:=t' }:=I.un (Un.kept k) (I.hok.kept k)
theorem Inv.laid {a:Addr} {o:HO} {t':Nat} (I:Inv X pins σ H s) (k:∀ b u,s.heap.get? b = some u → h'.get? b = some u) (hp:s.heap.objs.size ≤ a) (new:ObjOk X.prog X.w (upd H a o) h' a o) :
   Inv X pins σ (upd H a o) { s with heap:=h',toks:=t' }:=I.un (Un.laid k hp (I.hok.fresh hp)) (I.hok.laid k hp new)
theorem Inv.write {x e:Addr} {o:HO} {t':Nat} (I:Inv X pins σ H s) (mu:Mut (H x)) (he:e = x ∨ H e = some (.own x)) (k:∀ b u,b ≠ e → s.heap.get? b = some u → h'.get? b = some u) (heo:∃ u,h'.get? e = some u)
   (new:ObjOk X.prog X.w (upd H x o) h' x o):Inv X pins σ (upd H x o) { s with heap:=h',toks:=t' }:=I.un (Un.write mu he k heo) (I.hok.write mu he k heo new)
theorem Inv.weak {σ':List (Option V)} (I:Inv X pins σ H s) (hl:σ'.length = σ.length) (w:∀ (i:Nat) v,σ'[i]? = some (some v) → σ[i]? = some (some v)):Inv X pins σ' H s :=
 ⟨I.ok,I.os,I.bare,I.base,let ⟨m,hn,hl'⟩:=I.loc; ⟨m,hn,fun i x v e1 e2 e3 => hl' i x v e1 (w i v e2) e3⟩,I.cell,I.free,I.freeC,I.pin,I.hok,hl.trans I.len⟩
theorem Inv.pins_of {pins':List (Addr × Obj)} (I:Inv X pins σ H s) (h:∀ p ∈ pins',s.heap.get? p.1 = some p.2 ∧ H p.1 = none ∧ p.1 ≠ X.env.locals ∧ p.1 ∉ X.fs ∧ ∀ v,p.2.data ≠ .cell v):Inv X pins' σ H s :=
 ⟨I.ok,I.os,I.bare,I.base,I.loc,I.cell,I.free,I.freeC,fun p hp => (Ci.mp hp).elim (fun z => I.pin p (Da _ z)) (h p),I.hok,I.len⟩
theorem mF {N:List Str} (hN:N.Nodup) {i j:Nat} {x:Str} (a:N[i]? = some x) (b:N[j]? = some x):i = j:=by
 obtain ⟨h1,e1⟩:=Af.mp a
 obtain ⟨h2,e2⟩:=Af.mp b
 exact (Gf hN).mp (e1.trans e2.symm)
theorem jR {M:Model} {A:Around} {E:Value → Shared → Prop} {i:Nat} {x:Str} {v:V} {u:Value} {Q:Unit → Shared → Prop} (I:Inv X pins σ H s) (hN:X.N.Nodup) (hi:X.N[i]? = some x) (hx:Loc X.env.scope x) (r:RelV v u)
   (h:∀ s',Inv X pins (σ.set i (some v)) H s' → (∃ a,Heap.SameBut a s.heap s'.heap ∧ (a = X.env.locals ∨ X.env.cells.lookup x = some a)) → Q () s') (hf:X.fn x = true ∨ X.env.scope.names.lookup x = some .local:=by first | exact .inl rfl | exact .inr rfl | assumption):wpAny M A (storeName X.env x u) Q E s:=by
 obtain ⟨m,hn,hl⟩:=id I.loc
 have hcls:(X.env.scope.kind == .class || (X.env.scope.kind == .module && X.env.locals != X.env.globals)) = false:=by rw [I.ok.kind]; rfl
 have hiσ:i < σ.length:=by rw [I.len]; exact (Af.mp hi).1
 have cne:=I.cne
 have tracked:∀ {a:Addr} {h':Heap},(∃ o,s.heap.get? a = some o ∧ H a = none) → Heap.SameBut a s.heap h' → HOk X.prog X.w H h':=fun {a h'} ha hs b ob e => by
   obtain ⟨_,_,hfree⟩:=ha
   refine (I.hok b ob e).stay (fun c w' hc q => (hs.2 c ?_).trans q) (fun _ q => q) fun _ _ q => q
   rintro rfl
   rcases hc with rfl | hc
   · rw [hfree] at e; cases e
   · rw [hfree] at hc; cases hc
 rcases hx with hk | hk
 · refine wpAny_storeName_local hk hn (fun h' hn' hs => ?_) hcls
   obtain ⟨oL,_,_,hoL,_⟩:=id hn
   refine h _ ⟨I.ok,I.os,I.bare,⟨fun b o e n hb hx => ?_,fun b o e n hb hx => ?_,I.base.free,fun b o e hx => ?_,I.base.tups,I.base.frzs,I.base.tbls⟩,⟨_,hn',fun j y v' e1 e2 e3 => ?_⟩,fun y c e => ?_,I.free,I.freeC,fun p hp => ?_,tracked ⟨oL,hoL,I.free⟩ hs,by simpa using I.len⟩ ⟨_,hs,.inl rfl⟩
   · exact (hs.2 b (Av (Bb (Ak e) I.ok.above))).trans (I.base.keep b o e n hb hx)
   · obtain ⟨sl,e1⟩:=I.base.slot b o e n hb hx
     exact ⟨sl,(hs.2 b (Av (Bb (Ak e) I.ok.above))).trans e1⟩
   · obtain ⟨o',e1⟩:=I.base.there b o e hx
     exact ⟨o',(hs.2 b (Av (Bb (Ak e) I.ok.above))).trans e1⟩
   · by_cases hj:j = i
     · subst hj
       rw [hi] at e1; cases e1
       rw [Gz hiσ] at e2
       cases e2
       exact ⟨u,r,.inl ⟨hk,by simp⟩⟩
     · rw [Ga (Ne.symm hj)] at e2
       obtain ⟨u',r',q⟩:=hl j y v' e1 e2 e3
       refine ⟨u',r',?_⟩
       rcases q with ⟨k,e⟩ | ⟨k,c,e,z⟩
       · refine .inl ⟨k,?_⟩
         have:y ≠ x:=fun e => hj (mF hN e1 (e ▸ hi))
         simp [this,e]
       · exact .inr ⟨k,c,e,z.sameBut hs (cne y c e)⟩
   · obtain ⟨w',z⟩:=I.cell y c e
     exact ⟨w',z.sameBut hs (cne y c e)⟩
   · obtain ⟨e,n,ne,nf,d⟩:=I.pin p hp
     exact ⟨(hs.2 p.1 ne).trans e,n,ne,nf,d⟩
 · have hfn:X.fn x = true:=by
     rcases hf with z | z
     · exact z
     · rw [z] at hk; cases hk
   obtain ⟨c,hc⟩:=I.ok.has x (.inl hk)
   obtain ⟨w',z⟩:=I.cell x c hc
   refine wpAny_storeName_cell I.ok.kind hk hc z (fun h' hc' hs => ?_)
   obtain ⟨oc,hoc,hocd⟩:=id z
   refine h { s with heap:=h' } ⟨I.ok,I.os,I.bare,⟨fun b o e n hb hx => ?_,fun b o e n hb hx => ?_,I.base.free,fun b o e hx => ?_,I.base.tups,I.base.frzs,I.base.tbls⟩,⟨m,hn.sameBut hs (Ne.symm (cne x c hc)),fun j y v' e1 e2 e3 => ?_⟩,fun y c' e => ?_,I.free,I.freeC,fun p hp => ?_,tracked ⟨oc,hoc,I.freeC x c hc⟩ hs,by simpa using I.len⟩ ⟨c,hs,.inr hc⟩
   · exact (hs.2 b (Av (Bb (Ak e) (I.ok.cab x c hfn hc)))).trans (I.base.keep b o e n hb hx)
   · obtain ⟨sl,e1⟩:=I.base.slot b o e n hb hx
     exact ⟨sl,(hs.2 b (Av (Bb (Ak e) (I.ok.cab x c hfn hc)))).trans e1⟩
   · obtain ⟨o',e1⟩:=I.base.there b o e hx
     exact ⟨o',(hs.2 b (Av (Bb (Ak e) (I.ok.cab x c hfn hc)))).trans e1⟩
   · by_cases hj:j = i
     · subst hj
       rw [hi] at e1; cases e1
       rw [Gz hiσ] at e2
       cases e2
       exact ⟨u,r,.inr ⟨.inl hk,c,hc,hc'⟩⟩
     · rw [Ga (Ne.symm hj)] at e2
       obtain ⟨u',r',q⟩:=hl j y v' e1 e2 e3
       refine ⟨u',r',?_⟩
       rcases q with q | ⟨k,c',e,z'⟩
       · exact .inl q
       · refine .inr ⟨k,c',e,z'.sameBut hs ?_⟩
         rintro rfl
         exact hj (mF hN e1 (I.ok.inj _ _ _ e hc ▸ hi))
   · by_cases hcc:c' = c
     · subst hcc; exact ⟨_,hc'⟩
     · obtain ⟨w2,z2⟩:=I.cell y c' e
       exact ⟨w2,z2.sameBut hs hcc⟩
   · obtain ⟨e,n,ne,nf,d⟩:=I.pin p hp
     refine ⟨(hs.2 p.1 ?_).trans e,n,ne,nf,d⟩
     intro q
     rw [q,hoc] at e
     have q':oc = p.2:=Bo e
     exact d w' (by rw [← q']; exact hocd)
theorem lK {M:Model} {A:Around} {E:Value → Shared → Prop} {i:Nat} {x:Str} {v:V} {u:Value} {Q:Unit → Shared → Prop} (I:Inv X pins σ H s) (hN:X.N.Nodup) (hi:X.N[i]? = some x) (hx:Loc X.env.scope x) (r:RelV v u)
   (h:∀ s',Inv X pins (σ.set i (some v)) H s' → Q () s') (hf:X.fn x = true ∨ X.env.scope.names.lookup x = some .local:=by first | exact .inl rfl | exact .inr rfl | assumption):wpAny M A (storeName X.env x u) Q E s :=
 jR I hN hi hx r (fun s' I' _ => h s' I') hf
theorem Inv.call' {s':Shared} {ch:List Addr} (I:Inv X pins σ H s) (ho:s'.os = s.os) (u:Un (frs X.stack) ch H H' s.heap s'.heap) (hok:HOk X.prog X.w H' s'.heap) (hg:AllBare s'.gens)
   (hch:∀ b ∈ ch,(b ∈ X.ex ∨ X.s₀.heap.objs.size ≤ b) ∧ b ≠ X.env.locals ∧ (∀ x c,X.env.cells.lookup x = some c → c ≠ b) ∧ ∀ p ∈ X.pn ++ pins,p.1 ≠ b):Inv X pins σ H' s':=by
 obtain ⟨h',g',d',t',o'⟩:=s'
 have e:o' = s.os:=ho
 subst e
 exact I.call (g':=g') (t':=t') (d':=d') u hok hg hch
end
abbrev XK:=Value → Option Addr → Hp → Prop
abbrev St:=List (Option V)
abbrev VK:=V → Hp → Prop
abbrev TE:=St → Hp → VK → Prop
abbrev TT:=St → Hp → (Bool → Hp → Prop) → Prop
abbrev TA:=St → Hp → (List V → Hp → Prop) → Prop
structure Ends where
 nx:St → Hp → Prop
 rt:VK
 bk:St → Hp → Prop:=fun _ _ => False
 ct:St → Hp → Prop:=fun _ _ => False
abbrev TS:=Ends → St → Hp → Prop
def EP (X:Cx) (pins:List (Addr × Obj)) (σ:St) (Q:VK) (u:Value) (s':Shared):Prop:=∃ v H',Inv X pins σ H' s' ∧ RelV v u ∧ Q v H'
def TP (X:Cx) (pins:List (Addr × Obj)) (σ:St) (Q:Bool → Hp → Prop) (b:Bool) (s':Shared):Prop:=∃ H',Inv X pins σ H' s' ∧ Q b H'
def AP (X:Cx) (pins:List (Addr × Obj)) (σ:St) (Q:List V → Hp → Prop) (us:List Value) (s':Shared):Prop:=∃ vs H',Inv X pins σ H' s' ∧ Vals vs us ∧ Q vs H'
def SP (X:Cx) (pins:List (Addr × Obj)) (D:Ends) (f:Flow) (s':Shared):Prop :=
 match f with
 | .next => ∃ σ' H',Inv X pins σ' H' s' ∧ D.nx σ' H'
 | .brk => ∃ σ' H',Inv X pins σ' H' s' ∧ D.bk σ' H'
 | .cont => ∃ σ' H',Inv X pins σ' H' s' ∧ D.ct σ' H'
 | .ret u => ∃ v σ' H',Inv X pins σ' H' s' ∧ RelV v u ∧ D.rt v H'
def PE (X:Cx) (e:Expr) (t:TE):Prop :=
 ∀ (pins:List (Addr × Obj)) (s:Shared) (σ:St) (H:Hp) (Q:VK),Inv X pins σ H s → t σ H Q → wpAny (model X.prog X.w) X.A (eval e X.env) (EP X pins σ Q) X.xe s
def PT (X:Cx) (e:Expr) (t:TT):Prop :=
 ∀ (pins:List (Addr × Obj)) (s:Shared) (σ:St) (H:Hp) (Q:Bool → Hp → Prop),Inv X pins σ H s → t σ H Q → wpAny (model X.prog X.w) X.A (isTrue e X.env (eval e X.env)) (TP X pins σ Q) X.xe s
def PW (X:Cx) (e:Expr) (t:TT):Prop :=
 ∀ (whole:Sem Value) (pins:List (Addr × Obj)) (s:Shared) (σ:St) (H:Hp) (Q:Bool → Hp → Prop),Inv X pins σ H s → t σ H Q → wpAny (model X.prog X.w) X.A (isTrue e X.env whole) (TP X pins σ Q) X.xe s
theorem PW.pt {X:Cx} {e:Expr} {t:TT} (h:PW X e t):PT X e t:=h _
def PA (X:Cx) (es:List Expr) (t:TA):Prop :=
 ∀ (pos:Pos) (pins:List (Addr × Obj)) (s:Shared) (σ:St) (H:Hp) (Q:List V → Hp → Prop),Inv X pins σ H s → t σ H Q → wpAny (model X.prog X.w) X.A (spliced (backTo pos (starEach es X.env))) (AP X pins σ Q) X.xe s
def PS (X:Cx) (st:Stmt) (t:TS):Prop :=
 ∀ (pins:List (Addr × Obj)) (s:Shared) (σ:St) (H:Hp) (D:Ends),Inv X pins σ H s → t D σ H → wpAny (model X.prog X.w) X.A (exec st X.env) (SP X pins D) X.xe s
def PSs (X:Cx) (st:List Stmt) (t:TS):Prop :=
 ∀ (pins:List (Addr × Obj)) (s:Shared) (σ:St) (H:Hp) (D:Ends),Inv X pins σ H s → t D σ H → wpAny (model X.prog X.w) X.A (execs st X.env) (SP X pins D) X.xe s
theorem thn {α:Type} {t:Sem α} {Q Q':α → Shared → Prop} {M:Model} {A:Around} {E:Value → Shared → Prop} {s:Shared} (h:wpAny M A t Q E s) (hQ:∀ a s,Q a s → Q' a s):wpAny M A t Q' E s:=Bw h hQ fun _ _ x => x
end L2
namespace L2
open PySem PySem.Spec PyProof.Rows
section
variable {X:Cx}
theorem bin {a b:Expr} {ta tb:TE} (ha:PE X a ta) (hb:PE X b tb) {pins:List (Addr × Obj)} {s:Shared} {σ:St} {H:Hp} {R:V → V → Hp → Prop} (I:Inv X pins σ H s) (h:ta σ H fun x H1 => tb σ H1 fun y H2 => R x y H2)
   {α:Type} {Q:α → Shared → Prop} {f:Value → Value → Sem α}
   (hf:∀ v u s2 x y H2,Inv X pins σ H2 s2 → RelV x v → RelV y u → R x y H2 → wpAny (model X.prog X.w) X.A (f v u) Q X.xe s2) :
   wpAny (model X.prog X.w) X.A (eval a X.env) (fun v s₁ => wpAny (model X.prog X.w) X.A (eval b X.env) (fun u s₂ => wpAny (model X.prog X.w) X.A (f v u) Q X.xe s₂) X.xe s₁) X.xe s:=by
 refine thn (ha pins s σ H _ I h) fun v s1 ⟨x,H1,I1,r1,q1⟩ => ?_
 refine thn (hb pins s1 σ H1 _ I1 q1) fun u s2 ⟨y,H2,I2,r2,q2⟩ => ?_
 exact hf v u s2 x y H2 I2 r1 r2 q2
def cX7 (i:Nat):TE:=fun σ H Q => ∃ v,σ[i]? = some (some v) ∧ Q v H
def tC (v:V):TE:=fun _ H Q => Q v H
theorem cXT {i:Nat} {x:Str} {pos:Pos} (hN:X.N[i]? = some x) (hv:Vis X.env.scope x) (hd:(x == ("__debug__" : Str)) = false:=by decide) (hcd:(x == ("__classdict__" : Str)) = false:=by decide):PE X (.Name x pos) (cX7 i):=by
 intro pins s σ H Q I h
 obtain ⟨v,e,h⟩:=h
 obtain ⟨m,hn,hl⟩:=I.loc
 obtain ⟨u,r,l⟩:=hl i x v hN e hv
 have fin:EP X pins σ Q u s:=⟨v,H,I,r,h⟩
 rcases l with ⟨hk,hm⟩ | ⟨hk,c,hc,hcell⟩
 · exact wpAny_Name (wpAny_loadName_local I.ok.kind hk hn hm fin) hd
 · rcases hk with hk | hk
   · exact wpAny_Name (wpAny_loadName_cell I.ok.kind hk hc hcell fin) hd
   · exact wpAny_Name (wpAny_loadName_free I.ok.kind hk hc hcell fin hcd) hd
theorem aJ {i j pos}:PE X (.Constant (.int i) j pos) (tC (.int i)):=fun _ _ _ H _ I h => wpAny_Constant_int ⟨.int i,H,I.tok _,⟨_,rfl⟩,h⟩
theorem eV {b j pos}:PE X (.Constant (.bool b) j pos) (tC (.bl b)):=fun _ _ _ H _ I h => Constant_bool ⟨.bl b,H,I,rfl,h⟩
theorem bJL {j pos}:PE X (.Constant .none j pos) (tC .non):=fun _ _ _ H _ I h => Constant_none ⟨.non,H,I,rfl,h⟩
theorem pV {x j pos}:PE X (.Constant (.str x) j pos) (tC (.str x)):=fun _ _ _ H _ I h => Calls.Constant_str ⟨.str x,H,I.tok _,⟨_,rfl⟩,h⟩
def Gl (X:Cx) (x:Str):Prop:=X.env.kindOf x = some .globalImplicit
theorem eC {E:Value → Shared → Prop} {pins:List (Addr × Obj)} {s:Shared} {σ:St} {H:Hp} {x:Str} {u:Value} {pos:Pos} {Q:Value → Shared → Prop} (I:Inv X pins σ H s) (hg:Gl X x) (hm:X.mg x = some u) (h:Q u s)
   (hd:(x == ("__debug__" : Str)) = false:=by decide):wpAny (model X.prog X.w) X.A (eval (.Name x pos) X.env) Q E s :=
 Calls.Name_function_global I.ok.kind hg (Calls.loadGlobal_global (by rw [I.ok.glob]; exact I.mod.glob.keeps I.bk) hm h) hd
theorem fQ {E:Value → Shared → Prop} {pins:List (Addr × Obj)} {s:Shared} {σ:St} {H:Hp} {x:Str} {u:Value} {pos:Pos} {Q:Value → Shared → Prop} (I:Inv X pins σ H s) (hg:Gl X x) (hm:X.mg x = none) (hv:bootBuiltins x = some u) (h:Q u s)
   (hn:x ≠ "__name__" := by decide) (hd:(x == ("__debug__" : Str)) = false:=by decide):wpAny (model X.prog X.w) X.A (eval (.Name x pos) X.env) Q E s:=by
 obtain ⟨mb,h1,h2⟩:=I.mod.blt
 exact Calls.Name_function_global I.ok.kind hg (Calls.loadGlobal_builtin (by rw [I.ok.glob]; exact I.mod.glob.keeps I.bk) hm (by rw [I.ok.blt]; exact h1.keeps I.bk) ((h2 x hn).trans hv) h) hd
theorem bQP {x:Str} {v:V} {u:Value} {pos:Pos} (hg:Gl X x) (hm:X.mg x = some u) (r:RelV v u) (hd:(x == ("__debug__" : Str)) = false:=by decide):PE X (.Name x pos) (tC v) :=
 fun _ _ _ H _ I h => eC I hg hm ⟨v,H,I,r,h⟩ hd
theorem bXF {x:Str} {v:V} {u:Value} {pos:Pos} (hg:Gl X x) (hm:X.mg x = none) (hv:bootBuiltins x = some u) (r:RelV v u) (hn:x ≠ "__name__" := by decide) (hd:(x == ("__debug__" : Str)) = false:=by decide):PE X (.Name x pos) (tC v) :=
 fun _ _ _ H _ I h => fQ I hg hm hv ⟨v,H,I,r,h⟩ hn hd
variable {a b:Expr} {ta tb:TE} {pos:Pos}
variable {tA tB':TT} {rest:List Expr}
def dQB (t u:TT):TT:=fun σ H Q => t σ H fun c H1 => if c = true then u σ H1 Q else Q false H1
def tOr (t u:TT):TT:=fun σ H Q => t σ H fun c H1 => if c = true then Q true H1 else u σ H1 Q
def cZA (t:TT):TT:=fun σ H Q => t σ H fun c H1 => Q (!c) H1
theorem bX5 (ha:PT X a tA):PW X (.BoolOp .And [a] pos) tA:=by
 intro wh pins s σ H Q I h
 refine isTrue_and (thn (ha pins s σ H Q I h) fun c s1 e => ?_)
 cases c with
 | true => exact isTrue_and_nil e
 | false => exact e
theorem jO (ha:PT X a tA):PW X (.BoolOp .Or [a] pos) tA:=by
 intro wh pins s σ H Q I h
 refine isTrue_or (thn (ha pins s σ H Q I h) fun c s1 e => ?_)
 cases c with
 | false => exact isTrue_or_nil e
 | true => exact e
theorem cXW (ha:PT X a tA) (hb:PW X (.BoolOp .And (b :: rest) pos) tB'):PW X (.BoolOp .And (a :: b :: rest) pos) (dQB tA tB'):=by
 intro wh pins s σ H Q I h
 refine isTrue_and (thn (ha pins s σ H _ I h) fun c s1 ⟨H1,I1,q1⟩ => ?_)
 cases c with
 | true => exact hb wh pins s1 σ H1 Q I1 q1
 | false => exact ⟨H1,I1,q1⟩
theorem kC (ha:PT X a tA) (hb:PW X (.BoolOp .Or (b :: rest) pos) tB'):PW X (.BoolOp .Or (a :: b :: rest) pos) (tOr tA tB'):=by
 intro wh pins s σ H Q I h
 refine isTrue_or (thn (ha pins s σ H _ I h) fun c s1 ⟨H1,I1,q1⟩ => ?_)
 cases c with
 | true => exact ⟨H1,I1,q1⟩
 | false => exact hb wh pins s1 σ H1 Q I1 q1
theorem jT (ha:PT X a tA):PT X (.UnaryOp .Not a pos) (cZA tA):=by
 intro pins s σ H Q I h
 exact isTrue_not (ha pins s σ H (fun c H1 => Q (!c) H1) I h)
end
end L2
namespace L2
open PySem PySem.Spec PyProof.Rows
def SqL (K:PySem.W.Frag) (H:Hp) (a:Addr) (xs:List V):Prop :=
 Rd H a (.lst xs) ∨
   ∃ (o:Obj) (its:Array Value) (n:Nat),K.lookup a = some o ∧ o.cls = .type "list" ∧ o.dict = none ∧ o.data = .seq its n ∧ its.size ≤ sizeLine ∧ Vals xs its.toList
def SqT (K:PySem.W.Frag) (H:Hp) (a:Addr) (xs:List V):Prop :=
 Rd H a (.tup xs) ∨
   ∃ (o:Obj) (its:Array Value) (n:Nat),K.lookup a = some o ∧ o.cls = .type "tuple" ∧ o.data = .seq its n ∧ its.size ≤ sizeLine ∧ Vals xs its.toList
def dQS:Value → Option V
 | .none => some .non
 | .bool b => some (.bl b)
 | .int i _ => some (.int i)
 | .str x _ => some (.str x)
 | .bytes b _ => some (.byt b)
 | .float b _ => some (.flt b)
 | .ref a => some (.ref a)
 | .type n => some (.ty n)
 | _ => none
theorem RelV.abs {x:V} {u:Value} (r:RelV x u):dQS u = some x:=by
 cases x with
 | non => cases r; rfl
 | bl _ => cases r; rfl
 | int _ => obtain ⟨t,rfl⟩:=r; rfl
 | str _ => obtain ⟨t,rfl⟩:=r; rfl
 | byt _ => obtain ⟨t,rfl⟩:=r; rfl
 | flt _ => obtain ⟨t,rfl⟩:=r; rfl
 | ref _ => cases r; rfl
 | ty _ => cases r; rfl
theorem RelV.inj {x y:V} {u:Value} (r:RelV x u) (q:RelV y u):x = y:=Bo (r.abs.symm.trans q.abs)
theorem Vals.inj:∀ {xs ys:List V} {us:List Value},Vals xs us → Vals ys us → xs = ys
 | _,_,_,.nil,.nil => rfl
 | _,_,_,.cons r t,.cons r' t' => by rw [r.inj r',Vals.inj t t']
section
variable {X:Cx} {pins:List (Addr × Obj)} {σ:St} {H:Hp} {s:Shared} {a:Addr} {xs ys:List V}
theorem SqL.of {K:PySem.W.Frag} (h:H a = some (.lst xs)):SqL K H a xs:=.inl (.inl h)
theorem SqT.of {K:PySem.W.Frag} (h:H a = some (.tup xs)):SqT K H a xs:=.inl (.inl h)
theorem Inv.list (I:Inv X pins σ H s) (h:SqL X.K H a xs):∃ its:List Value,Vals xs its ∧ PlainL s.heap a its.toArray ∧ xs.length ≤ sizeLine:=by
 rcases h with h | ⟨o,its,n,hk,hc,hd,hs,hz,r⟩
 · obtain ⟨z,its,n,r,e⟩:=h.ok I.hok
   exact ⟨its,r,⟨_,n,e,rfl,rfl,rfl⟩,z⟩
 · refine ⟨its.toList,r,⟨o,n,I.kIn a o hk,hc,hd,by simpa using hs⟩,?_⟩
   have e:=r.length
   simp only [Array.length_toList] at e
   omega
theorem Inv.tuple (I:Inv X pins σ H s) (h:SqT X.K H a xs):∃ its:List Value,Vals xs its ∧ IsTup s.heap a its.toArray ∧ xs.length ≤ sizeLine:=by
 rcases h with h | ⟨o,its,n,hk,hc,hs,hz,r⟩
 · obtain ⟨z,its,r,p⟩:=h.ok I.hok
   exact ⟨its,r,p,z⟩
 · refine ⟨its.toList,r,⟨o,I.kIn a o hk,hc,n,by simpa using hs⟩,?_⟩
   have e:=r.length
   simp only [Array.length_toList] at e
   omega
theorem Inv.list_inj (I:Inv X pins σ H s) (h:SqL X.K H a xs) (h':SqL X.K H a ys):xs = ys:=by
 obtain ⟨its,r,⟨o,n,e,_,_,d⟩,_⟩:=I.list h
 obtain ⟨its',r',⟨o',n',e',_,_,d'⟩,_⟩:=I.list h'
 rw [e] at e'; cases e'
 rw [d] at d'
 injection d' with d1 _
 have:its = its':=by simpa using congrArg Array.toList d1
 subst this
 exact r.inj r'
end
abbrev Cx.wish (X:Cx) (E:Value → Shared → Prop):Cx:={ X with xe:=E }
abbrev Cx.nox (X:Cx):Cx:=X.wish fun _ _ => False
theorem Cx.Ok.wish {X:Cx} (ok:X.Ok) (E:Value → Shared → Prop):(X.wish E).Ok :=
 ⟨ok.mod,ok.kind,ok.glob,ok.blt,ok.above,ok.inj,ok.has,ok.cab,ok.hd,ok.frames,ok.stk,ok.exf,ok.bs,ok.bsz,ok.noex,ok.exfs,ok.funs,ok.frf⟩
theorem Cx.Ok.unwish {X:Cx} {E:Value → Shared → Prop} (ok:(X.wish E).Ok):X.Ok :=
 ⟨ok.mod,ok.kind,ok.glob,ok.blt,ok.above,ok.inj,ok.has,ok.cab,ok.hd,ok.frames,ok.stk,ok.exf,ok.bs,ok.bsz,ok.noex,ok.exfs,ok.funs,ok.frf⟩
section
variable {X:Cx} {pins:List (Addr × Obj)} {σ:St} {H:Hp} {s:Shared} {E:Value → Shared → Prop}
theorem Inv.wish (I:Inv X pins σ H s) (E:Value → Shared → Prop):Inv (X.wish E) pins σ H s:=⟨I.ok.wish E,I.os,I.bare,I.base,I.loc,I.cell,I.free,I.freeC,I.pin,I.hok,I.len⟩
theorem Inv.unwish (I:Inv (X.wish E) pins σ H s):Inv X pins σ H s:=⟨I.ok.unwish,I.os,I.bare,I.base,I.loc,I.cell,I.free,I.freeC,I.pin,I.hok,I.len⟩
theorem SP.unwish {D:Ends} {f:Flow} {s':Shared} (h:SP (X.wish E) pins D f s'):SP X pins D f s':=by
 cases f with
 | next => obtain ⟨σ',H',I,q⟩:=h; exact ⟨σ',H',I.unwish,q⟩
 | brk => obtain ⟨σ',H',I,q⟩:=h; exact ⟨σ',H',I.unwish,q⟩
 | cont => obtain ⟨σ',H',I,q⟩:=h; exact ⟨σ',H',I.unwish,q⟩
 | ret u => obtain ⟨v,σ',H',I,r,q⟩:=h; exact ⟨v,σ',H',I.unwish,r,q⟩
theorem PE.nox {e:Expr} {t:TE} (h:PE X.nox e t):PE X e t:=fun pins s σ H Q I hw =>
 Bw (h pins s σ H Q (I.wish _) hw) (fun _ _ ⟨v,H',I',r,q⟩ => ⟨v,H',I'.unwish,r,q⟩) fun _ _ z => False.elim z
theorem PT.nox {e:Expr} {t:TT} (h:PT X.nox e t):PT X e t:=fun pins s σ H Q I hw =>
 Bw (h pins s σ H Q (I.wish _) hw) (fun _ _ ⟨H',I',q⟩ => ⟨H',I'.unwish,q⟩) fun _ _ z => False.elim z
theorem PSs.nox {st:List Stmt} {t:TS} (h:PSs X.nox st t):PSs X st t:=fun pins s σ H D I hw =>
 Bw (h pins s σ H D (I.wish _) hw) (fun _ _ q => q.unwish) fun _ _ z => False.elim z
end
section
variable {X:Cx} {st:Stmt} {rest:List Stmt} {t u:TS} {e:Expr} {te:TE} {pos:Pos}
def bZ2:TS:=fun D σ H => D.nx σ H
def cJG (t u:TS):TS:=fun D σ H => t { D with nx:=u D } σ H
theorem bO:PSs X [] bZ2:=fun _ _ σ H _ I h => Gp ⟨σ,H,I,h⟩
theorem aD (h1:PS X st t) (h2:PSs X rest u):PSs X (st :: rest) (cJG t u):=by
 intro pins s σ H D I h
 refine wpAny_execs_cons (thn (h1 pins s σ H { D with nx:=u D } I h) fun f s1 q => ?_)
 cases f with
 | next =>
   obtain ⟨σ',H',I',q⟩:=q
   exact h2 pins s1 σ' H' D I' q
 | ret v => exact q
 | brk => exact q
 | cont => exact q
theorem aI (h1:PS X st t):PSs X [st] t:=by
 intro pins s σ H D I h
 refine wpAny_execs_cons (thn (h1 pins s σ H D I h) fun f s1 q => ?_)
 cases f with
 | next => exact Gp q
 | ret v => exact q
 | brk => exact q
 | cont => exact q
theorem Inv.quiet {pins:List (Addr × Obj)} {σ:St} {H:Hp} {s:Shared} (I:Inv X pins σ H s):interactive X.env = false:=by simp [interactive,I.ok.kind]
def bZV (te:TE):TS:=fun D σ H => te σ H fun _ H1 => D.nx σ H1
theorem dR (he:PE X e te) (hs:swapsWith e none pos.line X.env = pure false:=by rfl):PS X (.Expr e pos) (bZV te):=by
 intro pins s σ H D I h
 exact wpAny_Expr_any (thn (he pins s σ H _ I h) fun v s1 ⟨x,H1,I1,r1,q1⟩ => ⟨σ,H1,I1,q1⟩) I.quiet hs
def dQA (te:TE):TS:=fun D σ H => te σ H D.rt
theorem bE (he:PE X e te):PS X (.Return (some e) pos) (dQA te):=by
 intro pins s σ H D I h
 exact wpAny_Return_some (thn (he pins s σ H _ I h) fun v s1 ⟨x,H1,I1,r1,q1⟩ => ⟨x,σ,H1,I1,r1,q1⟩)
def cZ6 (c:TT) (t u:TS):TS:=fun D σ H => c σ H fun b H1 => if b = true then t D σ H1 else u D σ H1
theorem dP {c:Expr} {a b:List Stmt} {tc:TT} (hc:PT X c tc) (ha:PSs X a t) (hb:PSs X b u):PS X (.If c a b pos) (cZ6 tc t u):=by
 intro pins s σ H D I h
 refine wpAny_If (thn (hc pins s σ H _ I h) fun d s1 ⟨H1,I1,q1⟩ => ?_)
 cases d with
 | true => exact ha pins s1 σ H1 D I1 q1
 | false => exact hb pins s1 σ H1 D I1 q1
end
abbrev TG:=V → St → Hp → (St → Hp → Prop) → Prop
abbrev TGs:=List V → St → Hp → (St → Hp → Prop) → Prop
def PG (X:Cx) (target:Expr) (t:TG):Prop :=
 ∀ (pins:List (Addr × Obj)) (s:Shared) (σ:St) (H:Hp) (v:V) (u:Value) (Q:St → Hp → Prop),Inv X pins σ H s → RelV v u → t v σ H Q →
   wpAny (model X.prog X.w) X.A (assign target X.env u) (fun _ s' => ∃ σ' H',Inv X pins σ' H' s' ∧ Q σ' H') X.xe s
def PGs (X:Cx) (ts:List Expr) (t:TGs):Prop :=
 ∀ (pins:List (Addr × Obj)) (s:Shared) (σ:St) (H:Hp) (vs:List V) (us:List Value) (Q:St → Hp → Prop),Inv X pins σ H s → Vals vs us → t vs σ H Q →
   wpAny (model X.prog X.w) X.A (assignInOrder ((assignEach ts X.env).map (·.2)) us) (fun _ s' => ∃ σ' H',Inv X pins σ' H' s' ∧ Q σ' H') X.xe s
section
variable {X:Cx} {pos:Pos}
def iI (i:Nat):TG:=fun v σ H Q => Q (σ.set i (some v)) H
theorem aR {i:Nat} {x:Str} (hN:X.N.Nodup) (hi:X.N[i]? = some x) (hx:Loc X.env.scope x) (hf:X.fn x = true ∨ X.env.scope.names.lookup x = some .local:=by first | exact .inl rfl | exact .inr rfl | assumption):PG X (.Name x pos) (iI i):=by
 intro pins s σ H v u Q I r h
 exact wpAny_assign_Name (lK I hN hi hx r (fun s' I' => ⟨_,H,I',h⟩) hf)
def bQ7:TGs:=fun vs σ H Q => vs = [] ∧ Q σ H
def pA (t:TG) (u:TGs):TGs:=fun vs σ H Q => ∃ v r,vs = v :: r ∧ t v σ H fun σ' H' => u r σ' H' Q
theorem xQ:PGs X [] bQ7:=by
 intro pins s σ H vs us Q I r h
 obtain ⟨e,h⟩:=h
 subst e
 cases r
 exact assignInOrder_nil ⟨σ,H,I,h⟩
theorem iJ {e:Expr} {es:List Expr} {t:TG} {u:TGs} (h1:PG X e t) (h2:PGs X es u)
   (hs:(assignEach (e :: es) X.env).map (·.2) = assign e X.env :: (assignEach es X.env).map (·.2):=by rfl):PGs X (e :: es) (pA t u):=by
 intro pins s σ H vs us Q I r h
 obtain ⟨v,vr,e1,h⟩:=h
 subst e1
 cases r with
 | cons r rr =>
   rw [hs]
   refine assignInOrder_cons (thn (h1 pins s σ H _ _ _ I r h) fun _ s1 ⟨σ1,H1,I1,q1⟩ => ?_)
   exact h2 pins s1 σ1 H1 _ _ Q I1 rr q1
def aQ9 (K:PySem.W.Frag) (n:Nat) (t:TGs):TG:=fun v σ H Q => ∃ a xs,v = .ref a ∧ SqT K H a xs ∧ xs.length = n ∧ t xs σ H Q
theorem cQI {es:List Expr} {k:Nat} {t:TGs} {n:Nat} (hc:X.calm = true) (h:PGs X es t)
   (hn:(assignEach es X.env).length = n:=by rfl) (hst:(assignEach es X.env).findIdx? (·.1) = none:=by rfl):PG X (.Tuple es k pos) (aQ9 X.K n t):=by
 intro pins s σ H v u Q I r hw
 obtain ⟨a,xs,e1,hq,hl,hw⟩:=hw
 subst e1
 cases r
 obtain ⟨its,rv,ht,hz⟩:=I.tuple hq
 refine assign_Tuple_tuple (I.ok.hd hc) ht (by simp [hn,← hl,rv.length]) hst fun h' hx => ?_
 have I1:Inv X pins σ H { s with heap:=h' }:=I.kept (t':=s.toks) fun b o e => hx b o (Av (Ak e)) e
 exact h pins _ σ H xs _ Q I1 (by simpa using rv) hw
def aJS (te:TE) (g:TG):TS:=fun D σ H => te σ H fun x H1 => g x σ H1 D.nx
theorem aP {i:Nat} {x:Str} {e:Expr} {te:TE} {pos':Pos} (hN:X.N.Nodup) (hi:X.N[i]? = some x) (hx:Loc X.env.scope x) (he:PE X e te) (hs:swapsWith e (some (.Name x pos')) pos.line X.env = pure false:=by rfl) (hf:X.fn x = true ∨ X.env.scope.names.lookup x = some .local:=by first | exact .inl rfl | exact .inr rfl | assumption) :
   PS X (.Assign [.Name x pos'] e pos) (aJS te (iI i)):=by
 intro pins s σ H D I h
 refine wpAny_Assign_Name (thn (he pins s σ H _ I h) fun v s1 ⟨y,H1,I1,r1,q1⟩ => ?_) hs
 exact lK I1 hN hi hx r1 (fun s2 I2 => ⟨_,H1,I2,q1⟩) hf
end
section
variable {X:Cx} {pos:Pos}
def bJK (c:TT) (tb:TS):TS:=fun D σ H => ∃ W:Nat → St → Hp → Prop,(∃ m,W m σ H) ∧ ∀ m σ H,W m σ H →
 c σ H fun b H1 => if b = true then ∃ N:St → Hp → Prop,(∀ σ' H',N σ' H' → ∃ m',m' < m ∧ W m' σ' H') ∧ tb { D with nx:=N,ct:=N,bk:=D.nx } σ H1 else D.nx σ H1
theorem rY {c:Expr} {body:List Stmt} {tc:TT} {tb:TS} (hp:PassesOwn (model X.prog X.w) X.A X.env X.xe) (hc:PT X c tc) (hb:PSs X body tb):PS X (.While c body [] pos) (bJK tc tb):=by
 intro pins s σ H D I h
 obtain ⟨W,⟨m0,w0⟩,turn⟩:=h
 refine wpAny_While (codeAny_whileLoop (fun n s' => ∃ σ' H',Inv X pins σ' H' s' ∧ W n σ' H') ?_ m0 ⟨σ,H,I,w0⟩)
 rintro n s1 ⟨σ1,H1,I1,w1⟩
 refine Cu hp (thn (hc pins s1 σ1 H1 _ I1 (turn n σ1 H1 w1)) fun b s2 ⟨H2,I2,q2⟩ => ?_)
 cases b with
 | true =>
   obtain ⟨N,hN,q2⟩:=q2
   rw [if_pos rfl]
   refine Cu hp (thn (hb pins s2 σ1 H2 _ I2 q2) fun f s3 q3 => ?_)
   cases f with
   | next =>
     obtain ⟨σ3,H3,I3,n3⟩:=q3
     obtain ⟨m',hm,w3⟩:=hN σ3 H3 n3
     exact ⟨m',hm,σ3,H3,I3,w3⟩
   | cont =>
     obtain ⟨σ3,H3,I3,n3⟩:=q3
     obtain ⟨m',hm,w3⟩:=hN σ3 H3 n3
     exact ⟨m',hm,σ3,H3,I3,w3⟩
   | brk => exact q3
   | ret v => exact q3
 | false =>
   rw [if_neg Ao]
   exact Gp ⟨σ1,H2,I2,q2⟩
end
structure It where
 go:Nat → Hp → Prop
 yld:Nat → Hp → V → Hp → Prop
 stop:Nat → Hp → Prop
def dL (X:Cx) (pins:List (Addr × Obj)) (H:Hp) (b:Addr):Prop :=
 H b = none ∧ b ≠ X.env.locals ∧ b ∉ X.fs ∧ (b ∈ X.ex ∨ X.s₀.heap.objs.size ≤ b) ∧ (∀ x c,X.env.cells.lookup x = some c → c ≠ b) ∧ ∀ p ∈ X.pn ++ pins,p.1 ≠ b
theorem Inv.fpOk {X:Cx} {pins:List (Addr × Obj)} {σ:St} {H H':Hp} {s:Shared} {b:Addr} (I:Inv X pins σ H s) (hb:s.heap.objs.size ≤ b) (hn:H' b = none):dL X pins H' b:=by
 refine ⟨hn,Fm (Bb I.lt hb),I.nofs hb,.inr (Bg I.sz hb),fun x c e z => ?_,fun p hp z => ?_⟩
 · obtain ⟨v,q⟩:=I.cell x c e
   exact absurd (Bb q.lt (by rw [z]; exact hb)) (Cv _)
 · exact absurd (Bb (Ak (I.pin p hp).1) (by rw [z]; exact hb)) (Cv _)
structure Turn (P:Program) (w:World) (K:PySem.W.Frag) (tg:Expr) (J:It) (fp:List Addr) (it:Addr) (tn:Nat → Heap → Prop):Prop where
 mem:it ∈ fp
 obj:∀ i h,tn i h → ∀ b ∈ fp,∃ o,h.get? b = some o ∧ ∀ v,o.data ≠ .cell v
 keep:∀ i h h',tn i h → (∀ b ∈ fp,∀ o,h.get? b = some o → h'.get? b = some o) → tn i h'
 item:∀ (X:Cx),X.prog = P → X.w = w → X.K = K → X.calm = true → ∀ (i:Nat) (pins:List (Addr × Obj)) (s:Shared) (σ:St) (H:Hp) (E:Value → Shared → Prop),Inv X pins σ H s → (∀ b ∈ fp,dL X pins H b) → tn i s.heap → J.go i H →
   wpAny (model P w) X.A (pyNext (.ref it)) (fun r s1 => ∃ u,r = some u ∧
     wpAny (model P w) X.A (letOwnedTupleGo tg (.ref it) u) (fun _ s2 => ∃ x H',Inv X pins σ H' s2 ∧ RelV x u ∧ J.yld i H x H' ∧ tn (i + 1) s2.heap ∧ ∀ b ∈ fp,H' b = none) E s1) E s
 done:∀ (X:Cx),X.prog = P → X.w = w → X.K = K → X.calm = true → ∀ (i:Nat) (pins:List (Addr × Obj)) (s:Shared) (σ:St) (H:Hp) (E:Value → Shared → Prop),Inv X pins σ H s → (∀ b ∈ fp,dL X pins H b) → tn i s.heap → J.stop i H →
   wpAny (model P w) X.A (pyNext (.ref it)) (fun r s1 => r = none ∧ Inv X pins σ H s1) E s
 self:∀ (A:Around) (i:Nat) (s:Shared) (Q:Value → Shared → Prop) (E:Value → Shared → Prop),tn i s.heap → Q (.ref it) s → wpAny (model P w) A (pyIter (.ref it)) Q E s
abbrev TI:=St → Hp → (It → Hp → Prop) → Prop
def PIE (X:Cx) (pins:List (Addr × Obj)) (σ:St) (tg:Expr) (R:It → Hp → Prop) (itv:Value) (s2:Shared):Prop :=
 ∃ (it:Addr) (fp:List Addr) (tn:Nat → Heap → Prop) (J:It) (H':Hp),itv = .ref it ∧ Inv X pins σ H' s2 ∧ Turn X.prog X.w X.K tg J fp it tn ∧ tn 0 s2.heap ∧ (∀ b ∈ fp,dL X pins H' b) ∧ R J H'
def PI (X:Cx) (tg iter:Expr) (wi:TI):Prop :=
 ∀ (pins:List (Addr × Obj)) (s:Shared) (σ:St) (H:Hp) (R:It → Hp → Prop),Inv X pins σ H s → wi σ H R →
   wpAny (model X.prog X.w) X.A (eval iter X.env) (fun v s1 => wpAny (model X.prog X.w) X.A (pyIter v) (PIE X pins σ tg R) X.xe s1) X.xe s
theorem kL {M:Model} {A:Around} {E:Value → Shared → Prop} {s:Shared} {tg:Expr} {it:Addr} {u:Value} {o:Obj} {n:String} {vs:Array Value} {Q:Unit → Shared → Prop} (ho:s.heap.get? it = some o) (hc:o.cls = .type n) (hd:o.data = .fields vs)
   (hn:["enumerate", "zip", "dict_itemiterator", "dict_reverseitemiterator", "odict_iterator", "itertools.zip_longest", "itertools.pairwise"].contains n = false) (hQ:Q () s):wpAny M A (letOwnedTupleGo tg (.ref it) u) Q E s:=by
 unfold letOwnedTupleGo
 cases tg <;> first
   | exact Ae hQ
   | (cases u <;> first
       | exact Ae hQ
       | (refine Aa (wpAny_load ho ?_)
          rw [hc,hd]
          show wpAny M A (if (["enumerate", "zip", "dict_itemiterator", "dict_reverseitemiterator", "odict_iterator", "itertools.zip_longest", "itertools.pairwise"].contains n && vs[0]? == some (rawInt _)) = true then _ else _) Q E s
          rw [if_neg (by intro h; rw [hn,Bool.false_and] at h; cases h)]
          exact Ae hQ))
def Itl (K:PySem.W.Frag) (a:Addr):It :=
 ⟨fun i H => ∃ xs x,SqL K H a xs ∧ xs[i]? = some x,fun i H x H' => H' = H ∧ ∀ xs,SqL K H a xs → xs[i]? = some x,fun i H => ∃ xs,SqL K H a xs ∧ xs.length ≤ i⟩
def Itr (lo:Int) (n:Nat):It:=⟨fun i _ => i < n,fun i H x H' => H' = H ∧ x = .int (lo + i),fun i _ => n ≤ i⟩
theorem yP {P:Program} {w:World} {K:PySem.W.Frag} {tg:Expr} (a it:Addr):Turn P w K tg (Itl K a) [it] it (fun i h => h.IsListIter it a i) where
 mem:=by simp
 obj:=fun i h st b hb => by
   have e:b = it:=by simpa using hb
   subst e
   obtain ⟨o,e,c,d⟩:=st
   exact ⟨o,e,fun v z => by rw [d] at z; cases z⟩
 keep:=fun i h h' st k => st.at fun o e => k it (by simp) o e
 item:=by
   intro X hP hw hK hc i pins s σ H E I hf st hg
   subst hP hw hK
   obtain ⟨xs,x,hq,hx⟩:=hg
   obtain ⟨its,rv,p,hz⟩:=I.list hq
   obtain ⟨u,hu,ru⟩:=rv.get hx
   obtain ⟨f0,f1,f2,f3,f4,f5⟩:=hf it (by simp)
   refine wpAny_pyNext_list_item st p.isList (x:=u) (by simpa using hu) fun h' st' sb => ?_
   have I1:Inv X pins σ H { s with heap:=h' }:=I.turned (t':=s.toks) (fun b o hb e => (sb.2 b hb).trans e) f0 f1 f3 f4 f5
   obtain ⟨o,e,c,d⟩:=id st'
   exact ⟨u,rfl,kL (s:={ s with heap:=h' }) e c d (by decide) ⟨x,H,I1,ru,⟨rfl,fun ys hy => by rw [I.list_inj hy hq]; exact hx⟩,st',fun b hb => (hf b hb).1⟩⟩
 done:=by
   intro X hP hw hK hc i pins s σ H E I hf st hg
   subst hP hw hK
   obtain ⟨xs,hq,hx⟩:=hg
   obtain ⟨its,rv,p,hz⟩:=I.list hq
   obtain ⟨f0,f1,f2,f3,f4,f5⟩:=hf it (by simp)
   have hl:=rv.length
   exact wpAny_pyNext_list_end (I.ok.hd hc) st p.isList (by simp; omega) fun h' eb => ⟨rfl,I.turned (t':=s.toks) (fun b o hb e => eb b o hb e) f0 f1 f3 f4 f5⟩
 self:=fun _ _ _ _ _ st h => wpAny_pyIter_listiter st h
theorem tT {P:Program} {w:World} {K:PySem.W.Frag} {tg:Expr} (it:Addr) (lo:Int) (n:Nat):Turn P w K tg (Itr lo n) [it] it (fun i h => IsRangeIter h it (lo + (i:Nat) * 1) ((n:Int) - (i:Nat)) 1) where
 mem:=by simp
 obj:=fun i h st b hb => by
   have e:b = it:=by simpa using hb
   subst e
   exact ⟨_,st,fun v z => by
     have z':Data.fields _ = Data.cell v:=z
     cases z'⟩
 keep:=fun i h h' st k => k it (by simp) _ st
 item:=by
   intro X hP hw hK hc i pins s σ H E I hf st hg
   subst hP hw hK
   obtain ⟨f0,f1,f2,f3,f4,f5⟩:=hf it (by simp)
   have W:=Walks.range (prog:=X.prog) (w:=X.w) (I.ok.hd hc) it lo 1 n
   refine W.item i s _ _ hg st fun v h' tk hv st' kk => ?_
   obtain ⟨t,rfl⟩:=hv
   have I1:Inv X pins σ H { s with heap:=h',toks:=tk }:=I.turned (fun b o hb e => kk b o (by simpa using hb) e) f0 f1 f3 f4 f5
   refine ⟨_,rfl,kL (s:={ s with heap:=h',toks:=tk }) (n := "range_iterator") st' rfl rfl (by decide) ⟨.int (lo + i),H,I1,⟨t,?_⟩,⟨rfl,rfl⟩,st',fun b hb => (hf b hb).1⟩⟩
   rw [Int.mul_one]
 done:=by
   intro X hP hw hK hc i pins s σ H E I hf st hg
   subst hP hw hK
   obtain ⟨f0,f1,f2,f3,f4,f5⟩:=hf it (by simp)
   exact wpAny_pyNext_range_end (I.ok.hd hc) st (by have:n ≤ i:=hg; omega) fun h' eb => ⟨rfl,I.turned (t':=s.toks) (fun b o hb e => eb b o hb e) f0 f1 f3 f4 f5⟩
 self:=fun _ _ _ _ _ st h => wpAny_pyIter_rangeiter st h
end L2
namespace L2
open PySem PySem.Spec PyProof.Rows
section
variable {X:Cx} {tg:Expr}
theorem tQ {pins:List (Addr × Obj)} {σ:St} {H:Hp} {s:Shared} {R:It → Hp → Prop} {E:Value → Shared → Prop} {lo hi:Int} {t u v:Tok} {tk:Nat} (I:Inv X pins σ H s) (h1:-(2 ^ 62) ≤ lo) (h2:lo < 2 ^ 62) (h3:-(2 ^ 62) ≤ hi) (h4:hi < 2 ^ 62)
   (q:R (Itr lo (hi - lo).toNat) H):wpAny (model X.prog X.w) X.A (pyIter (.ref s.heap.objs.size)) (PIE X pins σ tg R) E { s with heap:=s.heap.push { cls:=.type "range",data:=.fields #[.int lo t,.int hi u,.int 1 v] },toks:=tk }:=by
 refine wpAny_pyIter_range (IsRange.new ..) (small_one h1 h2 h3 h4) ?_
 have I1:Inv X pins σ H { s with heap:=s.heap.push { cls:=.type "range",data:=.fields #[.int lo t,.int hi u,.int 1 v] },toks:=tk }:=I.kept fun b o e => Ad _ e
 refine ⟨(s.heap.push { cls:=.type "range",data:=.fields #[.int lo t,.int hi u,.int 1 v] }).objs.size,[(s.heap.push { cls:=.type "range",data:=.fields #[.int lo t,.int hi u,.int 1 v] }).objs.size],_,_,H,rfl,
   I1.kept (t':=tk) fun b o e => Ad _ e,tT _ lo (hi - lo).toNat,?_,fun b hb => ?_,q⟩
 · have e1:lo + ((0:Nat):Int) * 1 = lo:=by simp
   have e2:(((hi - lo).toNat:Nat):Int) - ((0:Nat):Int) = Builtin.Range.rangeSize lo hi 1:=by rw [rangeSize_one]; split <;> omega
   show IsRangeIter _ _ (lo + ((0:Nat):Int) * 1) ((((hi - lo).toNat:Nat):Int) - ((0:Nat):Int)) 1
   rw [e1,e2]
   exact Ap _ rfl
 · have e:b = (s.heap.push { cls:=.type "range",data:=.fields #[.int lo t,.int hi u,.int 1 v] }).objs.size:=by simpa using hb
   subst e
   exact I1.fpOk (Ai _) (I1.hok.fresh (Ai _))
def dQE (wi:TI) (g:TG) (tb:TS):TS:=fun D σ H => wi σ H fun J H1 => ∃ W:Nat → Nat → St → Hp → Prop,(∃ m,W 0 m σ H1) ∧ ∀ i m σ H,W i m σ H →
 (J.stop i H ∧ D.nx σ H) ∨ (J.go i H ∧ ∃ N:St → Hp → Prop,(∀ σ' H',N σ' H' → ∃ m',m' < m ∧ W (i + 1) m' σ' H') ∧ ∀ x H',J.yld i H x H' → g x σ H' fun σ2 H2 => tb { D with nx:=N,ct:=N,bk:=D.nx } σ2 H2)
def eY (fp:List Addr) (h:Heap):List (Addr × Obj):=fp.filterMap fun b => (h.get? b).map fun o => (b,o)
theorem cB {fp:List Addr} {h:Heap} {b:Addr} {o:Obj} (hb:b ∈ fp) (e:h.get? b = some o):(b,o) ∈ eY fp h:=Ce.mpr ⟨b,hb,by rw [e]; rfl⟩
theorem zQ {fp:List Addr} {h:Heap} {p:Addr × Obj} (hp:p ∈ eY fp h):p.1 ∈ fp ∧ h.get? p.1 = some p.2:=by
 obtain ⟨b,hb,e⟩:=Ce.mp hp
 cases q:h.get? b with
 | none => rw [q] at e; cases e
 | some o =>
   rw [q] at e
   have e':(b,o) = p:=Bo e
   subst e'
   exact ⟨hb,q⟩
theorem Inv.pinned {pins:List (Addr × Obj)} {σ:St} {H:Hp} {s:Shared} {fp:List Addr} (I:Inv X pins σ H s) (hf:∀ b ∈ fp,dL X pins H b) (ho:∀ b ∈ fp,∃ o,s.heap.get? b = some o ∧ ∀ v,o.data ≠ .cell v):Inv X (pins ++ eY fp s.heap) σ H s :=
 I.pins_of fun p hp => (Ci.mp hp).elim (fun z => I.pin p (Az _ z)) fun z => by
   obtain ⟨hb,e⟩:=zQ z
   obtain ⟨f0,f1,f2,_⟩:=hf p.1 hb
   obtain ⟨o,e',d⟩:=ho p.1 hb
   rw [e] at e'; cases e'
   exact ⟨e,f0,f1,f2,d⟩
theorem Inv.unpinned {pins pl:List (Addr × Obj)} {σ:St} {H:Hp} {s:Shared} (I:Inv X (pins ++ pl) σ H s):Inv X pins σ H s:=I.pins_of fun p hp => I.pin p (Az _ (Da _ hp))
theorem cQD {iter:Expr} {body:List Stmt} {wi:TI} {g:TG} {tb:TS} {pos:Pos} (hp:PassesOwn (model X.prog X.w) X.A X.env X.xe) (hc:X.calm = true) (hi:PI X tg iter wi) (hg:PG X tg g) (hb:PSs X body tb)
   (hs:∀ x,foldedSetIterable iter X.env x = pure x:=by intro _; rfl):PS X (.For tg iter body [] pos) (dQE wi g tb):=by
 intro pins s σ H D I h
 refine wpAny_For (thn (hi pins s σ H _ I h) fun v s1 h1 => thn h1 fun itv s2 h2 => ?_) hs
 obtain ⟨it,fp,tn,J,H2,e,I2,T,st2,f2,W,⟨m0,w0⟩,turn⟩:=h2
 subst e
 -- what stays true of the iterator's objects through the loop
 have stat:∀ {H':Hp},(∀ b ∈ fp,H' b = none) → ∀ b ∈ fp,dL X pins H' b:=fun hn b hb => ⟨hn b hb,(f2 b hb).2⟩
 refine codeAny_forLoop_any (fun n s' => ∃ i σ' H',Inv X pins σ' H' s' ∧ tn i s'.heap ∧ (∀ b ∈ fp,H' b = none) ∧ W i n σ' H') ?_ m0 ⟨0,σ,H2,I2,st2,fun b hb => (f2 b hb).1,w0⟩
 rintro n s3 ⟨i,σ3,H3,I3,st3,fr3,w3⟩
 rcases turn i n σ3 H3 w3 with ⟨stop,qn⟩ | ⟨go,N,hN,step⟩
 · refine Cu hp (thn (T.done X rfl rfl rfl hc i pins s3 σ3 H3 X.xe I3 (stat fr3) st3 stop) fun r s4 ⟨hr,I4⟩ => ?_)
   subst hr
   exact Gp ⟨σ3,H3,I4,qn⟩
 · refine Cu hp (thn (T.item X rfl rfl rfl hc i pins s3 σ3 H3 X.xe I3 (stat fr3) st3 go) fun r s4 ⟨u,hr,h4⟩ => ?_)
   subst hr
   refine Cu hp (thn h4 fun _ s5 ⟨x,H5,I5,r5,y5,st5,fr5⟩ => ?_)
   have I5':=I5.pinned (stat fr5) (T.obj _ _ st5)
   refine Cu hp (thn (hg _ s5 σ3 H5 x u _ I5' r5 (step x H5 y5)) fun _ s6 ⟨σ6,H6,I6,q6⟩ => ?_)
   refine Cu hp (thn (hb _ s6 σ6 H6 _ I6 q6) fun f s7 q7 => ?_)
   have again:∀ {σ7:St} {H7:Hp},Inv X (pins ++ eY fp s5.heap) σ7 H7 s7 → N σ7 H7 → ∃ m,m < n ∧ ∃ i σ' H',Inv X pins σ' H' s7 ∧ tn i s7.heap ∧ (∀ b ∈ fp,H' b = none) ∧ W i m σ' H':=fun {σ7 H7} I7 n7 => by
     obtain ⟨m',hm,w7⟩:=hN σ7 H7 n7
     refine ⟨m',hm,i + 1,σ7,H7,I7.unpinned,T.keep _ _ _ st5 fun b hb o e => (I7.pin (b,o) (Az _ (Az _ (cB hb e)))).1,fun b hb => ?_,w7⟩
     obtain ⟨o,e,d⟩:=T.obj _ _ st5 b hb
     exact (I7.pin (b,o) (Az _ (Az _ (cB hb e)))).2.1
   cases f with
   | next => obtain ⟨σ7,H7,I7,n7⟩:=q7; exact again I7 n7
   | cont => obtain ⟨σ7,H7,I7,n7⟩:=q7; exact again I7 n7
   | brk => obtain ⟨σ7,H7,I7,q7⟩:=q7; exact ⟨σ7,H7,I7.unpinned,q7⟩
   | ret v => obtain ⟨x7,σ7,H7,I7,r7,q7⟩:=q7; exact ⟨x7,σ7,H7,I7.unpinned,r7,q7⟩
end
theorem aQ4 {K:PySem.W.Frag} {a:Addr} {xs:List V} {g:TG} {tb:TS} {D:Ends} {σ:St} {H:Hp} (Pv:Nat → St → Hp → Prop) (h0:Pv 0 σ H) (hl:∀ i σ H,i ≤ xs.length → Pv i σ H → SqL K H a xs)
   (hs:∀ i x σ H,xs[i]? = some x → Pv i σ H → g x σ H fun σ2 H2 => tb { D with nx:=Pv (i + 1),ct:=Pv (i + 1),bk:=D.nx } σ2 H2) (hd:∀ σ H,Pv xs.length σ H → D.nx σ H) :
   ∃ W:Nat → Nat → St → Hp → Prop,(∃ m,W 0 m σ H) ∧ ∀ i m σ H,W i m σ H →
     ((Itl K a).stop i H ∧ D.nx σ H) ∨ ((Itl K a).go i H ∧ ∃ N:St → Hp → Prop,(∀ σ' H',N σ' H' → ∃ m',m' < m ∧ W (i + 1) m' σ' H') ∧ ∀ x H',(Itl K a).yld i H x H' → g x σ H' fun σ2 H2 => tb { D with nx:=N,ct:=N,bk:=D.nx } σ2 H2):=by
 refine ⟨fun i m σ H => m = xs.length - i ∧ i ≤ xs.length ∧ Pv i σ H,⟨xs.length,by simp,Nat.zero_le _,h0⟩,?_⟩
 rintro i m σ H ⟨rfl,hi,p⟩
 have q:=hl i σ H hi p
 by_cases hlt:i < xs.length
 · refine .inr ⟨⟨xs,xs[i],q,by simp [hlt]⟩,Pv (i + 1),fun σ' H' p' => ⟨xs.length - (i + 1),by omega,rfl,hlt,p'⟩,fun x H' y => ?_⟩
   obtain ⟨e,y⟩:=y
   subst e
   exact hs i x σ _ (y xs q) p
 · have e:i = xs.length:=by omega
   subst e
   exact .inl ⟨⟨xs,q,Ai _⟩,hd σ H p⟩
theorem aQE {lo:Int} {n:Nat} {g:TG} {tb:TS} {D:Ends} {σ:St} {H:Hp} (Pv:Nat → St → Hp → Prop) (h0:Pv 0 σ H)
   (hs:∀ i σ H,i < n → Pv i σ H → g (.int (lo + i)) σ H fun σ2 H2 => tb { D with nx:=Pv (i + 1),ct:=Pv (i + 1),bk:=D.nx } σ2 H2) (hd:∀ σ H,Pv n σ H → D.nx σ H) :
   ∃ W:Nat → Nat → St → Hp → Prop,(∃ m,W 0 m σ H) ∧ ∀ i m σ H,W i m σ H →
     ((Itr lo n).stop i H ∧ D.nx σ H) ∨ ((Itr lo n).go i H ∧ ∃ N:St → Hp → Prop,(∀ σ' H',N σ' H' → ∃ m',m' < m ∧ W (i + 1) m' σ' H') ∧ ∀ x H',(Itr lo n).yld i H x H' → g x σ H' fun σ2 H2 => tb { D with nx:=N,ct:=N,bk:=D.nx } σ2 H2):=by
 refine ⟨fun i m σ H => m = n - i ∧ i ≤ n ∧ Pv i σ H,⟨n,by simp,Nat.zero_le _,h0⟩,?_⟩
 rintro i m σ H ⟨rfl,hi,p⟩
 by_cases hlt:i < n
 · refine .inr ⟨hlt,Pv (i + 1),fun σ' H' p' => ⟨n - (i + 1),by omega,rfl,hlt,p'⟩,fun x H' y => ?_⟩
   obtain ⟨e,y⟩:=y
   subst e y
   exact hs i σ _ hlt p
 · have e:i = n:=by omega
   subst e
   exact .inl ⟨Ai _,hd σ H p⟩
end L2
namespace L2
open PySem PySem.Spec PyProof.Rows
abbrev R2:=V → V → Hp → VK → Prop
def OpR (X:Cx) (f:Value → Value → Sem Value) (r:R2):Prop :=
 ∀ (pins:List (Addr × Obj)) (s:Shared) (σ:St) (H:Hp) (x y:V) (v u:Value) (Q:VK),Inv X pins σ H s → RelV x v → RelV y u → r x y H Q →
   wpAny (model X.prog X.w) X.A (f v u) (EP X pins σ Q) X.xe s
def UnR (X:Cx) (f:Value → Sem Value) (r:V → Hp → VK → Prop):Prop :=
 ∀ (pins:List (Addr × Obj)) (s:Shared) (σ:St) (H:Hp) (x:V) (v:Value) (Q:VK),Inv X pins σ H s → RelV x v → r x H Q →
   wpAny (model X.prog X.w) X.A (f v) (EP X pins σ Q) X.xe s
def CallR (X:Cx) (f:Value) (r:List V → Hp → VK → Prop):Prop :=
 ∀ (pins:List (Addr × Obj)) (s:Shared) (σ:St) (H:Hp) (xs:List V) (us:List Value) (Q:VK),Inv X pins σ H s → Vals xs us → r xs H Q →
   wpAny (model X.prog X.w) X.A (call f us) (EP X pins σ Q) X.xe s
def dQW (X:Cx) (r:V → Hp → (Bool → Hp → Prop) → Prop):Prop :=
 ∀ (pins:List (Addr × Obj)) (s:Shared) (σ:St) (H:Hp) (x:V) (v:Value) (Q:Bool → Hp → Prop),Inv X pins σ H s → RelV x v → r x H Q →
   wpAny (model X.prog X.w) X.A (truthy v) (TP X pins σ Q) X.xe s
def tOp (r:R2) (ta tb:TE):TE:=fun σ H Q => ta σ H fun x H1 => tb σ H1 fun y H2 => r x y H2 Q
def tUn (r:V → Hp → VK → Prop) (ta:TE):TE:=fun σ H Q => ta σ H fun x H1 => r x H1 Q
def rI (C:Int → Int → Prop) (g:Int → Int → V):R2:=fun x y H Q => ∃ i j,x = .int i ∧ y = .int j ∧ C i j ∧ Q (g i j) H
def rI0 (g:Int → Int → V):R2:=fun x y H Q => ∃ i j,x = .int i ∧ y = .int j ∧ Q (g i j) H
def rU (g:Int → V):V → Hp → VK → Prop:=fun x H Q => ∃ i,x = .int i ∧ Q (g i) H
section
variable {X:Cx} {a b c:Expr} {ta tb tc:TE} {pos:Pos}
theorem cQH (ha:PE X a ta) (hb:PE X b tb) {pins:List (Addr × Obj)} {s:Shared} {σ:St} {H:Hp} {R:V → V → Hp → Prop} (I:Inv X pins σ H s)
   (h:ta σ H fun x H1 => tb σ H1 fun y H2 => R x y H2) {Q:Value → Shared → Prop} {f:Value → Value → Sem Value}
   (hf:∀ v u s2 x y H2,Inv X pins σ H2 s2 → RelV x v → RelV y u → R x y H2 → wpAny (model X.prog X.w) X.A (f v u) Q X.xe s2) :
   wpAny (model X.prog X.w) X.A (eval a X.env) (fun v s₁ => wpAny (model X.prog X.w) X.A (eval b X.env) (fun u s₂ => wpAny (model X.prog X.w) X.A (f v u) Q X.xe s₂) X.xe s₁) X.xe s:=by
 refine thn (ha pins s σ H _ I h) fun v s1 ⟨x,H1,I1,r1,q1⟩ => ?_
 refine thn (hb pins s1 σ H1 _ I1 q1) fun u s2 ⟨y,H2,I2,r2,q2⟩ => ?_
 exact hf v u s2 x y H2 I2 r1 r2 q2
theorem aN {op:Operator} {r:R2} (ho:OpR X (binaryOp op) r) (ha:PE X a ta) (hb:PE X b tb):PE X (.BinOp a op b pos) (tOp r ta tb):=by
 intro pins s σ H Q I h
 exact wpAny_BinOp (cQH ha hb I h fun v u s2 x y H2 I2 rx ry q => ho pins s2 σ H2 x y v u Q I2 rx ry q)
theorem cJH {op:UnaryOp} {r:V → Hp → VK → Prop} (ho:UnR X (unaryOp op) r) (ha:PE X a ta):PE X (.UnaryOp op a pos) (tUn r ta):=by
 intro pins s σ H Q I h
 exact UnaryOp_ (thn (ha pins s σ H _ I h) fun v s1 ⟨x,H1,I1,r1,q1⟩ => ho pins s1 σ H1 x v Q I1 r1 q1)
theorem opI {f:Value → Value → Sem Value} {C:Int → Int → Prop} {g:Int → Int → Int}
   (rule:∀ (i j:Int) (t u:Tok) (s:Shared) (Q:Value → Shared → Prop) (E:Value → Shared → Prop),C i j → Q (.int (g i j) s.toks) { s with toks:=s.toks + 1 } → wpAny (model X.prog X.w) X.A (f (.int i t) (.int j u)) Q E s) :
   OpR X f (rI C fun i j => .int (g i j)):=by
 intro pins s σ H x y v u Q I rx ry h
 obtain ⟨i,j,rfl,rfl,hc,q⟩:=h
 obtain ⟨t,rfl⟩:=rx
 obtain ⟨t',rfl⟩:=ry
 exact rule i j t t' s _ _ hc ⟨.int (g i j),H,I.tok _,⟨_,rfl⟩,q⟩
theorem cZO {f:Value → Value → Sem Value} {g:Int → Int → Int}
   (rule:∀ (i j:Int) (t u:Tok) (s:Shared) (Q:Value → Shared → Prop) (E:Value → Shared → Prop),Q (.int (g i j) s.toks) { s with toks:=s.toks + 1 } → wpAny (model X.prog X.w) X.A (f (.int i t) (.int j u)) Q E s) :
   OpR X f (rI0 fun i j => .int (g i j)):=by
 intro pins s σ H x y v u Q I rx ry h
 obtain ⟨i,j,rfl,rfl,q⟩:=h
 obtain ⟨t,rfl⟩:=rx
 obtain ⟨t',rfl⟩:=ry
 exact rule i j t t' s _ _ ⟨.int (g i j),H,I.tok _,⟨_,rfl⟩,q⟩
theorem cJW {f:Value → Value → Sem Value} {g:Int → Int → Bool}
   (rule:∀ (i j:Int) (t u:Tok) (s:Shared) (Q:Value → Shared → Prop) (E:Value → Shared → Prop),Q (.bool (g i j)) s → wpAny (model X.prog X.w) X.A (f (.int i t) (.int j u)) Q E s) :
   OpR X f (rI0 fun i j => .bl (g i j)):=by
 intro pins s σ H x y v u Q I rx ry h
 obtain ⟨i,j,rfl,rfl,q⟩:=h
 obtain ⟨t,rfl⟩:=rx
 obtain ⟨t',rfl⟩:=ry
 exact rule i j t t' s _ _ ⟨.bl (g i j),H,I,rfl,q⟩
def cJ7 (i j:Int):Prop:=0 < j ∧ j < 1073741824
def CMul (i j:Int):Prop:=(-(2 ^ 64) < i ∧ i < 2 ^ 64) ∨ (-(2 ^ 64) < j ∧ j < 2 ^ 64)
theorem CMul.ok {i j:Int} (h:CMul i j):IntMulOk i j:=by
 rcases h with ⟨h1,h2⟩ | ⟨h1,h2⟩
 · exact .of_left (intBits_le_64 h1 h2)
 · exact .of_right (intBits_le_64 h1 h2)
theorem cXX:OpR X (binaryOp .Add) (rI0 fun i j => .int (i + j)):=cZO fun _ _ _ _ _ _ _ q => add_int q
theorem op_sub:OpR X (binaryOp .Sub) (rI0 fun i j => .int (i - j)):=cZO fun _ _ _ _ _ _ _ q => sub_int q
theorem op_mul:OpR X (binaryOp .Mult) (rI CMul fun i j => .int (i * j)):=opI fun _ _ _ _ _ _ _ hc q => mul_int q hc.ok
theorem op_fdiv:OpR X (binaryOp .FloorDiv) (rI cJ7 fun i j => .int (i / j)):=opI fun i j _ _ _ _ _ hc q => by
 have h1:(0:Int) < j:=hc.1
 have h2:j < 1073741824:=hc.2
 exact floordiv_int (by omega) (by rw [Int.fdiv_eq_ediv_of_nonneg i (by omega)]; exact q) (.inl (PyProof.noPylong_small (by omega)))
theorem op_mod:OpR X (binaryOp .Mod) (rI (fun _ j => 0 < j) fun i j => .int (i % j)):=opI fun i j _ _ _ _ _ hc q => by
 have h1:(0:Int) < j:=hc
 exact mod_int' (by omega) (by rw [Int.fmod_eq_emod_of_nonneg i (by omega)]; exact q)
theorem unI {f:Value → Sem Value} {g:Int → Int}
   (rule:∀ (i:Int) (t:Tok) (s:Shared) (Q:Value → Shared → Prop) (E:Value → Shared → Prop),Q (.int (g i) s.toks) { s with toks:=s.toks + 1 } → wpAny (model X.prog X.w) X.A (f (.int i t)) Q E s) :
   UnR X f (rU fun i => .int (g i)):=by
 intro pins s σ H x v Q I rx h
 obtain ⟨i,rfl,q⟩:=h
 obtain ⟨t,rfl⟩:=rx
 exact rule i t s _ _ ⟨.int (g i),H,I.tok _,⟨_,rfl⟩,q⟩
theorem cQ8:UnR X (unaryOp .USub) (rU fun i => .int (-i)):=unI fun _ _ _ _ _ q => neg_int q
end
def bX4:V → V → Bool
 | .non,.non => true | .non,.int _ => true | .int _,.non => true | .non,.bl _ => true | .bl _,.non => true | .non,.str _ => true | .str _,.non => true
 | .int _,.int _ => true | .bl _,.bl _ => true | .str _,.str _ => true | .byt _,.byt _ => true
 | .int _,.str _ => true | .str _,.int _ => true | .bl _,.str _ => true | .str _,.bl _ => true
 | _,_ => false
def rEq:R2:=fun x y H Q => bX4 x y = true ∧ Q (.bl (decide (x = y))) H
def rNe:R2:=fun x y H Q => bX4 x y = true ∧ Q (.bl (!decide (x = y))) H
theorem xL {i j:Int}:decide (V.int i = V.int j) = (i == j):=by
 rw [Bool.eq_iff_iff]
 simp
theorem aJG {i j:Bool}:decide (V.bl i = V.bl j) = (i == j):=by
 rw [Bool.eq_iff_iff]
 simp
theorem pH {i j:Str}:decide (V.str i = V.str j) = (i == j):=by
 rw [Bool.eq_iff_iff]
 simp
theorem xM {i j:Array UInt8}:decide (V.byt i = V.byt j) = (i.toList == j.toList):=by
 rw [Bool.eq_iff_iff]
 cases i
 cases j
 simp
section
variable {X:Cx} {a b c:Expr} {ta tb tc:TE} {pos:Pos}
theorem aX {pins:List (Addr × Obj)} {σ:St} {H:Hp} {s:Shared} {Q:VK} {k k':Bool} (I:Inv X pins σ H s) (q:Q (.bl k) H) (e:k = k'):EP X pins σ Q (.bool k') s:=by
 subst e
 exact ⟨.bl k,H,I,rfl,q⟩
theorem cJ1:OpR X (compareOp .Eq) rEq:=by
 intro pins s σ H x y v u Q I rx ry h
 obtain ⟨hs,q⟩:=h
 cases x with
 | non =>
   cases rx
   cases y with
   | non => cases ry; exact PySem.EqNone.eq_none_none (aX I q (by simp))
   | bl j => cases ry; exact PySem.EqNone.eq_none_bool (aX I q (by simp))
   | int j => obtain ⟨t',rfl⟩:=ry; exact PySem.EqNone.eq_none_int (aX I q (by simp))
   | str j => obtain ⟨t',rfl⟩:=ry; exact PySem.EqNone.eq_none_str (aX I q (by simp))
   | _ => exact absurd (show false = true from hs) Ao
 | bl i =>
   cases rx
   cases y with
   | non => cases ry; exact PySem.EqNone.eq_bool_none (aX I q (by simp))
   | bl j => cases ry; exact eq_bool (aX I q aJG)
   | str j => obtain ⟨t',rfl⟩:=ry; exact PySem.EqMixed.eq_bool_str (aX I q (by simp))
   | _ => exact absurd (show false = true from hs) Ao
 | int i =>
   obtain ⟨t,rfl⟩:=rx
   cases y with
   | non => cases ry; exact PySem.EqNone.eq_int_none (aX I q (by simp))
   | int j => obtain ⟨t',rfl⟩:=ry; exact eq_int (aX I q xL)
   | str j => obtain ⟨t',rfl⟩:=ry; exact PySem.EqMixed.eq_int_str (aX I q (by simp))
   | _ => exact absurd (show false = true from hs) Ao
 | str i =>
   obtain ⟨t,rfl⟩:=rx
   cases y with
   | non => cases ry; exact PySem.EqNone.eq_str_none (aX I q (by simp))
   | bl j => cases ry; exact PySem.EqMixed.eq_str_bool (aX I q (by simp))
   | int j => obtain ⟨t',rfl⟩:=ry; exact PySem.EqMixed.eq_str_int (aX I q (by simp))
   | str j => obtain ⟨t',rfl⟩:=ry; exact eq_str (aX I q pH)
   | _ => exact absurd (show false = true from hs) Ao
 | byt i =>
   obtain ⟨t,rfl⟩:=rx
   cases y with
   | byt j => obtain ⟨t',rfl⟩:=ry; exact PySem.W.eq_bytes (aX I q xM)
   | _ => exact absurd (show false = true from hs) Ao
 | _ => cases y <;> exact absurd (show false = true from hs) Ao
theorem cJP:OpR X (compareOp .NotEq) rNe:=by
 intro pins s σ H x y v u Q I rx ry h
 obtain ⟨hs,q⟩:=h
 cases x with
 | non =>
   cases rx
   cases y with
   | non => cases ry; exact PySem.EqNone.ne_none_none (aX I q (by simp))
   | bl j => cases ry; exact PySem.EqNone.ne_none_bool (aX I q (by simp))
   | int j => obtain ⟨t',rfl⟩:=ry; exact PySem.EqNone.ne_none_int (aX I q (by simp))
   | str j => obtain ⟨t',rfl⟩:=ry; exact PySem.EqNone.ne_none_str (aX I q (by simp))
   | _ => exact absurd (show false = true from hs) Ao
 | bl i =>
   cases rx
   cases y with
   | non => cases ry; exact PySem.EqNone.ne_bool_none (aX I q (by simp))
   | bl j => cases ry; exact ne_bool (aX I q (Cr not aJG))
   | str j => obtain ⟨t',rfl⟩:=ry; exact PySem.EqMixed.ne_bool_str (aX I q (by simp))
   | _ => exact absurd (show false = true from hs) Ao
 | int i =>
   obtain ⟨t,rfl⟩:=rx
   cases y with
   | non => cases ry; exact PySem.EqNone.ne_int_none (aX I q (by simp))
   | int j => obtain ⟨t',rfl⟩:=ry; exact ne_int (aX I q (Cr not xL))
   | str j => obtain ⟨t',rfl⟩:=ry; exact PySem.EqMixed.ne_int_str (aX I q (by simp))
   | _ => exact absurd (show false = true from hs) Ao
 | str i =>
   obtain ⟨t,rfl⟩:=rx
   cases y with
   | non => cases ry; exact PySem.EqNone.ne_str_none (aX I q (by simp))
   | bl j => cases ry; exact PySem.EqMixed.ne_str_bool (aX I q (by simp))
   | int j => obtain ⟨t',rfl⟩:=ry; exact PySem.EqMixed.ne_str_int (aX I q (by simp))
   | str j => obtain ⟨t',rfl⟩:=ry; exact ne_str (aX I q (Cr not pH))
   | _ => exact absurd (show false = true from hs) Ao
 | byt i =>
   obtain ⟨t,rfl⟩:=rx
   cases y with
   | byt j => obtain ⟨t',rfl⟩:=ry; exact PySem.W.ne_bytes (aX I q (Cr not xM))
   | _ => exact absurd (show false = true from hs) Ao
 | _ => cases y <;> exact absurd (show false = true from hs) Ao
theorem op_lt:OpR X (compareOp .Lt) (rI0 fun i j => .bl (decide (i < j))):=cJW fun _ _ _ _ _ _ _ q => lt_int q
theorem op_gt:OpR X (compareOp .Gt) (rI0 fun i j => .bl (decide (j < i))):=cJW fun _ _ _ _ _ _ _ q => gt_int q
theorem op_notN:OpR X (compareOp .IsNot) (fun x y H Q => y = .non ∧ Q (.bl (!decide (x = .non))) H):=by
 intro pins s σ H x y v u Q I rx ry h
 obtain ⟨rfl,q⟩:=h
 cases ry
 refine isnot_none_gen (aX I q ?_)
 cases x <;> first
   | (cases rx; rfl)
   | (obtain ⟨t,rfl⟩:=rx; rfl)
theorem OpR.or {f:Value → Value → Sem Value} {r r':R2} (h:OpR X f r) (h':OpR X f r'):OpR X f (fun x y H Q => r x y H Q ∨ r' x y H Q):=by
 intro pins s σ H x y v u Q I rx ry q
 rcases q with q | q
 · exact h pins s σ H x y v u Q I rx ry q
 · exact h' pins s σ H x y v u Q I rx ry q
theorem bW (b:Expr) {op:CmpOp} (h:op ≠ .In:=by decide) (h2:op ≠ .NotIn:=by decide):behindInMarks op b = false:=by
 have e1:(op == CmpOp.In) = false:=by cases op <;> first | rfl | exact absurd rfl h
 have e2:(op == CmpOp.NotIn) = false:=by cases op <;> first | rfl | exact absurd rfl h2
 cases b <;> simp [behindInMarks,e1,e2]
theorem bQJ {op:CmpOp} {r:R2} (ho:OpR X (compareOp op) r) (ha:PE X a ta) (hb:PE X b tb) (hm:behindInMarks op b = false):PE X (.Compare a [op] [b] pos) (tOp r ta tb):=by
 intro pins s σ H Q I h
 exact wpAny_Compare1 (cQH ha hb I h fun v u s2 x y H2 I2 rx ry q => ho pins s2 σ H2 x y v u Q I2 rx ry q) hm
def cZZ (K:PySem.W.Frag) (x:V) (H:Hp) (k:Bool):Prop :=
 match x with
 | .non => k = false
 | .bl b => k = b
 | .int i => k = (i != 0)
 | .str y => y.length ≤ sizeLine ∧ k = ((y.length:Int) != 0)
 | .byt y => y.size ≤ sizeLine ∧ k = ((y.size:Int) != 0)
 | .ref p => (∃ xs,SqL K H p xs ∧ k = !xs.isEmpty) ∨ (∃ xs,SqT K H p xs ∧ k = !xs.isEmpty) ∨ ∃ kvs,H p = some (.dK kvs) ∧ k = !kvs.isEmpty
 | _ => False
theorem vM {κ:Type} {kvs:List (κ × V)} {vs:List (κ × Value)} (r:KV kvs vs):(!vs.isEmpty) = !kvs.isEmpty:=by
 cases r <;> rfl
theorem mK {xs:List V} {its:List Value} (r:Vals xs its):(!its.toArray.isEmpty) = !xs.isEmpty:=by
 cases r <;> simp
theorem jQ:(sizeLine:Nat) < 2 ^ 63:=by rw [sizeLine_eq]; decide
theorem cQU:dQW X (fun x H Q => ∃ k,cZZ X.K x H k ∧ Q k H):=by
 intro pins s σ H x v Q I rx h
 obtain ⟨k,e,q⟩:=h
 have hl:=jQ
 have hs:sizeLine = 16777216:=sizeLine_eq
 cases x with
 | non =>
   cases rx
   have e':k = false:=e
   subst e'
   exact truthy_none ⟨H,I,q⟩
 | bl b =>
   cases rx
   have e':k = b:=e
   subst e'
   exact Ha ⟨H,I,q⟩
 | int i =>
   obtain ⟨t,rfl⟩:=rx
   have e':k = (i != 0):=e
   subst e'
   exact PySem.P.truthy_int ⟨H,I,q⟩
 | str y =>
   obtain ⟨t,rfl⟩:=rx
   obtain ⟨hy,e'⟩:y.length ≤ sizeLine ∧ k = ((y.length:Int) != 0):=e
   subst e'
   exact PySem.P.truthy_str (by omega) ⟨H,I.tok _,q⟩
 | byt y =>
   obtain ⟨t,rfl⟩:=rx
   obtain ⟨hy,e'⟩:y.size ≤ sizeLine ∧ k = ((y.size:Int) != 0):=e
   subst e'
   exact PySem.W.truthy_bytes (by omega) ⟨H,I.tok _,q⟩
 | ref p =>
   cases rx
   have e':(∃ xs,SqL X.K H p xs ∧ k = !xs.isEmpty) ∨ (∃ xs,SqT X.K H p xs ∧ k = !xs.isEmpty) ∨ ∃ kvs,H p = some (.dK kvs) ∧ k = !kvs.isEmpty:=e
   rcases e' with ⟨xs,hx,e'⟩ | ⟨xs,hx,e'⟩ | ⟨kvs,hx,e'⟩
   · subst e'
     obtain ⟨its,r,pl,hz⟩:=I.list hx
     have hlen:=r.length
     exact wpAny_truthy_list pl.isList (by simp only [List.size_toArray]; omega) ⟨H,I.tok _,by rw [mK r]; exact q⟩
   · subst e'
     obtain ⟨its,r,pl,hz⟩:=I.tuple hx
     have hlen:=r.length
     exact truthy_tuple pl (by simp only [List.size_toArray]; omega) ⟨H,I.tok _,by rw [mK r]; exact q⟩
   · subst e'
     obtain ⟨hz,hS,vs,r,m⟩:kvs.length ≤ sizeLine ∧ (p == sysModules) = false ∧ ∃ vs,KV kvs vs ∧ s.heap.DictOf (aM X.prog X.w) p vs:=I.hok p _ hx
     have hlen:kvs.length = vs.length:=Paired.length r
     exact wpAny_truthy_dict hS m (by omega) ⟨H,I.tok _,by rw [vM r]; exact q⟩
 | _ => exact (show False from e).elim
theorem tV:OpR X (binaryOp .Add) (fun x y H Q => ∃ i j,x = .str i ∧ y = .str j ∧ i.length + j.length ≤ sizeLine ∧ Q (.str (i ++ j)) H):=by
 intro pins s σ H x y v u Q I rx ry h
 obtain ⟨i,j,rfl,rfl,hz,q⟩:=h
 obtain ⟨t,rfl⟩:=rx
 obtain ⟨t',rfl⟩:=ry
 exact add_str (fun t' tk => ⟨.str (i ++ j),H,I.tok _,⟨_,rfl⟩,q⟩) hz
theorem dQ {x:V} {us:List Value} (r:Vals [x] us):∃ u,us = [u] ∧ RelV x u:=by
 cases r with
 | cons r1 r2 => cases r2; exact ⟨_,rfl,r1⟩
theorem kE {x y:V} {us:List Value} (r:Vals [x,y] us):∃ u w',us = [u,w'] ∧ RelV x u ∧ RelV y w':=by
 cases r with
 | cons r1 r2 =>
   cases r2 with
   | cons r3 r4 => cases r4; exact ⟨_,_,rfl,r1,r3⟩
theorem yK (hc:X.calm = true):CallR X (.builtin "min") (fun xs H Q => ∃ i j,xs = [.int i,.int j] ∧ Q (.int (if j < i then j else i)) H):=by
 intro pins s σ H xs us Q I r h
 obtain ⟨i,j,rfl,q⟩:=h
 obtain ⟨u,w',rfl,⟨t,rfl⟩,⟨t',rfl⟩⟩:=kE r
 refine min_two_ints (I.ok.hd hc) fun h' tk k => ⟨_,H,I.kept k,?_,q⟩
 by_cases hj:j < i
 · rw [if_pos hj,if_pos hj]; exact ⟨_,rfl⟩
 · rw [if_neg hj,if_neg hj]; exact ⟨_,rfl⟩
theorem call_int1:CallR X (.type "int") (fun xs H Q => (∃ i,xs = [.int i] ∧ Q (.int i) H) ∨ ∃ k,xs = [.bl k] ∧ Q (.int (if k then 1 else 0)) H):=by
 intro pins s σ H xs us Q I r h
 rcases h with ⟨i,rfl,q⟩ | ⟨k,rfl,q⟩
 · obtain ⟨u,rfl,t,rfl⟩:=dQ r
   exact call_int_int ⟨.int i,H,I,⟨_,rfl⟩,q⟩
 · obtain ⟨u,rfl,r1⟩:=dQ r
   cases r1
   exact call_int_bool ⟨.int (if k then 1 else 0),H,I.tok _,⟨_,rfl⟩,q⟩
theorem call_str_int:CallR X (.type "str") (fun xs H Q => ∃ i,xs = [.int i] ∧ i.natAbs.log2 < 1920 ∧ Q (.str (toString i)) H):=by
 intro pins s σ H xs us Q I r h
 obtain ⟨i,rfl,hz,q⟩:=h
 obtain ⟨u,rfl,t,rfl⟩:=dQ r
 exact PySem.P.str_of_int hz ⟨.str _,H,I.tok _,⟨_,rfl⟩,q⟩
def dQP (K:PySem.W.Frag) (x:V) (H:Hp) (n:Nat):Prop :=
 match x with
 | .str y => y.length ≤ sizeLine ∧ n = y.length
 | .byt y => y.size ≤ sizeLine ∧ n = y.size
 | .ref p => (∃ xs,SqL K H p xs ∧ n = xs.length) ∨ ∃ xs,SqT K H p xs ∧ n = xs.length
 | _ => False
theorem call_len:CallR X (.builtin "len") (fun xs H Q => ∃ x n,xs = [x] ∧ dQP X.K x H n ∧ Q (.int n) H):=by
 intro pins s σ H xs us Q I r h
 obtain ⟨x,n,rfl,e,q⟩:=h
 obtain ⟨u,rfl,rx⟩:=dQ r
 have hl:=jQ
 have hs:sizeLine = 16777216:=sizeLine_eq
 cases x with
 | str y =>
   obtain ⟨t,rfl⟩:=rx
   obtain ⟨hy,e'⟩:y.length ≤ sizeLine ∧ n = y.length:=e
   subst e'
   exact len_str (by omega) ⟨.int _,H,I.tok _,⟨_,rfl⟩,q⟩
 | byt y =>
   obtain ⟨t,rfl⟩:=rx
   obtain ⟨hy,e'⟩:y.size ≤ sizeLine ∧ n = y.size:=e
   subst e'
   exact PySem.W.len_bytes (by omega) ⟨.int _,H,I.tok _,⟨_,rfl⟩,q⟩
 | ref p =>
   cases rx
   have e':(∃ xs,SqL X.K H p xs ∧ n = xs.length) ∨ ∃ xs,SqT X.K H p xs ∧ n = xs.length:=e
   rcases e' with ⟨xs,hx,e'⟩ | ⟨xs,hx,e'⟩
   · subst e'
     obtain ⟨its,r',pl,hz⟩:=I.list hx
     have hlen:=r'.length
     exact Calls.call_len_list pl.isList (by simp only [List.size_toArray]; omega) ⟨.int xs.length,H,I.tok _,⟨_,by simp only [List.size_toArray]; rw [hlen]⟩,q⟩
   · subst e'
     obtain ⟨its,r',pl,hz⟩:=I.tuple hx
     have hlen:=r'.length
     exact len_tuple pl (by simp only [List.size_toArray]; omega) ⟨.int xs.length,H,I.tok _,⟨_,by simp only [List.size_toArray]; rw [hlen]⟩,q⟩
 | _ => exact (show False from e).elim
end
end L2
namespace L2
open PySem PySem.Spec PyProof.Rows
structure ObjM (h:Heap) (x dx C:Addr) (mA:Str → Option Value):Prop where
 obj:h.get? x = some (PySem.W.instObj C dx)
 ns:h.Ns1 dx mA
 ne:dx ≠ x
theorem nU {h:Heap} {dx:Addr} {mA:Str → Option Value} (n:h.Ns1 dx mA):∃ od,h.get? dx = some od ∧ ∀ name,PySem.W.lookIn name od = some (mA name):=by
 obtain ⟨o,es,ep,ho,hd,hk,_,hm⟩:=n
 refine ⟨o,ho,fun name => ?_⟩
 have e:=hm name
 unfold nsFind findBy at e
 rw [← Array.find?_toList] at e
 unfold PySem.W.lookIn
 rw [hd]
 dsimp only
 split
 · rename_i y q
   rw [q] at e
   exact Cr some e
 · rename_i q
   rw [q] at e
   have a:es.toList.any (·.refKey) = false:=by
     rw [List.any_eq_false]
     intro y hy
     obtain ⟨z,t,hkey⟩:=hk y (Ee.mp hy)
     simp [DictEntry.refKey,hkey]
   have a':¬ es.toList.any (·.refKey) = true:=by rw [a]; exact Ao
   rw [if_neg a']
   exact Cr some e
theorem ObjM.look {h:Heap} {x dx C:Addr} {mA:Str → Option Value} (I:ObjM h x dx C mA):∃ od,PySem.W.InstAt h x (PySem.W.instObj C dx) C (some od) ∧ ∀ name,PySem.W.lookIn name od = some (mA name) :=
 let ⟨od,ho,hl⟩:=nU I.ns
 ⟨od,⟨I.obj,rfl,rfl,ho⟩,hl⟩
section
variable {prog:Program} {w:World} {A:Around} {E:Value → Shared → Prop} {s:Shared} {K:PySem.W.Frag} {x dx C f:Addr} {mA:Str → Option Value} {name:Str} {v:Value}
end
theorem RelO.some_of {v:V} {o:Option Value} (r:RelO (some v) o):∃ u,o = some u ∧ RelV v u:=by
 cases o with
 | none => exact (show False from r).elim
 | some u => exact ⟨u,rfl,r⟩
theorem RelO.none_of {o:Option Value} (r:RelO none o):o = none:=by
 cases o with
 | none => rfl
 | some u => exact (show False from r).elim
section
variable {P:Program} {w:World} {H H':Hp} {h h':Heap} {a C dx:Addr} {fs fs':List (Str × V)}
theorem bXD (hok:HOk P w H h) (e:H a = some (.ins C dx fs)):∃ mA,ObjM h a dx C mA ∧ (∀ f,RelO (fs.lookup f) (mA f)) ∧ PySem.Within mA (fs.map (·.1)) ∧ fs.length ≤ 1000 ∧ H dx = some (.own a):=by
 obtain ⟨d,z,ne,ob,mA,n,r,q⟩:=(show ObjOk P w H h a (.ins C dx fs) from hok a _ e)
 exact ⟨mA,⟨ob,n,ne⟩,r,q,z,d⟩
end
structure Cls (K:PySem.W.Frag) (C:Addr):Prop where
 pg:PySem.W.plainGet K C Str.empty = true
 hd:PySem.W.hasDictIn K C = true
 po:PySem.W.plainOver K C = true
 sa:PySem.W.findIn K (.ref C) "__setattr__" = some (some (.builtin "object.__setattr__"))
theorem Cls.get {K:PySem.W.Frag} {C:Addr} (c:Cls K C) (f:Str):PySem.W.plainGet K C f = true:=c.pg
section
variable {X:Cx} {pins:List (Addr × Obj)} {σ:St} {H:Hp} {s:Shared} {a C dx:Addr} {fs:List (Str × V)} {f:Str} {v:V} {A:Around} {E:Value → Shared → Prop}
theorem Inv.made (I:Inv X pins σ H s):Inv X pins σ (upd (upd H s.heap.objs.size (.own (s.heap.objs.size + 1))) (s.heap.objs.size + 1) (.ins C s.heap.objs.size []))
   { s with heap:=(s.heap.push PySem.W.emptyDict).push (PySem.W.instObj C s.heap.objs.size) }:=by
 have e1:(s.heap.push PySem.W.emptyDict).get? s.heap.objs.size = some PySem.W.emptyDict:=Ap s.heap rfl
 have e2:((s.heap.push PySem.W.emptyDict).push (PySem.W.instObj C s.heap.objs.size)).get? (s.heap.objs.size + 1) = some (PySem.W.instObj C s.heap.objs.size):=by
   have:=Ap (s.heap.push PySem.W.emptyDict) (o:=PySem.W.instObj C s.heap.objs.size) rfl
   rwa [Em] at this
 have e3:(s.heap.push PySem.W.emptyDict).Ns s.heap.objs.size (fun _ => none):=⟨PySem.W.emptyDict,#[],_,e1,rfl,(fun e he => absurd he (by simp)),fun _ => rfl⟩
 have I1:=I.laid (a:=s.heap.objs.size) (o:=.own (s.heap.objs.size + 1)) (h':=s.heap.push PySem.W.emptyDict) (t':=s.toks) (fun b u q => Ad _ q) (Ai _) ⟨_,e1⟩
 refine I1.laid (a:=s.heap.objs.size + 1) (o:=.ins C s.heap.objs.size []) (t':=s.toks) (fun b u q => Ad _ q) (Nat.le_of_eq (Em _ _)) ?_
 have ne:s.heap.objs.size ≠ s.heap.objs.size + 1:=Av (Dx _)
 refine ⟨by rw [aH ne,aB],Cq _,ne,e2,fun _ => none,(Heap.Ns1.of_empty e3).at fun o q => Ad _ q,fun _ => True.intro,fun y hy => absurd rfl hy⟩
theorem bQL {prog:Program} {w:World} {env:Env} {e:Expr} {f:Str} {pos:Pos} {s:Shared} {Q:Value → Shared → Prop} (hb:attributeBase e f env (eval e env) = eval e env)
   (h:wpAny (model prog w) A (eval e env) (fun o s₁ => wpAny (model prog w) A (getAttr o f true) Q E s₁) E s):wpAny (model prog w) A (eval (.Attribute e f pos) env) Q E s :=
 Attribute_any_ h (by rw [arm_eval_Attribute,hb])
end
section
variable {X:Cx} {o e value:Expr} {f:Str} {pos pos' tpos:Pos} {ta tv:TE}
end
section
variable {X:Cx} {pins:List (Addr × Obj)} {σ:St} {H:Hp} {s:Shared} {A:Around} {E:Value → Shared → Prop} {Q:Value → Shared → Prop} {c:Value} {b:Bool}
inductive TyOf (K:PySem.W.Frag) (H:Hp):V → Value → Prop where
 | non:TyOf K H .non (.type "NoneType")
 | bl (x:Bool):TyOf K H (.bl x) (.type "bool")
 | int (i:Int):TyOf K H (.int i) (.type "int")
 | str (x:Str):TyOf K H (.str x) (.type "str")
 | flt (x:UInt64):TyOf K H (.flt x) (.type "float")
 | lst {a:Addr} {xs:List V} (e:H a = some (.lst xs)):TyOf K H (.ref a) (.type "list")
 | frz {a:Addr} {o:Obj} {xs:List V} (e:H a = some (.frz o (.lst xs))):TyOf K H (.ref a) (.type "list")
 | tup {a:Addr} {xs:List V} (e:H a = some (.tup xs)):TyOf K H (.ref a) (.type "tuple")
 | dK {a:Addr} {kvs:List (Key × V)} (e:H a = some (.dK kvs)):TyOf K H (.ref a) (.type "dict")
 | dT {a:Addr} {kvs:List (List Key × V)} (e:H a = some (.dT kvs)):TyOf K H (.ref a) (.type "dict")
 | ins {a C dx:Addr} {fs:List (Str × V)} (e:H a = some (.ins C dx fs)) (cl:Cls K C) (ha:PySem.W.findIn K (.ref C) "__class__" = some (some (.builtin "object.__class__")))
     (hn:PySem.W.specialIn K (.builtin "object.__class__") "__get__" = some (some (.builtin "getset_descriptor.__get__"))) (htk:PySem.W.takesIn K (.builtin "object.__class__") = some true)
     (hm:PySem.W.mroIn K C (.type "object") = some true):TyOf K H (.ref a) (.ref C)
theorem yX {x:V} {u t:Value} (I:Inv X pins σ H s) (rx:RelV x u) (ty:TyOf X.K H x t) (e:PySem.W.kitOne X.K t c = some b) (h:∀ tk,Q (.bool b) { s with toks:=tk }) :
   wpAny (model X.prog X.w) A (call (.builtin "isinstance") [u,c]) Q E s:=by
 cases ty with
 | non => cases (show u = Value.none from rx); exact De PySem.W.kitx_none I.kIn True.intro e (fun z => nomatch z) h
 | bl y => cases (show u = Value.bool y from rx); exact De PySem.W.kitx_bool I.kIn True.intro e (fun z => nomatch z) h
 | int i => obtain ⟨t,q⟩:=(show ∃ t,u = Value.int i t from rx); cases q; exact De PySem.W.kitx_int I.kIn True.intro e (fun z => nomatch z) h
 | str y => obtain ⟨t,q⟩:=(show ∃ t,u = Value.str y t from rx); cases q; exact De PySem.W.kitx_str I.kIn True.intro e (fun z => nomatch z) h
 | flt y => obtain ⟨t,q⟩:=(show ∃ t,u = Value.float y t from rx); cases q; exact De PySem.W.kitx_float I.kIn True.intro e (fun z => nomatch z) h
 | @lst a xs ea =>
   cases (show u = Value.ref a from rx)
   obtain ⟨_,_,n,_,h1⟩:=(show ObjOk X.prog X.w H s.heap a (.lst xs) from I.hok a _ ea)
   exact De PySem.W.kitx_list I.kIn ⟨_,h1,rfl⟩ e (fun z => nomatch z) h
 | @frz a ob xs ea =>
   cases (show u = Value.ref a from rx)
   obtain ⟨_,_,_,n,_,h1⟩:=(show ObjOk X.prog X.w H s.heap a (.frz ob (.lst xs)) from I.hok a _ ea)
   exact De PySem.W.kitx_list I.kIn ⟨_,h1,rfl⟩ e (fun z => nomatch z) h
 | @tup a xs ea =>
   cases (show u = Value.ref a from rx)
   obtain ⟨_,_,_,p⟩:=(show ObjOk X.prog X.w H s.heap a (.tup xs) from I.hok a _ ea)
   obtain ⟨o,h1,h2,_⟩:=p
   exact De PySem.W.kitx_tuple I.kIn ⟨o,h1,h2⟩ e (fun z => nomatch z) h
 | @dK a kvs ea =>
   cases (show u = Value.ref a from rx)
   obtain ⟨_,_,vs,_,p⟩:=(show ObjOk X.prog X.w H s.heap a (.dK kvs) from I.hok a _ ea)
   obtain ⟨o,es,ep,h1,h2,_⟩:=p
   exact De PySem.W.kitx_dict I.kIn ⟨o,h1,h2.1⟩ e (fun z => nomatch z) h
 | @dT a kvs ea =>
   cases (show u = Value.ref a from rx)
   obtain ⟨_,_,xs,_,o,es,ep,h1,h2,_⟩:=(show ObjOk X.prog X.w H s.heap a (.dT kvs) from I.hok a _ ea)
   exact De PySem.W.kitx_dict I.kIn ⟨o,h1,h2.1⟩ e (fun z => nomatch z) h
 | @ins a C dx fs ea cl ha hn htk hm =>
   cases (show u = Value.ref a from rx)
   obtain ⟨mA,O,_⟩:=bXD I.hok ea
   obtain ⟨od,J,_⟩:=O.look
   exact De (PySem.W.kitx_own (cl.get _) cl.hd ha hn htk hm) I.kIn J e (fun z => nomatch z) h
end
end L2
namespace L2
open PySem PySem.Spec PyProof.Rows
structure Room (k:Nat) (A:Around):Prop where
 hd:A.handled = none
 dp:A.depth + 3 * k + 5 < recursionLimit
 un:A.units + 16 * k + 200 < cLine
theorem Room.mono {j k:Nat} {A:Around} (r:Room k A) (h:j ≤ k):Room j A:=⟨r.hd,by have:=r.dp; omega,by have:=r.un; omega⟩
theorem Room.deeper {k:Nat} {A:Around} (r:Room (k + 1) A) (env:Env):Room k (A.deeper env) :=
 ⟨r.hd,by have:=r.dp; show A.depth + 1 + 3 * k + 5 < _; omega,by have:=r.un; show A.units + 3 + 16 * k + 200 < _; omega⟩
theorem Room.in1 {k:Nat} {A:Around} (r:Room (k + 1) A):Room k A.in1 :=
 ⟨r.hd,by have:=r.dp; show A.depth + 3 * k + 5 < _; omega,by have:=r.un; show A.units + 1 + 16 * k + 200 < _; omega⟩
theorem uB {A:Around} {C:Addr} {us:List Value} {kw:List (Str × Value)}:(A.under (.builtin "type.__call__" ⟨.ref C :: us,kw⟩)).depth = A.depth + 1:=by
 first | rfl | simp [Around.under,Code.weight,Code.isCreation,Code.isGuard,Code.isCaller,Code.frames,Code.isFrame,guardIds]
theorem vP {A:Around} {C:Addr} {us:List Value} {kw:List (Str × Value)}:(A.under (.builtin "type.__call__" ⟨.ref C :: us,kw⟩)).units = A.units + 1:=by
 first | rfl | simp [Around.under,Code.cUnits,Code.frames,Code.isFrame]
theorem Room.make {k:Nat} {A:Around} (r:Room (k + 1) A) (C:Addr) (us:List Value) (kw:List (Str × Value)):Room k (A.under (.builtin "type.__call__" ⟨.ref C :: us,kw⟩)) :=
 ⟨r.hd,by have:=r.dp; rw [uB]; omega,by have:=r.un; rw [vP]; omega⟩
theorem Room.depth {k:Nat} {A:Around} (r:Room k A):A.depth < recursionLimit:=by have:=r.dp; omega
theorem Room.units {k:Nat} {A:Around} (r:Room k A):A.units + 64 < cLine:=by have:=r.un; omega
theorem Room.units0 {k:Nat} {A:Around} (r:Room k A):A.units < cLine:=by have:=r.un; omega
def bQH:TA:=fun _ H Q => Q [] H
def aXC (ta:TE) (tr:TA):TA:=fun σ H Q => ta σ H fun x H1 => tr σ H1 fun xs H2 => Q (x :: xs) H2
section
variable {X:Cx} {e:Expr} {es:List Expr} {te:TE} {t:TA} {pos:Pos}
theorem aE:PA X [] bQH:=fun _ _ _ _ H Q I h => Calls.spliced_nil ⟨[],H,I,.nil,h⟩
theorem aA (ha:PE X e te) (hr:PA X es t) (hs:starEach (e :: es) X.env = (false,eval e X.env) :: starEach es X.env:=by rfl):PA X (e :: es) (aXC te t):=by
 intro pos pins s σ H Q I h
 rw [hs]
 show wpAny _ _ (spliced ((false,eval e X.env) :: backTo pos (starEach es X.env))) _ _ s
 refine Calls.spliced_cons (thn (ha pins s σ H _ I h) fun u s1 ⟨x,H1,I1,r1,q1⟩ => ?_)
 exact thn (hr pos pins s1 σ H1 _ I1 q1) fun us s2 ⟨xs,H2,I2,r2,q2⟩ => ⟨x :: xs,H2,I2,.cons r1 r2,q2⟩
def cZ7 (t:TA):TE:=fun σ H Q => t σ H fun xs H1 => xs.length ≤ sizeLine ∧ ∀ p,H1 p = none → Q (.ref p) (upd H1 p (.tup xs))
def cJT (t:TA):TE:=fun σ H Q => t σ H fun xs H1 => xs.length ≤ sizeLine ∧ ∀ p,H1 p = none → Q (.ref p) (upd H1 p (.lst xs))
theorem bJ3 {x1} (h:PA X es t):PE X (.Tuple es x1 pos) (cZ7 t):=by
 intro pins s σ H Q I hq
 refine wpAny_Tuple_spliced (thn (h pos pins s σ H _ I hq) fun us s1 ⟨xs,H1,I1,r,z,q⟩ => ⟨by rw [← r.length]; exact z,?_⟩)
 have hf:H1 s1.heap.objs.size = none:=I1.hok.fresh (Ai _)
 refine ⟨.ref s1.heap.objs.size,upd H1 s1.heap.objs.size (.tup xs),I1.laid (t':=s1.toks) (fun b u e => Ad _ e) (Ai _) ?_,rfl,q _ hf⟩
 exact ⟨z,us,r,⟨_,Ap _ rfl,rfl,_,rfl⟩⟩
theorem fB (h:PA X es t):PE X (.List es pos) (cJT t):=by
 intro pins s σ H Q I hq
 refine wpAny_List_spliced (thn (h pos pins s σ H _ I hq) fun us s1 ⟨xs,H1,I1,r,z,q⟩ => ⟨by rw [← r.length]; exact z,?_⟩)
 have hf:H1 s1.heap.objs.size = none:=I1.hok.fresh (Ai _)
 refine ⟨.ref s1.heap.objs.size,upd H1 s1.heap.objs.size (.lst xs),I1.laid (t':=s1.toks) (fun b u e => Ad _ e) (Ai _) ?_,rfl,q _ hf⟩
 exact ⟨z,us,0,r,Ap _ rfl⟩
end
abbrev Sp:=List V → Hp → VK → XK → Prop
abbrev CXT:=List Env → Hp → Shared → XK → Value → Shared → Prop
structure Env0 (P:Program) (w:World) (K:PySem.W.Frag) (mg:Str → Option Value) (base:Heap) (A:Around) (outer:List Env) (s:Shared) (H:Hp):Prop where
 frames:A.frames = some outer
 mod:Mod K mg base
 bs:∀ b o,base.get? b = some o → s.heap.get? b = some o ∧ H b = none
 bsz:base.objs.size ≤ s.heap.objs.size
 funs:s.heap.FunFrames base outer
 frf:∀ b ∈ frs outer,H b = none
 hok:HOk P w H s.heap
 bare:AllBare s.gens
def CE (outer:List Env) (P:Program) (w:World) (H:Hp) (s:Shared) (Q:VK) (u:Value) (s':Shared):Prop :=
 ∃ v H',s'.os = s.os ∧ AllBare s'.gens ∧ Un (frs outer) [] H H' s.heap s'.heap ∧ HOk P w H' s'.heap ∧ RelV v u ∧ Q v H'
def CR (CX:CXT) (outer:List Env) (P:Program) (w:World) (H:Hp) (s:Shared) (Q:VK) (E:XK) (r:Result) (s':Shared):Prop :=
 match r with
 | .ok (.ret u) => CE outer P w H s Q u s'
 | .ok _ => False
 | .error e => CX outer H s E e s'
structure FnOk (P:Program) (w:World) (K:PySem.W.Frag) (mg:Str → Option Value) (base:Heap) (CX:CXT) (k:Nat) (f:Addr) (fd:FuncData) (ps:List Str) (sp:Sp):Prop where
 len:∀ vs H Q E,sp vs H Q E → vs.length = ps.length
 run:∀ (A:Around) (outer:List Env) (s:Shared) (H:Hp) (args:Args) (us:List Value) (vs:List V) (Q:VK) (E:XK),Room k A → Env0 P w K mg base A outer s H → BindsTo s fd args (ps.zip us) → Vals vs us → sp vs H Q E →
   codeAny (model P w) A (.call (.ref f) args) (CR CX outer P w H s Q E) s
theorem FnOk.mono {P:Program} {w:World} {K:PySem.W.Frag} {mg:Str → Option Value} {base:Heap} {CX:CXT} {j k:Nat} {f:Addr} {fd:FuncData} {ps:List Str} {sp:Sp} (F:FnOk P w K mg base CX j f fd ps sp) (h:j ≤ k) :
   FnOk P w K mg base CX k f fd ps sp:=⟨F.len,fun A outer s H args us vs Q E hr => F.run A outer s H args us vs Q E (hr.mono h)⟩
theorem FnOk.imp {P:Program} {w:World} {K:PySem.W.Frag} {mg:Str → Option Value} {base:Heap} {CX:CXT} {k:Nat} {f:Addr} {fd:FuncData} {ps:List Str} {sp sp':Sp} (F:FnOk P w K mg base CX k f fd ps sp)
   (h:∀ vs H Q E,sp' vs H Q E → sp vs H Q E):FnOk P w K mg base CX k f fd ps sp' :=
 ⟨fun vs H Q E q => F.len vs H Q E (h _ _ _ _ q),fun A outer s H args us vs Q E hr he hb hv hs => F.run A outer s H args us vs Q E hr he hb hv (h _ _ _ _ hs)⟩
theorem Env0.make {P:Program} {w:World} {K:PySem.W.Frag} {mg:Str → Option Value} {base:Heap} {A:Around} {outer:List Env} {s:Shared} {H:Hp} (e:Env0 P w K mg base A outer s H) (C:Addr) (us:List Value) (kw:List (Str × Value)) :
   Env0 P w K mg base (A.under (.builtin "type.__call__" ⟨.ref C :: us,kw⟩)) outer s H:=⟨by first | exact e.frames | (simpa [Around.under,Code.envs,Code.isFrame,pushEnvs] using e.frames),e.mod,e.bs,e.bsz,e.funs,e.frf,e.hok,e.bare⟩
theorem Env0.in1 {P:Program} {w:World} {K:PySem.W.Frag} {mg:Str → Option Value} {base:Heap} {A:Around} {outer:List Env} {s:Shared} {H:Hp} (e:Env0 P w K mg base A outer s H) :
   Env0 P w K mg base A.in1 outer s H:=⟨e.frames,e.mod,e.bs,e.bsz,e.funs,e.frf,e.hok,e.bare⟩
section
variable {X:Cx} {pins:List (Addr × Obj)} {σ:St} {H:Hp} {s s':Shared}
theorem Inv.env0 (I:Inv X pins σ H s):Env0 X.prog X.w X.K X.mg X.base X.A X.stack s H :=
 ⟨I.ok.frames,I.ok.mod,I.bs,Bg I.ok.bsz I.sz,I.stack,I.stkFree,I.hok,I.bare⟩
theorem Inv.after {Q:VK} {u:Value} (I:Inv X pins σ H s) (h:CE X.stack X.prog X.w H s Q u s'):EP X pins σ Q u s':=by
 obtain ⟨v,H',os,bare,un,hok,r,q⟩:=h
 obtain ⟨hh,g,d,t,os'⟩:=s'
 obtain rfl:os' = s.os:=os
 exact ⟨v,H',I.call (h':=hh) (g':=g) (d':=d) (t':=t) (ch:=[]) un hok bare (fun b z => absurd z (by simp)),r,q⟩
end
def sM (sp:Sp) (dvs:List V) (E:XK) (t:TA):TE:=fun σ H Q => t σ H fun vs H1 => sp (vs ++ dvs) H1 Q E
def Binds (K:PySem.W.Frag) (fd:FuncData) (ps:List Str) (ds:List Value):Prop :=
 ∀ (s:Shared) (us:List Value),K.In s.heap → (us ++ ds).length = ps.length → BindsTo s fd ⟨us,[]⟩ (ps.zip (us ++ ds))
theorem Binds.all {K:PySem.W.Frag} {fd:FuncData} {ps:List Str} (h:∀ us:List Value,us.length = ps.length → bindArgs fd ⟨us,[]⟩ = pure (ps.zip us)):Binds K fd ps []:=fun s us _ hl => by
 rw [Bs] at hl ⊢
 exact .of_eq (h us hl)
def lL (CX:CXT) (X:Cx) (E:XK):Prop:=∀ (pins:List (Addr × Obj)) (σ:St) (H:Hp) (s:Shared) (e:Value) (s':Shared),Inv X pins σ H s → CX X.stack H s E e s' → X.xe e s'
section
variable {X:Cx} {CX:CXT} {k:Nat} {f C:Addr} {fd:FuncData} {ps:List Str} {sp:Sp} {dvs:List V} {ds:List Value} {E:XK} {x m:Str} {p pos apos:Pos} {e o:Expr} {es:List Expr} {ta:TE} {t:TA}
theorem bJU {pins:List (Addr × Obj)} {σ:St} {H:Hp} {s:Shared} {Q:VK} {us:List Value} {vs:List V} (F:FnOk X.prog X.w X.K X.mg X.base CX k f fd ps sp) (hr:Room k X.A) (hb:Binds X.K fd ps ds) (hd:Vals dvs ds) (hx:lL CX X E)
   (I:Inv X pins σ H s) (r:Vals vs us) (h:sp (vs ++ dvs) H Q E):wpAny (model X.prog X.w) X.A (call (.ref f) us) (EP X pins σ Q) X.xe s:=by
 have r2:Vals (vs ++ dvs) (us ++ ds):=r.append hd
 have hl:(us ++ ds).length = ps.length:=by rw [← r2.length]; exact F.len _ _ _ _ h
 refine Gb (Ek (F.run X.A X.stack s H ⟨us,[]⟩ (us ++ ds) (vs ++ dvs) Q E hr I.env0 (hb s us I.kIn hl) r2 h) fun r s' hq => ?_)
 cases r with
 | error e => exact hx pins σ H s e s' I hq
 | ok fl =>
   cases fl with
   | ret u => exact I.after hq
   | next => exact False.elim hq
   | brk => exact False.elim hq
   | cont => exact False.elim hq
theorem wQ (F:FnOk X.prog X.w X.K X.mg X.base CX k f fd ps sp) (hr:Room k X.A) (hg:Gl X x) (hm:X.mg x = some (.ref f)) (hk:PySem.W.keepIn X.K (.ref f) = true) (hb:Binds X.K fd ps ds) (hd:Vals dvs ds) (hx:lL CX X E)
   (ha:PA X (e :: es) t) (hdb:(x == ("__debug__" : Str)) = false:=by decide) (he:starEach (e :: es) X.env = (false,eval e X.env) :: starEach es X.env:=by rfl) (hpl:(backTo pos (starEach es X.env)).any (·.1) = false:=by rfl) :
   PE X (.Call (.Name x p) (e :: es) [] pos) (sM sp dvs E t):=by
 intro pins s σ H Q I h
 refine Dy (eC I hg hm ?_ hdb)
 refine Fn (h₀:=X.base) I.ok.mod.kin hk (thn (ha pos pins s σ H _ I h) fun us s1 ⟨vs,H1,I1,r,q⟩ => ⟨I1.kIn,?_⟩) he hpl
 exact bJU F hr hb hd hx I1 r q
end
section
variable {X:Cx} {CX:CXT} {k:Nat} {f C:Addr} {fd:FuncData} {ps ks:List Str} {sp:Sp} {E:XK} {x m:Str} {p pos apos kpos:Pos} {e o:Expr} {es:List Expr} {kws:List Keyword} {te ta:TE} {t tk:TA} {nm:Option Str}
variable {g:List Value → List Value → List Value} {gV:List V → List V → List V}
end
structure FnScope (N P:List Str) (sc:Scope):Prop where
 kind:sc.kind = .function
 co:sc.isCoroutine = false
 gen:sc.isGenerator = false
 nd:N.Nodup
 pre:N.take P.length = P
 par:∀ x ∈ P,sc.names.lookup x = some .local ∨ sc.names.lookup x = some .cell
 nofree:∀ y ∈ sc.names,y.2 ≠ .free
theorem nR {kindOf:Str → Option NameKind} {x:Str}:∀ {binds:List (Str × Value)} {m:Str → Option Value},(∀ v,(x,v) ∉ binds) → bindL kindOf binds m x = m x
 | [],_,_ => rfl
 | (n,v) :: r,m,h => by
   unfold bindL
   rw [nR fun w hw => h w (Am _ hw)]
   split
   · have:x ≠ n:=by rintro rfl; exact h v An
     simp [this]
   · rfl
theorem oJ {kindOf:Str → Option NameKind} {x:Str}:∀ {binds:List (Str × Value)} {m:Str → Option Value},(∀ v,(x,v) ∉ binds) → bindC kindOf binds m x = m x
 | [],_,_ => rfl
 | (n,v) :: r,m,h => by
   unfold bindC
   rw [oJ fun w hw => h w (Am _ hw)]
   split
   · rfl
   · have:x ≠ n:=by rintro rfl; exact h v An
     simp [this]
theorem oV {kindOf:Str → Option NameKind} {x:Str} {v:Value}:∀ {P:List Str} {vs:List Value} {i:Nat} {m:Str → Option Value},P.Nodup → P[i]? = some x → vs[i]? = some v → kindOf x = some .local →
   bindL kindOf (P.zip vs) m x = some v
 | [],_,_,_,_,h,_,_ => by simp at h
 | _ :: _,[],_,_,_,_,h,_ => by simp at h
 | p :: P,w :: vs,0,m,nd,h1,h2,hk => by
   simp at h1 h2; subst h1; subst h2
   show bindL kindOf ((p,w) :: P.zip vs) m p = _
   unfold bindL
   rw [nR fun v hv => (Ca.mp nd).1 (List.of_mem_zip hv).1,if_pos hk]
   simp
 | p :: P,w :: vs,i + 1,m,nd,h1,h2,hk => by
   show bindL kindOf ((p,w) :: P.zip vs) m x = _
   unfold bindL
   exact oV (i:=i) (List.nodup_cons.mp nd).2 (by simpa using h1) (by simpa using h2) hk
theorem pD {kindOf:Str → Option NameKind} {x:Str} {v:Value}:∀ {P:List Str} {vs:List Value} {i:Nat} {m:Str → Option Value},P.Nodup → P[i]? = some x → vs[i]? = some v → kindOf x ≠ some .local →
   bindC kindOf (P.zip vs) m x = some v
 | [],_,_,_,_,h,_,_ => by simp at h
 | _ :: _,[],_,_,_,_,h,_ => by simp at h
 | p :: P,w :: vs,0,m,nd,h1,h2,hk => by
   simp at h1 h2; subst h1; subst h2
   show bindC kindOf ((p,w) :: P.zip vs) m p = _
   unfold bindC
   rw [oJ fun v hv => (Ca.mp nd).1 (List.of_mem_zip hv).1,if_neg hk]
   simp
 | p :: P,w :: vs,i + 1,m,nd,h1,h2,hk => by
   show bindC kindOf ((p,w) :: P.zip vs) m x = _
   unfold bindC
   exact pD (i:=i) (List.nodup_cons.mp nd).2 (by simpa using h1) (by simpa using h2) hk
def eN (N:List Str) (vs:List V):St:=vs.map some ++ List.replicate (N.length - vs.length) none
def fF (CX:CXT) (P:Program) (w:World) (K:PySem.W.Frag) (mg:Str → Option Value) (base:Heap) (N:List Str) (qual:Str) (scope:Scope) (f:Addr) (cd:Value) (A:Around) (outer:List Env) (s:Shared) (H:Hp) (E:XK):Cx where
 prog:=P
 w:=w
 K:=K
 mg:=mg
 base:=base
 A:=A.deeper (envOfC qual scope s.heap.objs.size f cd)
 N:=N
 s₀:=s
 H₀:=H
 env:=envOfC qual scope s.heap.objs.size f cd
 outer:=outer
 stack:=envOfC qual scope s.heap.objs.size f cd :: outer
 ex:=[]
 calm:=true
 fn:=fun _ => true
 pn:=[]
 xe:=fun e s' => wpAny (model P w) (A.deeper (envOfC qual scope s.heap.objs.size f cd)) (leaving (envOfC qual scope s.heap.objs.size f cd) e) (fun _ s'' => CX outer H s E e s'') (fun e' s'' => CX outer H s E e' s'') s'
theorem cJ {sc:Scope} {n:Nat} {x:Str} (h:sc.names.lookup x = some .cell):∃ c,(cellsFrom n sc.names []).lookup x = some c:=by
 have q:=Hb sc.names n [] (.inl h)
 exact Fb.mp q
theorem oU {CX:CXT} {P:Program} {w:World} {K:PySem.W.Frag} {mg:Str → Option Value} {base:Heap} {N ps:List Str} {qual:Str} {scope:Scope} {f:Addr} {cd:Value} {A:Around} {outer:List Env} {s s1:Shared} {H:Hp} {E:XK} {us:List Value} {vs:List V}
   (S:FnScope N ps scope) (hd:A.handled = none) (e0:Env0 P w K mg base A outer s H) (hl:vs.length = ps.length) (r:Vals vs us)
   (x:InCallC s s.heap.objs.size (bindL (envOfC qual scope s.heap.objs.size f cd).kindOf (ps.zip us) fun _ => none) (cellsFrom (s.heap.objs.size + 1) scope.names []) (bindC (envOfC qual scope s.heap.objs.size f cd).kindOf (ps.zip us) fun _ => none) s1) :
   Inv (fF CX P w K mg base N qual scope f cd A outer s H E) [] (eN N vs) H s1:=by
 have hpl:ps.length ≤ N.length:=by have:=Cr List.length S.pre; rw [By] at this; omega
 obtain ⟨h1,tk,rfl,hk⟩:=x.done
 have noA:∀ b:Addr,b ∉ (fF CX P w K mg base N qual scope f cd A outer s H E).ex:=fun b z => absurd (show b ∈ ([]:List Addr) from z) (by simp)
 refine ⟨⟨e0.mod,S.kind,rfl,rfl,Ai _,fun y z c h1 h2 => ?_,fun y hy => ?_,fun y c _ h => ?_,fun _ => hd,Around.frames_deeper e0.frames,.inr ⟨rfl,rfl⟩,fun b z => absurd z (noA b),e0.bs,e0.bsz,fun b _ _ => noA b,fun b z => absurd z (noA b),e0.funs,e0.frf⟩,
   rfl,e0.bare,Un.kept hk,⟨_,x.toInCall.ns,fun i y v h1 h2 h3 => ?_⟩,fun y c h => ⟨_,x.cell y c h⟩,e0.hok.fresh (Nat.le_refl _),fun y c h => ?_,fun p hp => absurd (show p ∈ ([]:List (Addr × Obj)) from hp) (by simp),e0.hok.kept hk,?_⟩
 · exact name_of_addr x.apart (Di h1) (Di h2)
 · have hy:scope.names.lookup y = some .cell ∨ scope.names.lookup y = some .free:=hy
   rcases hy with hy | hy
   · exact cJ hy
   · exact absurd rfl (S.nofree _ (Di hy))
 · exact Fl (x.above y c (Di h))
 · have hi:i < vs.length:=by
     unfold eN at h2
     by_cases hi:i < vs.length
     · exact hi
     · rw [List.getElem?_append_right (by simpa using hi)] at h2
       rw [List.getElem?_replicate] at h2
       split at h2 <;> cases h2
   have ha:vs[i]? = some v:=by
     unfold eN at h2
     rw [List.getElem?_append_left (by simpa using hi),List.getElem?_map] at h2
     cases e:vs[i]? with
     | none => rw [e] at h2; cases h2
     | some a => rw [e] at h2; cases h2; rfl
   obtain ⟨u,hu,rv⟩:=r.get ha
   have hp:ps[i]? = some y:=by
     rw [← S.pre,List.getElem?_take_of_lt (by omega)]; exact h1
   have ndP:ps.Nodup:=by rw [← S.pre]; exact S.nd.sublist (List.take_sublist _ _)
   refine ⟨u,rv,?_⟩
   rcases S.par y (As hp) with k | k
   · exact .inl ⟨k,oV ndP hp hu k⟩
   · obtain ⟨c,e⟩:=cJ (n:=s.heap.objs.size + 1) k
     refine .inr ⟨.inl k,c,e,?_⟩
     have q:=x.cell y c e
     rw [pD ndP hp hu (by show scope.names.lookup y ≠ _; rw [k]; decide)] at q
     exact q
 · exact e0.hok.fresh (Fl (x.above y c (Di h)))
 · unfold eN
   show _ = N.length
   rw [Ar,Ac,List.length_replicate]
   omega
theorem bZ0 {CX:CXT} {P:Program} {w:World} {K:PySem.W.Frag} {mg:Str → Option Value} {base:Heap} {k:Nat} {f:Addr} {name qual:Str} {params:Arguments} {body:List Stmt} {scope:Scope} {dV kV doc pm cdv ct oc:Value} {an od:Option Addr}
   {osl:Array (Option Value)} {N ps:List Str} {sp:Sp} (lk:K.lookup f = some ⟨oc,od,.func (PySem.W.fnOf name qual params body scope dV kV doc pm an cdv ct),osl⟩) (hcd:PySem.W.codeIn K cdv qual = true) (S:FnScope N ps scope)
   (len:∀ vs H Q E,sp vs H Q E → vs.length = ps.length)
   (hbody:∀ (A:Around) (outer:List Env) (s:Shared) (H:Hp) (vs:List V) (Q:VK) (E:XK),Room k (A.deeper (envOfC qual scope s.heap.objs.size f cdv)) → sp vs H Q E →
     ∃ t,PSs (fF CX P w K mg base N qual scope f cdv A outer s H E) body t ∧ t { nx:=fun _ H' => Q .non H',rt:=Q } (eN N vs) H) :
   FnOk P w K mg base CX (k + 1) f (PySem.W.fnOf name qual params body scope dV kV doc pm an cdv ct) ps sp:=by
 refine ⟨len,fun A outer s H args us vs Q E hr e0 hb r hsp => ?_⟩
 have hl:=len _ _ _ _ hsp
 have KX:K.In s.heap:=e0.mod.kin.keeps fun b o e => (e0.bs b o e).1
 have lim:s.heap.NoLimit:=e0.mod.nolimit.keeps fun b o e => (e0.bs b o e).1
 have hkind:∀ y ∈ ps.zip us,scope.names.lookup y.1 = some .local ∨ (scope.names.lookup y.1 = some .cell ∧ ((cellsFrom (s.heap.objs.size + 1) scope.names []).lookup y.1).isSome = true):=fun ⟨n,v⟩ hy => by
   rcases S.par n (List.of_mem_zip hy).1 with q | q
   · exact .inl q
   · exact .inr ⟨q,Hb _ _ _ (.inl q)⟩
 refine codeAny_call_function hr.depth (KX _ _ lk) rfl S.co S.gen rfl (PySem.W.codeRec_of KX hcd) (hb _ _ _ _ ?_)
 refine wpAny_newFunctionEnv_cells S.kind hkind fun env he s1 x => ?_
 subst he
 refine ⟨lim.keeps x.toInCall.keep,codeAny_func ?_⟩
 obtain ⟨t,ht,hq⟩:=hbody A outer s H vs Q E (hr.deeper _) hsp
 have I:Inv (fF CX P w K mg base N qual scope f cdv A outer s H E) [] (eN N vs) H s1:=oU S hr.hd e0 hl r x
 refine Bw (ht [] s1 (eN N vs) H _ I hq) (fun fl s' hs => ?_) fun e s' hs => hs
 have fin:∀ {σ':St} {H':Hp} {v:V} {u:Value},Inv (fF CX P w K mg base N qual scope f cdv A outer s H E) [] σ' H' s' → RelV v u → Q v H' → CE outer P w H s Q u s' :=
   fun {σ' H' v u} J rv q => ⟨v,H',J.os,J.bare,J.base,J.hok,rv,q⟩
 cases fl with
 | ret u =>
   obtain ⟨v,σ',H',J,rv,q⟩:=hs
   exact fin J rv q
 | next =>
   obtain ⟨σ',H',J,q⟩:=hs
   exact fin (v:=V.non) (u:=Value.none) J rfl q
 | brk =>
   obtain ⟨_,_,_,q⟩:=hs
   exact False.elim q
 | cont =>
   obtain ⟨_,_,_,q⟩:=hs
   exact False.elim q
end L2
namespace L2
open PySem PySem.Spec PyProof.Rows
section
variable {X:Cx} {x:Str} {p pos:Pos} {e:Expr} {es:List Expr} {t:TA} {id T:String} {r:List V → Hp → VK → Prop}
def tCB (r:List V → Hp → VK → Prop) (t:TA):TE:=fun σ H Q => t σ H fun vs H1 => r vs H1 Q
theorem aO (hc:CallR X (.builtin id) r) (hg:Gl X x) (hm:X.mg x = none) (hv:bootBuiltins x = some (.builtin id)) (ha:PA X (e :: es) t) (hn:x ≠ "__name__" := by decide) (hdb:(x == ("__debug__" : Str)) = false:=by decide)
   (he:starEach (e :: es) X.env = (false,eval e X.env) :: starEach es X.env:=by rfl) (hpl:(backTo pos (starEach es X.env)).any (·.1) = false:=by rfl):PE X (.Call (.Name x p) (e :: es) [] pos) (tCB r t):=by
 intro pins s σ H Q I h
 refine Dy (fQ I hg hm hv ?_ hn hdb)
 exact PyProof.Rows.callWith_builtin1 (thn (ha pos pins s σ H _ I h) fun us s1 ⟨vs,H1,I1,r1,q1⟩ => hc pins s1 σ H1 vs us Q I1 r1 q1) he hpl
theorem aT (hc:CallR X (.type T) r) (hg:Gl X x) (hm:X.mg x = none) (hv:bootBuiltins x = some (.type T)) (ha:PA X (e :: es) t) (hn:x ≠ "__name__" := by decide) (hdb:(x == ("__debug__" : Str)) = false:=by decide)
   (he:starEach (e :: es) X.env = (false,eval e X.env) :: starEach es X.env:=by rfl) (hpl:(backTo pos (starEach es X.env)).any (·.1) = false:=by rfl):PE X (.Call (.Name x p) (e :: es) [] pos) (tCB r t):=by
 intro pins s σ H Q I h
 refine Dy (fQ I hg hm hv ?_ hn hdb)
 exact Cz (thn (ha pos pins s σ H _ I h) fun us s1 ⟨vs,H1,I1,r1,q1⟩ => hc pins s1 σ H1 vs us Q I1 r1 q1) he hpl
end
end L2
namespace HT
open PySem PyProof.Rows
section
open PySem.SeqAt
open PySem.AutoSeq1 (wpAny_loadPart')
open PySem.MeetsSeq PySem.MeetsSeq2 PySem.MeetsSeq3
end
section
variable {prog:Program} {w:World} {A:Around} {E:Value → Shared → Prop} {s:Shared}
def sIx (n d:Nat):Option Int → Nat
 | none => d
 | some v => if v < 0 then (v + (n:Int)).toNat else min v.toNat n
end
end HT
namespace L2
open PySem PySem.Spec PyProof.Rows
abbrev TO:=St → Hp → (Option Int → Hp → Prop) → Prop
def PO (X:Cx) (e:Option Expr) (t:TO):Prop :=
 ∀ (pins:List (Addr × Obj)) (s:Shared) (σ:St) (H:Hp) (Q:Option Int → Hp → Prop),Inv X pins σ H s → t σ H Q →
   wpAny (model X.prog X.w) X.A (evalPart e X.env) (fun u s' => ∃ o H',Inv X pins σ H' s' ∧ IsPart u o ∧ Q o H') X.xe s
def qN:TO:=fun _ H Q => Q none H
section
variable {X:Cx} {e:Expr} {te:TE} {lo hi:Option Expr} {tl th:TO} {pos p2:Pos}
theorem bQZ:PO X none qN:=by
 intro pins s σ H Q I h
 rw [evalPart_none]
 exact Ae ⟨none,H,I,.none,h⟩
def SlR (X:Cx) (r:V → Option Int → Option Int → Hp → VK → Prop):Prop :=
 ∀ (pins:List (Addr × Obj)) (s:Shared) (σ:St) (H:Hp) (x:V) (v vl vu:Value) (lo hi:Option Int) (sl:Addr) (Q:VK),Inv X pins σ H s → RelV x v → s.heap.IsSliceOf sl vl vu .none → IsPart vl lo → IsPart vu hi → r x lo hi H Q →
   ∃ T id,typeLookup (.type T) "__getitem__" = pure (some (.builtin id)) ∧ s.TypeIs v T ∧ wpAny (model X.prog X.w) X.A (getItem v (.ref sl)) (EP X pins σ Q) X.xe s
theorem SlR.or {r r':V → Option Int → Option Int → Hp → VK → Prop} (h:SlR X r) (h':SlR X r'):SlR X (fun x lo hi H Q => r x lo hi H Q ∨ r' x lo hi H Q):=by
 intro pins s σ H x v vl vu lo hi sl Q I rx hs pl pu q
 rcases q with q | q
 · exact h pins s σ H x v vl vu lo hi sl Q I rx hs pl pu q
 · exact h' pins s σ H x v vl vu lo hi sl Q I rx hs pl pu q
def tSl (r:V → Option Int → Option Int → Hp → VK → Prop) (te:TE) (tl th:TO):TE:=fun σ H Q => te σ H fun x H1 => tl σ H1 fun l H2 => th σ H2 fun u H3 => r x l u H3 Q
theorem mM {r:V → Option Int → Option Int → Hp → VK → Prop} (hr:SlR X r) (he:PE X e te) (hl:PO X lo tl) (hu:PO X hi th):PE X (.Subscript e (.Slice lo hi none p2) pos) (tSl r te tl th):=by
 intro pins s σ H Q I h
 refine Subscript_ (thn (he pins s σ H _ I h) fun v s1 ⟨x,H1,I1,r1,q1⟩ => ?_)
 refine wpAny_Slice (thn (hl pins s1 σ H1 _ I1 q1) fun vl s2 ⟨l,H2,I2,pl,q2⟩ => thn (hu pins s2 σ H2 _ I2 q2) fun vu s3 ⟨u,H3,I3,pu,q3⟩ => ?_)
 rw [evalPart_none]
 refine Ae ?_
 have I4:Inv X pins σ H3 { s3 with heap:=s3.heap.push { cls:=.type "slice",data:=.fields #[vl,vu,.none] } }:=I3.kept (t':=s3.toks) fun b ob q => Ad _ q
 obtain ⟨T,id,hT,ht,hg⟩:=hr pins { s3 with heap:=s3.heap.push { cls:=.type "slice",data:=.fields #[vl,vu,.none] } } σ H3 x v vl vu l u s3.heap.objs.size Q I4 r1 (Heap.IsSliceOf.new ..) pl pu q3
 show wpAny (model X.prog X.w) X.A (subscriptTail e (.Slice lo hi none p2) v (.ref s3.heap.objs.size)) (EP X pins σ Q) X.xe { s3 with heap:=s3.heap.push { cls:=.type "slice",data:=.fields #[vl,vu,.none] } }
 exact tail_any (ops:=[.ref s3.heap.objs.size,v]) ht hT hg (by with_unfolding_all rfl)
def jY (xs:List V) (lo hi:Option Int):List V:=(xs.drop (HT.sIx xs.length 0 lo)).take (HT.sIx xs.length xs.length hi - HT.sIx xs.length 0 lo)
theorem tF (xs:List V) (lo hi:Option Int):(jY xs lo hi).length ≤ xs.length:=by
 unfold jY
 rw [By,Fi]
 omega
end
end L2
namespace L2
open PySem PySem.Spec PyProof.Rows
def ixN (n:Nat) (i:Int):Option Nat:=if 0 ≤ i then (if i < n then some i.toNat else none) else if -(n:Int) ≤ i then some (i + n).toNat else none
def atI {α:Type} (xs:List α) (i:Int):Option α:=(ixN xs.length i).bind fun j => xs[j]?
theorem bQK {n:Nat} {i:Int} {j:Nat} (h:ixN n i = some j):seqIndex? i n = some j ∧ j < n ∧ -(n:Int) ≤ i ∧ i < n:=by
 unfold ixN at h
 by_cases h0:0 ≤ i
 · rw [if_pos h0] at h
   by_cases h1:i < n
   · rw [if_pos h1] at h
     have e:i.toNat = j:=Bo h
     exact ⟨by rw [seqIndex_of h0 h1,e],by omega,by omega,h1⟩
   · rw [if_neg h1] at h; cases h
 · rw [if_neg h0] at h
   by_cases h1:-(n:Int) ≤ i
   · rw [if_pos h1] at h
     have e:(i + n).toNat = j:=Bo h
     exact ⟨by rw [seqIndex_neg (by omega) h1,e],by omega,h1,by omega⟩
   · rw [if_neg h1] at h; cases h
theorem qA {α:Type} {xs:List α} {i:Int} {v:α} (h:atI xs i = some v):∃ j,seqIndex? i xs.length = some j ∧ xs[j]? = some v ∧ j < xs.length ∧ -(xs.length:Int) ≤ i ∧ i < xs.length:=by
 unfold atI at h
 cases e:ixN xs.length i with
 | none => rw [e] at h; cases h
 | some j =>
   rw [e] at h
   obtain ⟨h1,h2,h3,h4⟩:=bQK e
   exact ⟨j,h1,h,h2,h3,h4⟩
theorem dZ {α:Type} {xs:List α} {j:Nat} {v:α} (h:xs[j]? = some v):atI xs (j:Int) = some v:=by
 have hj:j < xs.length:=(Af.mp h).1
 have e:ixN xs.length (j:Int) = some j:=by
   unfold ixN
   rw [if_pos (by omega),if_pos (by omega)]; simp
 unfold atI; rw [e]; exact h
def aJ3 (b:Expr):Prop:=∀ o i,subscripted b false o i = operate [o,i] (getItem o i)
def IxR (X:Cx) (r:R2):Prop :=
 ∀ (value slice:Expr) (pins:List (Addr × Obj)) (s:Shared) (σ:St) (H:Hp) (x y:V) (v u:Value) (Q:VK),Inv X pins σ H s → RelV x v → RelV y u → r x y H Q →
   subscripted slice false v u = operate [v,u] (getItem v u) → wpAny (model X.prog X.w) X.A (subscriptTail value slice v u) (EP X pins σ Q) X.xe s
def MtR (X:Cx) (id:String) (r:V → List V → Hp → VK → Prop):Prop :=
 ∀ (pins:List (Addr × Obj)) (s:Shared) (σ:St) (H:Hp) (x:V) (xs:List V) (v:Value) (us:List Value) (Q:VK),Inv X pins σ H s → RelV x v → Vals xs us → r x xs H Q →
   wpAny (model X.prog X.w) X.A (call (.builtin id) (v :: us)) (EP X pins σ Q) X.xe s
section
variable {X:Cx} {a b:Expr} {ta tb:TE} {pos:Pos}
theorem IxR.or {r r':R2} (h:IxR X r) (h':IxR X r'):IxR X (fun x y H Q => r x y H Q ∨ r' x y H Q):=by
 intro value slice pins s σ H x y v u Q I rx ry q hs
 rcases q with q | q
 · exact h value slice pins s σ H x y v u Q I rx ry q hs
 · exact h' value slice pins s σ H x y v u Q I rx ry q hs
theorem MtR.or {id:String} {r r':V → List V → Hp → VK → Prop} (h:MtR X id r) (h':MtR X id r'):MtR X id (fun x xs H Q => r x xs H Q ∨ r' x xs H Q):=by
 intro pins s σ H x xs v us Q I rx rs q
 rcases q with q | q
 · exact h pins s σ H x xs v us Q I rx rs q
 · exact h' pins s σ H x xs v us Q I rx rs q
theorem cL {r:R2} (hr:IxR X r) (ha:PE X a ta) (hb:PE X b tb) (hs:aJ3 b):PE X (.Subscript a b pos) (tOp r ta tb):=by
 intro pins s σ H Q I h
 exact Subscript_ (cQH ha hb I h fun v u s2 x y H2 I2 rx ry q => hr a b pins s2 σ H2 x y v u Q I2 rx ry q (hs _ _))
def bJJ (K:PySem.W.Frag):R2:=fun x y H Q => ∃ p xs i v,x = .ref p ∧ y = .int i ∧ SqL K H p xs ∧ atI xs i = some v ∧ Q v H
def cZ9 (K:PySem.W.Frag):R2:=fun x y H Q => ∃ p xs i v,x = .ref p ∧ y = .int i ∧ SqT K H p xs ∧ atI xs i = some v ∧ Q v H
def cZE:R2:=fun x y H Q => ∃ z i c,x = .str z ∧ y = .int i ∧ z.length ≤ sizeLine ∧ atI z.cps.toList i = some c ∧ Q (.str ⟨#[c]⟩) H
theorem ix_list:IxR X (bJJ X.K):=by
 intro value slice pins s σ H x y v u Q I rx ry h hs
 obtain ⟨p,xs,i,z,rfl,rfl,hq,he,q⟩:=h
 cases rx
 obtain ⟨t,rfl⟩:=ry
 obtain ⟨its,r,pl,hz⟩:=I.list hq
 obtain ⟨j,h1,h2,h3,h4,h5⟩:=qA he
 obtain ⟨w,ew,rw'⟩:=r.get h2
 have hl:=r.length
 have hn:=jQ
 have fin:EP X pins σ Q w s:=⟨z,H,I,rw',q⟩
 by_cases h0:0 ≤ i
 · have hj:i.toNat = j:=by
     rw [seqIndex_of h0 h5] at h1
     exact Bo h1
   exact item_listR pl.isList h0 (by omega) (by rw [hj]; simpa using ew) fin hs
 · have hj:(i + (its.toArray.size:Int)).toNat = j:=by
     rw [seqIndex_neg (by omega) h4] at h1
     rw [Bu,← hl]
     exact Bo h1
   exact subscriptTail_builtinR (x:=w) pl.isList.typeIs slot_list_getitem.lookup
     (wpAny_getItem_list_neg (Q:=fun r s' => r = w ∧ EP X pins σ Q r s') pl.isList (by omega) (by rw [List.size_toArray] <;> omega) (by omega) (by rw [hj]; simpa using ew) ⟨rfl,fin⟩) hs
theorem ix_tup:IxR X (cZ9 X.K):=by
 intro value slice pins s σ H x y v u Q I rx ry h hs
 obtain ⟨p,xs,i,z,rfl,rfl,hq,he,q⟩:=h
 cases rx
 obtain ⟨t,rfl⟩:=ry
 obtain ⟨its,r,pl,hz⟩:=I.tuple hq
 obtain ⟨j,h1,h2,h3,h4,h5⟩:=qA he
 obtain ⟨w,ew,rw'⟩:=r.get h2
 have hl:=r.length
 have hn:=jQ
 have fin:EP X pins σ Q w s:=⟨z,H,I,rw',q⟩
 exact subscriptTail_builtinR (x:=w) pl.typeIs slot_tuple_getitem.lookup
   (getItem_tuple (j:=j) (Q:=fun r s' => r = w ∧ EP X pins σ Q r s') pl (by omega) (by omega) (by rw [List.size_toArray,← hl]; exact h1) (by simpa using ew) ⟨rfl,fin⟩) hs
theorem bJF:IxR X cZE:=by
 intro value slice pins s σ H x y v u Q I rx ry h hs
 obtain ⟨z,i,c,rfl,rfl,hz,he,q⟩:=h
 obtain ⟨t,rfl⟩:=rx
 obtain ⟨t',rfl⟩:=ry
 obtain ⟨j,h1,h2,h3,h4,h5⟩:=qA he
 have hl:z.cps.toList.length = z.length:=by simp [Str.length]
 rw [hl] at h1 h4 h5
 have hn:=jQ
 exact tail_any (typeIs_str s z t) slot_str_getitem.lookup (getItem_str (c:=c) (by
   have e1:decide (i < -(2 ^ 63:Int)) = false:=Bd (by omega)
   have e2:decide (i ≥ 2 ^ 63) = false:=Bd (by omega)
   rw [e1,e2,Bool.or_false]) (by rw [h1]; simpa using h2) ⟨.str ⟨#[c]⟩,H,I.tok _,⟨_,rfl⟩,q⟩) hs
def rIx (K:PySem.W.Frag):R2:=fun x y H Q => bJJ K x y H Q ∨ cZ9 K x y H Q ∨ cZE x y H Q
theorem ix_seq:IxR X (rIx X.K):=ix_list.or (ix_tup.or bJF)
theorem Inv.lst {pins:List (Addr × Obj)} {σ:St} {H:Hp} {s:Shared} {p:Addr} {xs:List V} (I:Inv X pins σ H s) (h:H p = some (.lst xs)) :
   ∃ (its:List Value) (n:Nat),Vals xs its ∧ s.heap.get? p = some { cls:=.type "list",data:=.seq its.toArray n } ∧ xs.length ≤ sizeLine:=by
 obtain ⟨z,its,n,r,e⟩:=I.hok p _ h
 exact ⟨its,n,r,e,z⟩
theorem qD (lo hi:Option Int) (n:Nat):(sliceBounds lo hi none n).1 = ((HT.sIx n 0 lo:Nat):Int) ∧ (sliceBounds lo hi none n).2.1 = ((HT.sIx n n hi:Nat):Int) ∧ (sliceBounds lo hi none n).2.2 = 1:=by
 refine ⟨?_,?_,rfl⟩
 · cases lo with
   | none => simp [sliceBounds,HT.sIx]
   | some i =>
     simp only [sliceBounds,HT.sIx,Option.getD_none,show (1:Int) > 0 by decide,if_true]
     by_cases h:i < 0
     · simp only [h,if_true] <;> omega
     · simp only [h,if_false] <;> omega
 · cases hi with
   | none => simp [sliceBounds,HT.sIx]
   | some i =>
     simp only [sliceBounds,HT.sIx,Option.getD_none,show (1:Int) > 0 by decide,if_true]
     by_cases h:i < 0
     · simp only [h,if_true] <;> omega
     · simp only [h,if_false] <;> omega
theorem nI (its:List Value) (lo hi:Option Int):slicePick its.toArray lo hi none = ((its.drop (HT.sIx its.length 0 lo)).take (HT.sIx its.length its.length hi - HT.sIx its.length 0 lo)).toArray:=by
 obtain ⟨h1,h2,h3⟩:=qD lo hi its.toArray.size
 unfold slicePick
 rw [h1,h2,h3]
 simp only [sliceRange_one,pick_run,List.size_toArray] <;> rfl
def dQI (K:PySem.W.Frag):V → Option Int → Option Int → Hp → VK → Prop:=fun x lo hi H Q => ∃ a xs,x = .ref a ∧ SqL K H a xs ∧ ∀ p,H p = none → Q (.ref p) (upd H p (.lst (jY xs lo hi)))
theorem sl_list:SlR X (dQI X.K):=by
 intro pins s σ H x v vl vu lo hi sl Q I rx hs pl pu h
 obtain ⟨a,xs,rfl,hx,q⟩:=h
 cases rx
 obtain ⟨its,r,ht,hz⟩:=I.list hx
 have hlen:=r.length
 refine ⟨"list",_,slot_list_getitem.lookup,ht.isList.typeIs,?_⟩
 refine wpAny_getItem_list_slice ht.isList hs pl pu .none (by simp) ?_ (by rw [List.size_toArray] <;> omega)
 rw [nI,← hlen]
 refine ⟨.ref s.heap.objs.size,_,I.laid (t':=s.toks) (o:=.lst (jY xs lo hi)) (fun b ob q => Ad _ q) (Ai _) ?_,rfl,q _ (I.hok.fresh (Ai _))⟩
 exact ⟨Bg (tF xs lo hi) hz,_,0,(r.drop (HT.sIx xs.length 0 lo)).take (HT.sIx xs.length xs.length hi - HT.sIx xs.length 0 lo),Ap _ rfl⟩
def aW:V → Bool
 | .non => true
 | .bl _ => true
 | .int _ => true
 | .str _ => true
 | _ => false
def eqV:V → V → Bool
 | .non,.non => true
 | .bl a,.bl b => a == b
 | .bl a,.int b => (if a then 1 else 0) == b
 | .int a,.bl b => a == (if b then 1 else 0)
 | .int a,.int b => a == b
 | .str a,.str b => a == b
 | _,_ => false
theorem lU {A:Around} {s:Shared} {y x:V} {u v:Value} (ry:RelV y u) (rx:RelV x v) (fy:aW y = true) (fx:aW x = true):SeqAt.EqAt A s u v (eqV y x):=by
 cases y with
 | non =>
   cases ry
   cases x with
   | non => cases rx; exact Gq _
   | bl b => cases rx; exact SeqAt.EqAt.none_bool b
   | int b => obtain ⟨t,rfl⟩:=rx; exact SeqAt.EqAt.none_int b t
   | str b => obtain ⟨t,rfl⟩:=rx; exact SeqAt.EqAt.none_str b t
   | _ => exact absurd (show false = true from fx) Ao
 | bl a =>
   cases ry
   cases x with
   | non => cases rx; exact SeqAt.EqAt.bool_none a
   | bl b => cases rx; exact SeqAt.EqAt.bool_bool a b
   | int b => obtain ⟨t,rfl⟩:=rx; exact SeqAt.EqAt.bool_int a b t
   | str b => obtain ⟨t,rfl⟩:=rx; exact SeqAt.EqAt.bool_str a b t
   | _ => exact absurd (show false = true from fx) Ao
 | int a =>
   obtain ⟨t',rfl⟩:=ry
   cases x with
   | non => cases rx; exact SeqAt.EqAt.int_none a t'
   | bl b => cases rx; exact SeqAt.EqAt.int_bool a t' b
   | int b => obtain ⟨t,rfl⟩:=rx; exact SeqAt.EqAt.int_int a t' b t
   | str b => obtain ⟨t,rfl⟩:=rx; exact SeqAt.EqAt.int_str a t' b t
   | _ => exact absurd (show false = true from fx) Ao
 | str a =>
   obtain ⟨t',rfl⟩:=ry
   cases x with
   | non => cases rx; exact SeqAt.EqAt.str_none a t'
   | bl b => cases rx; exact SeqAt.EqAt.str_bool a t' b
   | int b => obtain ⟨t,rfl⟩:=rx; exact SeqAt.EqAt.str_int a t' b t
   | str b => obtain ⟨t,rfl⟩:=rx; exact SeqAt.EqAt.str_str a t' b t
   | _ => exact absurd (show false = true from fx) Ao
 | _ => exact absurd (show false = true from fy) Ao
def eqU (x:V) (u:Value):Bool:=match u with
 | .none => eqV .non x
 | .bool b => eqV (.bl b) x
 | .int i _ => eqV (.int i) x
 | .str z _ => eqV (.str z) x
 | _ => false
theorem aJI {x y:V} {u:Value} (r:RelV y u) (f:aW y = true):eqU x u = eqV y x:=by
 cases y with
 | non => cases r; rfl
 | bl b => cases r; rfl
 | int i => obtain ⟨t,rfl⟩:=r; rfl
 | str z => obtain ⟨t,rfl⟩:=r; rfl
 | _ => exact absurd (show false = true from f) Ao
theorem iY {x:V}:∀ {xs:List V} {us:List Value},Vals xs us → xs.all aW = true → us.any (eqU x) = xs.any fun y => eqV y x
 | _,_,.nil,_ => rfl
 | y :: xs,u :: us,.cons r t,f => by
   rw [List.all_cons,Fj] at f
   rw [Hm,Hm,aJI r f.1,iY t f.2]
theorem gB {A:Around} {s:Shared} {x:V} {v:Value} (rx:RelV x v) (fx:aW x = true):∀ {xs:List V} {us:List Value},Vals xs us → xs.all aW = true → ∀ u ∈ us,SeqAt.EqAt A s u v (eqU x u)
 | _,_,.nil,_ => fun u hu => by cases hu
 | y :: xs,u :: us,.cons r t,f => fun u' hu => by
   rw [List.all_cons,Fj] at f
   rcases Be.mp hu with rfl | hu
   · rw [aJI r f.1]; exact lU r rx f.1 fx
   · exact gB rx fx t f.2 u' hu
def inV (x:V) (xs:List V):Bool:=xs.any fun y => eqV y x
def rIn (K:PySem.W.Frag) (neg:Bool):R2:=fun x y H Q => ∃ p xs,y = .ref p ∧ (SqL K H p xs ∨ SqT K H p xs) ∧ aW x = true ∧ xs.all aW = true ∧ Q (.bl (if neg then !inV x xs else inV x xs)) H
theorem op_in_seq:OpR X (compareOp .In) (rIn X.K false):=by
 intro pins s σ H x y v u Q I rx ry h
 obtain ⟨p,xs,rfl,hq,fx,fs,q⟩:=h
 cases ry
 rcases hq with hq | hq
 · obtain ⟨its,r,pl,hz⟩:=I.list hq
   refine SeqAt.in_listAt (eqU x) pl.isList (fun w hw => gB rx fx r fs w (by simpa using hw)) ⟨.bl _,H,I,rfl,?_⟩
   rw [show its.toArray.any (eqU x) = its.any (eqU x) by simp,iY r fs]
   exact q
 · obtain ⟨its,r,pl,hz⟩:=I.tuple hq
   refine SeqAt.in_tupleAt (eqU x) pl (fun w hw => gB rx fx r fs w (by simpa using hw)) ⟨.bl _,H,I,rfl,?_⟩
   rw [show its.toArray.any (eqU x) = its.any (eqU x) by simp,iY r fs]
   exact q
theorem op_notIn_seq:OpR X (compareOp .NotIn) (rIn X.K true):=by
 intro pins s σ H x y v u Q I rx ry h
 obtain ⟨p,xs,rfl,hq,fx,fs,q⟩:=h
 cases ry
 rcases hq with hq | hq
 · obtain ⟨its,r,pl,hz⟩:=I.list hq
   refine SeqAt.notIn_listAt (eqU x) pl.isList (fun w hw => gB rx fx r fs w (by simpa using hw)) ⟨.bl _,H,I,rfl,?_⟩
   rw [show its.toArray.any (eqU x) = its.any (eqU x) by simp,iY r fs]
   exact q
 · obtain ⟨its,r,pl,hz⟩:=I.tuple hq
   refine SeqAt.notIn_tupleAt (eqU x) pl (fun w hw => gB rx fx r fs w (by simpa using hw)) ⟨.bl _,H,I,rfl,?_⟩
   rw [show its.toArray.any (eqU x) = its.any (eqU x) by simp,iY r fs]
   exact q
theorem qB:CallR X (.builtin "len") (fun xs H Q => ∃ p ys,xs = [.ref p] ∧ (SqL X.K H p ys ∨ SqT X.K H p ys) ∧ Q (.int ys.length) H):=by
 intro pins s σ H xs us Q I r h
 obtain ⟨p,ys,rfl,hq,q⟩:=h
 obtain ⟨u,rfl,rx⟩:=dQ r
 cases rx
 have hn:=jQ
 rcases hq with hq | hq
 · obtain ⟨its,r',pl,hz⟩:=I.list hq
   have hlen:=r'.length
   exact Calls.call_len_list pl.isList (by simp only [List.size_toArray] <;> omega) ⟨.int ys.length,H,I.tok _,⟨s.toks + 1,by rw [List.size_toArray,hlen]⟩,q⟩
 · obtain ⟨its,r',pl,hz⟩:=I.tuple hq
   have hlen:=r'.length
   exact len_tuple pl (by simp only [List.size_toArray] <;> omega) ⟨.int ys.length,H,I.tok _,⟨s.toks + 1,by rw [List.size_toArray,hlen]⟩,q⟩
theorem CallR.or {f:Value} {r r':List V → Hp → VK → Prop} (h:CallR X f r) (h':CallR X f r'):CallR X f (fun xs H Q => r xs H Q ∨ r' xs H Q):=by
 intro pins s σ H xs us Q I rs q
 rcases q with q | q
 · exact h pins s σ H xs us Q I rs q
 · exact h' pins s σ H xs us Q I rs q
theorem call_list_of:CallR X (.type "list") (fun xs H Q => ∃ p ys,xs = [.ref p] ∧ (SqL X.K H p ys ∨ SqT X.K H p ys) ∧ ∀ l,H l = none → Q (.ref l) (upd H l (.lst ys))):=by
 intro pins s σ H xs us Q I r h
 obtain ⟨p,ys,rfl,hq,q⟩:=h
 obtain ⟨u,rfl,rx⟩:=dQ r
 cases rx
 have fin:∀ (its:List Value),Vals ys its → ys.length ≤ sizeLine → ∀ (h':Heap) (c':Nat),(∀ b o',s.heap.get? b = some o' → h'.get? b = some o') →
     h'.get? s.heap.objs.size = some { cls:=.type "list",dict:=none,data:=.seq its.toArray c',slots:=#[] } → EP X pins σ Q (.ref s.heap.objs.size) { s with heap:=h' }:=fun its r' hz h' c' kp e =>
   ⟨.ref s.heap.objs.size,_,I.laid (t':=s.toks) kp (Ai _) (show ObjOk X.prog X.w _ h' _ (.lst ys) from ⟨hz,its,c',r',e⟩),rfl,q _ (I.hok.fresh (Ai _))⟩
 rcases hq with hq | hq
 · obtain ⟨its,r',pl,hz⟩:=I.list hq
   have hlen:=r'.length
   obtain ⟨o,ho,hc,n,hd⟩:=pl.isList
   exact call_list_seq p (.inl rfl) ho hc hd (fun h' c' kp e => fin its r' hz h' c' kp e) (by simp only [List.size_toArray] <;> omega)
 · obtain ⟨its,r',pl,hz⟩:=I.tuple hq
   have hlen:=r'.length
   obtain ⟨o,ho,hc,n,hd⟩:=pl
   exact call_list_seq p (.inr rfl) ho hc hd (fun h' c' kp e => fin its r' hz h' c' kp e) (by simp only [List.size_toArray] <;> omega)
def tyV (K:PySem.W.Frag) (T:String) (x:V) (H:Hp):Prop:=match x with
 | .str _ => T = "str"
 | .int _ => T = "int"
 | .ref p => (T = "list" ∧ ∃ xs,SqL K H p xs) ∨ (T = "tuple" ∧ ∃ o,K.lookup p = some o ∧ o.cls = .type "tuple" ∧ o.dict = none) ∨
     (T = "dict" ∧ ((∃ kvs,H p = some (.dK kvs)) ∨ ∃ kvs,H p = some (.dT kvs))) ∨ (T = "set" ∧ ∃ S n,H p = some (.set S n))
 | _ => False
theorem cXK {pins:List (Addr × Obj)} {σ:St} {H:Hp} {s:Shared} {T:String} {x:V} {v:Value} (I:Inv X pins σ H s) (r:RelV x v) (ty:tyV X.K T x H) :
   s.TypeIs v T ∧ ∀ a,v = .ref a → ∃ ob,s.heap.get? a = some ob ∧ ob.dict = none:=by
 cases x with
 | str z =>
   obtain ⟨t,rfl⟩:=r
   cases (show T = "str" from ty)
   exact ⟨typeIs_str s z t,fun _ e => nomatch e⟩
 | int i =>
   obtain ⟨t,rfl⟩:=r
   cases (show T = "int" from ty)
   exact ⟨typeIs_int s i t,fun _ e => nomatch e⟩
 | ref p =>
   cases r
   rcases ty with ⟨rfl,xs,hq⟩ | ⟨rfl,o,hk,hc,hd⟩ | ⟨rfl,hk⟩ | ⟨rfl,S,n,hk⟩
   · obtain ⟨its,_,pl,_⟩:=I.list hq
     refine ⟨pl.isList.typeIs,fun a e => ?_⟩
     cases e
     obtain ⟨o,n,e,c,hd,_⟩:=pl
     exact ⟨o,e,hd⟩
   · refine ⟨⟨o,I.kIn p o hk,hc⟩,fun a e => ?_⟩
     cases e
     exact ⟨o,I.kIn _ o hk,hd⟩
   · have z:∃ o,s.heap.get? p = some o ∧ o.ExactDict:=by
       rcases hk with ⟨kvs,hk⟩ | ⟨kvs,hk⟩
       · obtain ⟨_,_,_,_,o,_,_,e,ex,_⟩:=I.hok p _ hk
         exact ⟨o,e,ex⟩
       · obtain ⟨_,_,_,_,o,_,_,e,ex,_⟩:=I.hok p _ hk
         exact ⟨o,e,ex⟩
     obtain ⟨o,e,ex⟩:=z
     refine ⟨⟨o,e,ex.1⟩,fun a e2 => ?_⟩
     cases e2
     exact ⟨o,e,ex.2.1⟩
   · obtain ⟨o,_,_,_,e,ex,_⟩:=I.hok p _ hk
     refine ⟨⟨o,e,ex.1⟩,fun a e2 => ?_⟩
     cases e2
     exact ⟨o,e,ex.2.1⟩
 | _ => exact False.elim ty
variable {o e:Expr} {es:List Expr} {to:TE} {t:TA} {name:Str} {apos cpos:Pos} {T id:String} {r:V → List V → Hp → VK → Prop}
end
end L2
namespace L2
open PySem PySem.Spec PyProof.Rows
def MtM (X:Cx) (id:String) (r:V → List V → Hp → VK → Prop):Prop :=
 ∀ (pins:List (Addr × Obj)) (s:Shared) (σ:St) (H:Hp) (x:V) (xs:List V) (v:Value) (us:List Value) (Q:VK),Inv X pins σ H s → RelV x v → Vals xs us → r x xs H Q →
   wpAny (model X.prog X.w) X.A (call (.builtin id) (v :: us)) (EP X pins σ Q) X.xe s
theorem Vals.one:∀ {x:V} {us:List Value},Vals [x] us → ∃ u,us = [u] ∧ RelV x u
 | _,_,.cons r .nil => ⟨_,rfl,r⟩
theorem Vals.two:∀ {x y:V} {us:List Value},Vals [x,y] us → ∃ u v,us = [u,v] ∧ RelV x u ∧ RelV y v
 | _,_,_,.cons r (.cons q .nil) => ⟨_,_,rfl,r,q⟩
theorem Vals.zero:∀ {us:List Value},Vals [] us → us = []
 | _,.nil => rfl
theorem Vals.dropLast {xs:List V} {us:List Value} (h:Vals xs us):Vals xs.dropLast us.dropLast:=by
 induction h with
 | nil => exact .nil
 | cons r t ih =>
   cases t with
   | nil => exact .nil
   | cons q t' => exact .cons r ih
theorem Vals.eraseIdx:∀ {xs:List V} {us:List Value} (i:Nat),Vals xs us → Vals (xs.eraseIdx i) (us.eraseIdx i)
 | _,_,_,.nil => .nil
 | _,_,0,.cons _ t => t
 | _,_,i + 1,.cons r t => .cons r (Vals.eraseIdx i t)
theorem Vals.reverse {xs:List V} {us:List Value} (h:Vals xs us):Vals xs.reverse us.reverse:=by
 induction h with
 | nil => exact .nil
 | cons r t ih => rw [List.reverse_cons,List.reverse_cons]; exact Vals.append ih (.cons r .nil)
section
variable {X:Cx} {pins:List (Addr × Obj)} {σ:St} {H:Hp} {s:Shared} {l b:Addr} {xs ys zs:List V}
theorem Inv.lset {its its':List Value} {n:Nat} {f:Array Value → Array Value} {t':Nat} (I:Inv X pins σ H s) (hH:H l = some (.lst xs))
   (e:s.heap.get? l = some { cls:=.type "list",data:=.seq its.toArray n }) (hf:f its.toArray = its'.toArray) (hv:Vals ys its') (hz:ys.length ≤ sizeLine) :
   Inv X pins σ (upd H l (.lst ys)) { s with heap:=s.heap.update l (Obj.mapSeq f),toks:=t' }:=by
 have q:=PySem.IsL.update e f
 rw [hf] at q
 refine I.write (x:=l) (e:=l) (by rw [hH]; exact trivial) (.inl rfl) (fun b' u hb hu => (Bj s.heap (Obj.mapSeq f) (Ne.symm hb)).trans hu) ⟨_,q⟩ ?_
 exact ⟨hz,its',_,hv,q⟩
theorem Inv.lnew {its:List Value} {t':Nat} (I:Inv X pins σ H s) (hv:Vals ys its) (hz:ys.length ≤ sizeLine) :
   Inv X pins σ (upd H s.heap.objs.size (.lst ys)) { s with heap:=s.heap.push { cls:=.type "list",data:=.seq its.toArray },toks:=t' } :=
 I.laid (fun _ _ q => Ad _ q) (Ai _) ⟨hz,its,0,hv,Ap _ rfl⟩
theorem Inv.fresh (I:Inv X pins σ H s):H s.heap.objs.size = none:=I.hok.fresh (Ai _)
theorem Inv.lstM (I:Inv X pins σ H s) (hH:H l = some (.lst xs)):xs.length ≤ sizeLine ∧ ∃ (its:List Value) (n:Nat),Vals xs its ∧ xs.length = its.length ∧ s.heap.get? l = some { cls:=.type "list",data:=.seq its.toArray n }:=by
 obtain ⟨z,its,n,r,e⟩:=I.hok l _ hH
 exact ⟨z,its,n,r,r.length,e⟩
theorem aXG {n:Nat} (h:n ≤ sizeLine):Builtin.List.listTooLong n = false:=by
 unfold Builtin.List.listTooLong
 exact Bd (by omega)
end
section
variable {X:Cx}
def xD:V → List V → Hp → VK → Prop:=fun x vs H Q => ∃ l xs y,x = .ref l ∧ vs = [y] ∧ H l = some (.lst xs) ∧ xs.length < sizeLine ∧ Q .non (upd H l (.lst (xs ++ [y])))
theorem jX:MtM X "list.append" xD:=by
 intro pins s σ H x vs v us Q I rx rv h
 obtain ⟨l,xs,y,rfl,rfl,hH,hz,q⟩:=h
 cases rx
 obtain ⟨u,rfl,ru⟩:=rv.one
 obtain ⟨z,its,n,r,hl,e⟩:=I.lstM hH
 refine call_meets F.slot_list_append ⟨_,e,rfl⟩ F.entry_list_append (F.args_list_append_2 _ _) (PySem.list_append l its.toArray n u (by rw [Bu]; omega)) ⟨e,?_⟩
 refine ⟨.non,_,I.lset (its':=its ++ [u]) hH e (by simp) (r.append (.cons ru .nil)) ?_,rfl,q⟩
 rw [Ar,List.length_singleton]
 omega
def xA:V → List V → Hp → VK → Prop:=fun x vs H Q => ∃ l b xs zs,x = .ref l ∧ vs = [.ref b] ∧ H l = some (.lst xs) ∧ H b = some (.lst zs) ∧ xs.length + zs.length ≤ sizeLine ∧ Q .non (upd H l (.lst (xs ++ zs)))
theorem yF:MtM X "list.extend" xA:=by
 intro pins s σ H x vs v us Q I rx rv h
 obtain ⟨l,b,xs,zs,rfl,rfl,hH,hB,hz,q⟩:=h
 cases rx
 obtain ⟨u,rfl,ru⟩:=rv.one
 cases ru
 obtain ⟨z,its,n,r,hl,e⟩:=I.lstM hH
 obtain ⟨z2,its2,n2,r2,hl2,e2⟩:=I.lstM hB
 have hsz:its.toArray.size + its2.toArray.size ≤ sizeLine:=by rw [Bu,Bu]; omega
 have hlong:¬ (!its.toArray.isEmpty && Builtin.List.listTooLong (its.toArray.size + its2.toArray.size)) = true:=by
   rw [aXG hsz,Bool.and_false]
   exact Ao
 refine call_meets F.slot_list_extend ⟨_,e,rfl⟩ F.entry_list_extend (F.args_list_extend_2 _ _)
   (AutoSeq1.list_extend_list_list_0 l its.toArray n b its2.toArray n2 hlong (by rw [Bu]; omega) (by omega)) ⟨e,e2,?_⟩
 refine ⟨.non,_,I.lset (its':=its ++ its2) hH e (by simp) (r.append r2) ?_,rfl,q⟩
 rw [Ar]
 omega
def dQQ:R2:=fun x y H Q => ∃ l b xs zs,x = .ref l ∧ y = .ref b ∧ H l = some (.lst xs) ∧ H b = some (.lst zs) ∧ xs.length + zs.length ≤ sizeLine ∧ ∀ p,H p = none → Q (.ref p) (upd H p (.lst (xs ++ zs)))
theorem cQA:OpR X (binaryOp .Add) dQQ:=by
 intro pins s σ H x y v u Q I rx ry h
 obtain ⟨l,b,xs,zs,rfl,rfl,hH,hB,hz,q⟩:=h
 cases rx
 cases ry
 obtain ⟨z,its,n,r,hl,e⟩:=I.lstM hH
 obtain ⟨z2,its2,n2,r2,hl2,e2⟩:=I.lstM hB
 refine PySem.P.add_list e e2 ?_ (by rw [Bu,Bu]; omega)
 have ea:its.toArray ++ its2.toArray = (its ++ its2).toArray:=by simp
 rw [ea]
 exact ⟨.ref _,_,I.lnew (t':=s.toks) (r.append r2) (by rw [Ar]; omega),rfl,q _ I.fresh⟩
end
section
variable {prog:Program} {w:World} {A:Around} {E:Value → Shared → Prop} {s:Shared}
end
section
variable {X:Cx}
end
end L2
namespace Att
open PySem PySem.W PySem.Calls PyProof.Rows
theorem kO {P:Params} {h:Heap}:∀ (ns:List Int) (vs:List Value),WellAll P h vs (ns.map WData.int) → IntsAre vs ns:=by
 intro ns
 induction ns with
 | nil =>
   intro vs w
   rw [List.map_nil] at w
   cases w
   exact .nil
 | cons n ns ih =>
   intro vs w
   rw [Ay] at w
   cases w with
   | cons a b =>
     cases a
     exact .cons _ _ (ih _ b)
theorem zA {l:OpenLaw} {n:Nat} (hn:l.most = some n) {P:Params} {h:Heap} {args:List WData} {vals:List Value}
   (hpre:l.row.toRowW.claim.pre args = true) (hwl:WellAll P h vals args) :
   ∃ a vs ns,vals = [Value.ref a] ∧ args = [WData.list (ns.map WData.int)] ∧ h.get? a = some { cls:=.type "list",data:=.seq vs.toArray } ∧ IntsAre vs ns ∧ ns.length ≤ n:=by
 have hsh:WShape.hasAll [] args [.list .int] = true:=(pre_splitW hpre).1
 have hc:l.pre.holds [] { args:=args } = true:=(pre_splitW hpre).2
 obtain ⟨d,r,rfl,h1,h2⟩:=hasAllW_cons hsh
 obtain rfl:=hasAllW_nil h2
 obtain ⟨xs,rfl,h3⟩:=hasW_list h1
 obtain ⟨ns,rfl⟩:=items_int h3
 have hlen:ns.length ≤ n:=by
   unfold OpenLaw.pre at hc
   have h4:(WTm.not (.lt (.lit (.int (n:Int))) (.len (.arg 0)))).holds [] { args:=[.list (ns.map .int)] } = true:=by
     have h4:=(holds_andW hc).1
     rw [hn] at h4
     exact h4
   have h5:=condW_of h4 (w_not (w_lt w_lit (w_len_list (w_arg rfl))))
   rw [Ac] at h5
   refine Nat.le_of_not_lt fun q => ?_
   have q':(n:Int) < ((ns.length:Nat):Int):=by omega
   first
     | (rw [Au q'] at h5; exact absurd h5 (by decide))
     | (simp at h5; omega)
 cases hwl with
 | cons w1 w2 =>
   cases w2
   cases w1 with
   | list ho hall => exact ⟨_,_,ns,rfl,rfl,ho,kO ns _ hall,hlen⟩
theorem xS (l:OpenLaw) (args:List WData):l.row.toRowW.claim.post args (.bool true) args = true :=
 postW_of (r:=l.row.toRowW) (X:=(true == true))
   (show WShape.has [] (.bool true) .bool = true by first | rfl | decide | simp [WShape.has,WShape.arms,WShape.armsAll])
   (show (WTm.eq .res (.lit (.bool true))).value [] { args:=args,res:=some (.bool true),after:=args } = some (.bool (true == true)) from w_eq_bool (w_res rfl) w_lit) rfl
theorem attach_call {l:OpenLaw} {n:Nat} {q:Program} {loose:List Str} {XP:(Str → Option Value) → Heap → Prop} {YP:World → Heap → Prop} {d:DefRec}
   (hn:l.most = some n) (hdf:d.params.defaults = [])
   (call:∀ (w:World) (s₀ s₁:Shared) (mg mb:Str → Option Value) (fa:Addr) (o:Obj) (pm cd doc:Value) (a:Addr) (vs:List Value) (ns:List Int),
     Ground q loose [] XP w s₀ mg mb s₁.heap → YP w s₁.heap →
     s₁.heap.get? fa = some o → o.data = .func (docDef d.name d.params d.body d.scope pm cd doc) → s₁.heap.CodeRec cd d.name → mg d.name = some (.ref fa) →
     s₁.heap.get? a = some { cls:=.type "list",data:=.seq vs.toArray } → IntsAre vs ns → ns.length ≤ n → s₁.gens = #[] →
     codeAny (model l.prog w) callerA (.call (.ref fa) ⟨[.ref a],[]⟩) (fun r s' => r = .ok (.ret (.bool true)) ∧ OldK s₁.heap s'.heap ∧ s'.os = s₁.os ∧ AllBare s'.gens) s₁) :
   WalkO q loose XP YP l.row.toRowW d [] (fun f vs => PySem.call f vs):=by
 intro w s₀ s₁ mg mb G Y fa o pm cd doc dV kV ho hd hcd hD hmg hg args vals as hpre hlay hrd hwl hlo
 obtain rfl:dV = .none:=Dflts.none hD hdf
 obtain rfl:kV = .none:=Dflts.noKw hD
 obtain ⟨a,vs,ns,rfl,rfl,hobj,hints,hlen⟩:=zA hn hpre hwl
 refine enter_call (Ek (call w s₀ s₁ mg mb fa o pm cd doc a vs ns G Y ho (fd_plain hd) hcd hmg hobj hints hlen hg) fun r s' hq => ?_)
 obtain ⟨rfl,h2,h3,h4⟩:=hq
 exact ⟨.inl ⟨.bool true,.bool true,[],rfl,fun _ => rfl,.bool true,xS l _,fun _ => ⟨List.Pairwise.nil,fun _ hm => (nomatch hm)⟩⟩,h2,h3,h4⟩
section
variable {prog:Program} {w:World} {A:Around} {E:Value → Shared → Prop} {s:Shared} {K:Frag}
end
end Att
namespace L2
open PySem PySem.Spec PyProof.Rows
theorem oA:∀ {vs:List Value} {ns:List Int},IntsAre vs ns → Vals (ns.map V.int) vs
 | _,_,.nil => .nil
 | _,_,.cons n t h => .cons ⟨t,rfl⟩ (oA h)
def cQL (H:Hp):Prop:=∀ b,H b = none ∨ ∃ o xs,H b = some (.frz o (.lst xs))
theorem aQY {P:Program} {w:World} {K:PySem.W.Frag} {mg mb:Str → Option Value} {CX:CXT} {k:Nat} {fa a:Addr} {fd:FuncData} {x:Str} {sp:Sp} {s₁:Shared} {vs:List Value} {ns:List Int}
   (KX:K.In s₁.heap) (hns:s₁.heap.Ns mainGlobals mg) (hb:s₁.heap.Ns builtinsNs mb) (hbb:∀ x:Str,x ≠ "__name__" → mb x = bootBuiltins x) (hlim:s₁.heap.NoLimit) (hg:s₁.gens = #[])
   (ha:s₁.heap.get? a = some { cls:=.type "list",data:=.seq vs.toArray }) (hi:IntsAre vs ns) (hl:ns.length ≤ sizeLine) (hr:Room k callerA)
   (F:∀ base:Heap,K.In base → base.Ns mainGlobals mg → FnOk P w K mg base CX k fa fd [x] sp) (hbind:∀ (s:Shared) (u:Value),BindsTo s fd ⟨[u],[]⟩ [(x,u)])
   (hsp:∀ H:Hp,cQL H → SqL K H a (ns.map V.int) → sp [.ref a] H (fun v _ => v = .bl true) fun _ _ _ => False)
   (hCX:∀ H e s',CX [] H s₁ (fun _ _ _ => False) e s' → False) :
   codeAny (model P w) callerA (.call (.ref fa) ⟨[.ref a],[]⟩) (fun r s' => r = .ok (.ret (.bool true)) ∧ OldK s₁.heap s'.heap ∧ s'.os = s₁.os ∧ AllBare s'.gens) s₁:=by
 have rv:=oA hi
 have lenV:=hi.length
 -- from an abstract heap in which nothing but the script may be tracked
 have core:∀ H:Hp,cQL H → SqL K H a (ns.map V.int) → HOk P w H s₁.heap → (∀ b,H b ≠ none → b = a) → (H a ≠ none → K.lookup a = none) →
     codeAny (model P w) callerA (.call (.ref fa) ⟨[.ref a],[]⟩) (fun r s' => r = .ok (.ret (.bool true)) ∧ OldK s₁.heap s'.heap ∧ s'.os = s₁.os ∧ AllBare s'.gens) s₁:=by
   intro H hO hS hok hA hK
   have base_of:∀ {b:Addr} {o:Obj},s₁.heap.get? b = some o → H b = none → (qL s₁.heap H).get? b = some o:=fun e n => aZH e n
   have noA:∀ {b:Addr} {o:Obj} {es:Array DictEntry} {ep:Nat},s₁.heap.get? b = some o → o.data = .dict es ep → H b = none:=fun {b o es ep} e d => by
     cases q:H b with
     | none => rfl
     | some u =>
       have e':b = a:=hA b (by rw [q]; simp)
       subst e'
       rw [ha] at e; cases e
       have d':Data.seq vs.toArray _ = Data.dict es ep:=d
       cases d'
   have nsK:∀ {b:Addr} {m:Str → Option Value},s₁.heap.Ns b m → (qL s₁.heap H).Ns b m:=fun {b m} ⟨o,es,ep,e,d,r⟩ => ⟨o,es,ep,base_of e (noA e d),d,r⟩
   have hKb:K.In (qL s₁.heap H):=fun b o e => base_of (KX b o e) (by
     cases q:H b with
     | none => rfl
     | some u =>
       have e':b = a:=hA b (by rw [q]; simp)
       subst e'
       rw [hK (by rw [q]; simp)] at e; cases e)
   have hM:Mod K mg (qL s₁.heap H):=⟨hKb,nsK hns,⟨mb,nsK hb,hbb⟩,let ⟨mc,h1,h2⟩:=hlim; ⟨mc,nsK h1,h2⟩⟩
   have e0:Env0 P w K mg (qL s₁.heap H) callerA [] s₁ H:=⟨rfl,hM,fun b o e => bXQ e,Nat.le_of_eq (zJ _ _),trivial,fun b hb => absurd (show b ∈ ([]:List Addr) from hb) (by simp),hok,.of_eq hg⟩
   refine Ek ((F _ hKb (nsK hns)).run callerA [] s₁ H ⟨[.ref a],[]⟩ [.ref a] [.ref a] _ _ hr e0 (hbind s₁ (.ref a)) (.cons rfl .nil) (hsp H hO hS)) fun r s' h => ?_
   cases r with
   | error e => exact (hCX H e s' h).elim
   | ok fl =>
     cases fl with
     | next => exact False.elim h
     | brk => exact False.elim h
     | cont => exact False.elim h
     | ret u =>
       obtain ⟨v,H',os,bare,un,hok',r',q⟩:=h
       have q':v = .bl true:=q
       subst q'
       obtain rfl:u = Value.bool true:=r'
       refine ⟨rfl,OldK.of_keep fun b o e => ?_,os,bare⟩
       cases q:H b with
       | none => exact un.keep b o e q (by intro z; exact absurd (show b ∈ ([]:List Addr) from z) (by simp)) (by simp)
       | some u =>
         rcases hO b with z | ⟨ob,xs,z⟩
         · rw [q] at z; cases z
         · have z2:=un.frzs b ob _ z
           obtain ⟨e1,_⟩:=hok b _ z
           obtain ⟨e2,_⟩:=hok' b _ z2
           rw [e] at e1; cases e1
           exact e2
 cases hk:K.lookup a with
 | some o =>
   -- the script is one of the module's own objects
   have e:=KX a o hk
   rw [ha] at e
   cases e
   refine core (fun _ => none) (fun _ => .inl rfl) (.inr ⟨_,vs.toArray,_,hk,rfl,rfl,rfl,by rw [List.size_toArray,lenV]; exact hl,by simpa using rv⟩) (fun b u z => by have z':(none:Option HO) = some u:=z; cases z') (fun b z => absurd rfl z) fun z => absurd rfl z
 | none =>
   refine core (fun b => if b = a then some (.frz { cls:=.type "list",data:=.seq vs.toArray } (.lst (ns.map V.int))) else none) (fun b => ?_) (.inl (.inr ⟨{ cls:=.type "list",data:=.seq vs.toArray },if_pos rfl⟩)) (fun b u z => ?_) (fun b z => ?_) fun _ => hk
   · by_cases hb:b = a
     · exact .inr ⟨_,_,if_pos hb⟩
     · exact .inl (if_neg hb)
   · by_cases hb:b = a
     · have z':=(if_pos hb).symm.trans z
       cases z'
       subst hb
       exact ⟨ha,by rw [Ac]; exact hl,vs,_,rv,ha⟩
     · have z':=(if_neg hb).symm.trans z
       cases z'
   · by_cases hb:b = a
     · exact hb
     · exact absurd (if_neg hb) z
end L2
namespace L2
open PySem PySem.Spec PyProof.Rows
theorem aJY {l:PySem.W.OpenLaw} {n k:Nat} {q:Program} {loose:List Str} {XP:(Str → Option Value) → Heap → Prop} {YP:World → Heap → Prop} {d:DefRec} {K:Params → PySem.W.Frag} {CX:World → CXT} {sp:World → Sp} {x:Str}
   (hn:l.most = some n) (hn2:n ≤ sizeLine) (hdf:d.params.defaults = []) (hr:Room k callerA)
   (hY:∀ (w:World) (h:Heap),YP w h → (K w.params).In h)
   (F:∀ (w:World) (mg:Str → Option Value) (fa:Addr) (h:Heap),(K w.params).In h → h.Ns mainGlobals mg → mg d.name = some (.ref fa) →
     ∃ fd:FuncData,(∀ (s:Shared) (u:Value),BindsTo s fd ⟨[u],[]⟩ [(x,u)]) ∧
       ∀ base:Heap,(K w.params).In base → base.Ns mainGlobals mg → FnOk l.prog w (K w.params) mg base (CX w) k fa fd [x] (sp w))
   (hsp:∀ (w:World) (H:Hp) (a:Addr) (ns:List Int),ns.length ≤ n → cQL H → SqL (K w.params) H a (ns.map V.int) → sp w [.ref a] H (fun v _ => v = .bl true) fun _ _ _ => False)
   (hCX:∀ (w:World) (H:Hp) (s:Shared) (e:Value) (s':Shared),CX w [] H s (fun _ _ _ => False) e s' → False) :
   PySem.W.WalkO q loose XP YP l.row.toRowW d [] (fun f vs => PySem.call f vs):=by
 refine Att.attach_call hn hdf fun w s₀ s₁ mg mb fa o pm cd doc a vs ns G Y ho hd hcd hmg hobj hints hlen hg => ?_
 have KX:=hY w _ Y
 obtain ⟨fd,hb,hF⟩:=F w mg fa _ KX G.T.g hmg
 exact aQY KX G.T.g G.T.b G.T.builtins G.T.nolimit hg hobj hints (Bg hlen hn2) hr hF hb (fun H hO hS => hsp w H a ns hlen hO hS) fun H e s' => hCX w H s₁ e s'
end L2
namespace L2
open PySem PySem.Spec PyProof.Rows
def bC (s:Stmt):Arguments:=match s with
 | .FunctionDef _ a _ _ _ _ _ _ _ _ => a
 | _ => { posonlyargs:=[],args:=[],vararg:=none,kwonlyargs:=[],kw_defaults:=[],kwarg:=none,defaults:=[] }
def aS (s:Stmt):List Stmt:=match s with
 | .FunctionDef _ _ b _ _ _ _ _ _ _ => b
 | _ => []
def aG (s:Stmt):Scope:=match s with
 | .FunctionDef _ _ _ _ _ _ sc _ _ _ => sc
 | _ => { kind:=.function,names:=[],isGenerator:=false,isCoroutine:=false }
abbrev CX0:CXT:=fun _ _ _ _ _ _ => False
abbrev E0:XK:=fun _ _ _ => False
theorem cX5 {X:Cx}:lL CX0 X E0:=fun _ _ _ _ _ _ _ h => h.elim
structure Fun (K:PySem.W.Frag) (x qual:Str) (st:Stmt) (f:Addr) (fd:FuncData):Prop where
 ex:∃ (oc:Value) (od:Option Addr) (kV doc pm:Value) (an:Option Addr) (cdv ct:Value) (osl:Array (Option Value)),
   fd = PySem.W.fnOf x qual (bC st) (aS st) (aG st) .none kV doc pm an cdv ct ∧ K.lookup f = some ⟨oc,od,.func fd,osl⟩ ∧ PySem.W.codeIn K cdv qual = true
 kp:PySem.W.keepIn K (.ref f) = true
section
variable {P:Program} {w:World} {K:PySem.W.Frag} {mg:Str → Option Value} {base:Heap}
theorem Fun.ok {x qual:Str} {st:Stmt} {f:Addr} {fd:FuncData} {N ps:List Str} {k:Nat} {sp:Sp} (F:Fun K x qual st f fd) (S:FnScope N ps (aG st)) (len:∀ vs H Q E,sp vs H Q E → vs.length = ps.length)
   (hbody:∀ (cdv:Value) (A:Around) (outer:List Env) (s:Shared) (H:Hp) (vs:List V) (Q:VK) (E:XK),Room k (A.deeper (envOfC qual (aG st) s.heap.objs.size f cdv)) → sp vs H Q E →
     ∃ t,PSs (fF CX0 P w K mg base N qual (aG st) f cdv A outer s H E).nox (aS st) t ∧ t { nx:=fun _ H' => Q .non H',rt:=Q } (eN N vs) H):FnOk P w K mg base CX0 (k + 1) f fd ps sp:=by
 obtain ⟨oc,od,kV,doc,pm,an,cdv,ct,osl,rfl,lk,hcd⟩:=F.ex
 refine bZ0 lk hcd S len fun A outer s H vs Q E hr hsp => ?_
 obtain ⟨t,h,q⟩:=hbody cdv A outer s H vs Q E hr hsp
 exact ⟨t,h.nox,q⟩
theorem Fun.binds {x qual:Str} {st:Stmt} {f:Addr} {fd:FuncData} {ps:List Str} (F:Fun K x qual st f fd)
   (h:∀ (kV doc pm:Value) (an:Option Addr) (cdv ct:Value) (us:List Value),us.length = ps.length → bindArgs (PySem.W.fnOf x qual (bC st) (aS st) (aG st) .none kV doc pm an cdv ct) ⟨us,[]⟩ = pure (ps.zip us)):Binds K fd ps []:=by
 obtain ⟨oc,od,kV,doc,pm,an,cdv,ct,osl,rfl,lk,hcd⟩:=F.ex
 exact .all (h kV doc pm an cdv ct)
theorem bV {x qual:Str} {st:Stmt} {f:Addr} {oc:Value} {od an:Option Addr} {osl:Array (Option Value)} {kV doc pm cdv ct:Value} (l:K.lookup f = some ⟨oc,od,.func (PySem.W.fnOf x qual (bC st) (aS st) (aG st) .none kV doc pm an cdv ct),osl⟩)
   (c:PySem.W.codeIn K cdv qual = true) (k:PySem.W.keepIn K (.ref f) = true):Fun K x qual st f (PySem.W.fnOf x qual (bC st) (aS st) (aG st) .none kV doc pm an cdv ct):=⟨⟨oc,od,kV,doc,pm,an,cdv,ct,osl,rfl,l,c⟩,k⟩
end
section
variable {X:Cx}
theorem pv (i:Nat) {x:Str} {pos:Pos} (hN:X.N[i]? = some x:=by rfl) (hv:Vis X.env.scope x:=by first | exact Or.inl rfl | exact Or.inr (Or.inl rfl) | exact Or.inr (Or.inr rfl)) (hd:(x == ("__debug__" : Str)) = false:=by decide)
   (hcd:(x == ("__classdict__" : Str)) = false:=by decide):PE X (.Name x pos) (cX7 i):=cXT hN hv hd hcd
end
theorem dQ4 {A B:Prop} (h:B):if false = true then A else B:=by
 rw [if_neg Ao]
 exact h
theorem dQT {A B:Prop} (h:A):if true = true then A else B:=by
 rw [if_pos rfl]
 exact h
theorem mN {c A B:Prop} [Decidable c] (h1:c → A) (h2:¬ c → B):if c then A else B:=by
 by_cases h:c
 · rw [if_pos h]
   exact h1 h
 · rw [if_neg h]
   exact h2 h
def Same (H H':Hp):Prop:=∀ b o,H b = some o → H' b = some o
theorem Same.refl (H:Hp):Same H H:=fun _ _ h => h
theorem Same.trans {H H1 H2:Hp} (a:Same H H1) (b:Same H1 H2):Same H H2:=fun c o h => b c o (a c o h)
theorem Same.free {H H':Hp} (e:Same H H') {l:Addr} (h:H' l = Option.none):H l = Option.none:=by
 cases q:H l with
 | none => rfl
 | some o =>
   rw [e l o q] at h
   cases h
theorem Same.seq {K:PySem.W.Frag} {H H':Hp} {a:Addr} {xs:List V} (e:Same H H') (h:SqL K H a xs):SqL K H' a xs:=by
 rcases h with (h | ⟨o,h⟩) | h
 · exact .inl (.inl (e _ _ h))
 · exact .inl (.inr ⟨o,e _ _ h⟩)
 · exact .inr h
end L2
set_option maxHeartbeats 4000000
namespace FlT
open PySem PySem.Spec PyProof.Rows
def sIx (n d:Nat):Option Int → Nat
 | none => d
 | some v => if v < 0 then (v + (n:Int)).toNat else min v.toNat n
theorem app_cps (x y:Str):(x ++ y).cps.toList = x.cps.toList ++ y.cps.toList:=by
 show (x.cps ++ y.cps).toList = _
 simp
theorem str_ext {x y:Str} (h:x.cps.toList = y.cps.toList):x = y:=by
 obtain ⟨⟨x⟩⟩:=x
 obtain ⟨⟨y⟩⟩:=y
 cases h
 rfl
end FlT
set_option maxHeartbeats 4000000
namespace L2
open PySem PySem.Spec PyProof.Rows
theorem PE.imp {X:Cx} {e:Expr} {t t':TE} (h:PE X e t) (i:∀ σ H Q,t' σ H Q → t σ H Q):PE X e t':=fun pins s σ H Q I q => h pins s σ H Q I (i σ H Q q)
theorem PT.imp {X:Cx} {e:Expr} {t t':TT} (h:PT X e t) (i:∀ σ H Q,t' σ H Q → t σ H Q):PT X e t':=fun pins s σ H Q I q => h pins s σ H Q I (i σ H Q q)
theorem OpR.imp {X:Cx} {f:Value → Value → Sem Value} {r r':R2} (h:OpR X f r) (i:∀ x y H Q,r' x y H Q → r x y H Q):OpR X f r':=fun pins s σ H x y v u Q I rx ry q => h pins s σ H x y v u Q I rx ry (i x y H Q q)
theorem CallR.imp {X:Cx} {f:Value} {r r':List V → Hp → VK → Prop} (h:CallR X f r) (i:∀ xs H Q,r' xs H Q → r xs H Q):CallR X f r':=fun pins s σ H xs us Q I rx q => h pins s σ H xs us Q I rx (i xs H Q q)
theorem MtR.imp {X:Cx} {id:String} {r r':V → List V → Hp → VK → Prop} (h:MtR X id r) (i:∀ x xs H Q,r' x xs H Q → r x xs H Q):MtR X id r':=fun pins s σ H x xs v us Q I rx rs q => h pins s σ H x xs v us Q I rx rs (i x xs H Q q)
theorem IxR.imp {X:Cx} {r r':R2} (h:IxR X r) (i:∀ x y H Q,r' x y H Q → r x y H Q):IxR X r':=fun value slice pins s σ H x y v u Q I rx ry q hs => h value slice pins s σ H x y v u Q I rx ry (i x y H Q q) hs
theorem SlR.imp {X:Cx} {r r':V → Option Int → Option Int → Hp → VK → Prop} (h:SlR X r) (i:∀ x lo hi H Q,r' x lo hi H Q → r x lo hi H Q):SlR X r':=fun pins s σ H x v vl vu lo hi sl Q I rx hs pl pu q => h pins s σ H x v vl vu lo hi sl Q I rx hs pl pu (i x lo hi H Q q)
def Its (z:Str):It:=⟨fun i _ => i < z.cps.size,fun i H x H' => H' = H ∧ ∃ c,z.cps[i]? = some c ∧ x = .str ⟨#[c]⟩,fun i _ => z.cps.size ≤ i⟩
theorem vH {P:Program} {w:World} {K:PySem.W.Frag} {tg:Expr} (z:Str) (t:Tok) (it:Addr):Turn P w K tg (Its z) [it] it (fun i h => h.IsStrIter it "str_ascii_iterator" z t i) where
 mem:=by simp
 obj:=fun i h st b hb => by
   have e:b = it:=by simpa using hb
   subst e
   obtain ⟨o,e,c,d⟩:=st
   exact ⟨o,e,fun v z => by rw [d] at z; cases z⟩
 keep:=fun i h h' st k => let ⟨o,ho,r⟩:=st; ⟨o,k it (by simp) o ho,r⟩
 item:=by
   intro X hP hw hK hc i pins s σ H E I hf st hg
   subst hP hw hK
   obtain ⟨f0,f1,f2,f3,f4,f5⟩:=hf it (by simp)
   have hi:i < z.cps.size:=hg
   refine wpAny_pyNext_ascii_item st (c:=z.cps[i]) (by simp [hi]) fun h' st' sb => ?_
   have I1:Inv X pins σ H { s with heap:=h',toks:=s.toks + 1 }:=I.turned (fun b o hb e => (sb.2 b hb).trans e) f0 f1 f3 f4 f5
   obtain ⟨o,e,c,d⟩:=id st'
   exact ⟨_,rfl,kL (s:={ s with heap:=h',toks:=s.toks + 1 }) e c d (by decide) ⟨.str ⟨#[z.cps[i]]⟩,H,I1,⟨_,rfl⟩,⟨rfl,_,by simp [hi],rfl⟩,st',fun b hb => (hf b hb).1⟩⟩
 done:=by
   intro X hP hw hK hc i pins s σ H E I hf st hg
   subst hP hw hK
   obtain ⟨f0,f1,f2,f3,f4,f5⟩:=hf it (by simp)
   have hi:z.cps.size ≤ i:=hg
   exact wpAny_pyNext_ascii_end (I.ok.hd hc) st (by simp [hi]) fun h' eb => ⟨rfl,I.turned (t':=s.toks) (fun b o hb e => eb b o hb e) f0 f1 f3 f4 f5⟩
 self:=fun _ _ _ _ _ st h => wpAny_pyIter_striter_ascii st h
theorem yQ {P:Program} {w:World} {K:PySem.W.Frag} {tg:Expr} (z:Str) (t:Tok) (it:Addr):Turn P w K tg (Its z) [it] it (fun i h => h.IsStrIter it "str_iterator" z t i) where
 mem:=by simp
 obj:=fun i h st b hb => by
   have e:b = it:=by simpa using hb
   subst e
   obtain ⟨o,e,c,d⟩:=st
   exact ⟨o,e,fun v z => by rw [d] at z; cases z⟩
 keep:=fun i h h' st k => let ⟨o,ho,r⟩:=st; ⟨o,k it (by simp) o ho,r⟩
 item:=by
   intro X hP hw hK hc i pins s σ H E I hf st hg
   subst hP hw hK
   obtain ⟨f0,f1,f2,f3,f4,f5⟩:=hf it (by simp)
   have hi:i < z.cps.size:=hg
   refine wpAny_pyNext_wide_item st (c:=z.cps[i]) (by simp [hi]) fun h' st' sb => ?_
   have I1:Inv X pins σ H { s with heap:=h',toks:=s.toks + 1 }:=I.turned (fun b o hb e => (sb.2 b hb).trans e) f0 f1 f3 f4 f5
   obtain ⟨o,e,c,d⟩:=id st'
   exact ⟨_,rfl,kL (s:={ s with heap:=h',toks:=s.toks + 1 }) e c d (by decide) ⟨.str ⟨#[z.cps[i]]⟩,H,I1,⟨_,rfl⟩,⟨rfl,_,by simp [hi],rfl⟩,st',fun b hb => (hf b hb).1⟩⟩
 done:=by
   intro X hP hw hK hc i pins s σ H E I hf st hg
   subst hP hw hK
   obtain ⟨f0,f1,f2,f3,f4,f5⟩:=hf it (by simp)
   have hi:z.cps.size ≤ i:=hg
   exact wpAny_pyNext_wide_end (I.ok.hd hc) st (by simp [hi]) fun h' eb => ⟨rfl,I.turned (t':=s.toks) (fun b o hb e => eb b o hb e) f0 f1 f3 f4 f5⟩
 self:=fun _ _ _ _ _ st h => wpAny_pyIter_striter_wide st h
section
variable {X:Cx} {tg:Expr}
end
theorem bX0 {z:Str} {g:TG} {tb:TS} {D:Ends} {σ:St} {H:Hp} (Pv:Nat → St → Hp → Prop) (h0:Pv 0 σ H)
   (hs:∀ i c σ H,z.cps.toList[i]? = some c → Pv i σ H → g (.str ⟨#[c]⟩) σ H fun σ2 H2 => tb { D with nx:=Pv (i + 1),ct:=Pv (i + 1),bk:=D.nx } σ2 H2) (hd:∀ σ H,Pv z.cps.toList.length σ H → D.nx σ H) :
   ∃ W:Nat → Nat → St → Hp → Prop,(∃ m,W 0 m σ H) ∧ ∀ i m σ H,W i m σ H →
     ((Its z).stop i H ∧ D.nx σ H) ∨ ((Its z).go i H ∧ ∃ N:St → Hp → Prop,(∀ σ' H',N σ' H' → ∃ m',m' < m ∧ W (i + 1) m' σ' H') ∧ ∀ x H',(Its z).yld i H x H' → g x σ H' fun σ2 H2 => tb { D with nx:=N,ct:=N,bk:=D.nx } σ2 H2):=by
 have hl:z.cps.toList.length = z.cps.size:=by simp
 rw [hl] at hd
 refine ⟨fun i m σ H => m = z.cps.size - i ∧ i ≤ z.cps.size ∧ Pv i σ H,⟨z.cps.size,by simp,Nat.zero_le _,h0⟩,?_⟩
 rintro i m σ H ⟨rfl,hi,p⟩
 by_cases hlt:i < z.cps.size
 · refine .inr ⟨hlt,Pv (i + 1),fun σ' H' p' => ⟨z.cps.size - (i + 1),by omega,rfl,hlt,p'⟩,fun x H' y => ?_⟩
   obtain ⟨e,c,hc,hx⟩:=y
   subst e hx
   exact hs i c σ _ (by simpa using hc) p
 · have e:i = z.cps.size:=by omega
   subst e
   exact .inl ⟨Ai _,hd σ H p⟩
section
variable {X:Cx} {a b c:Expr} {ta tb tc:TE} {pos:Pos}
def dQ0:V → Option Int → Option Int → Hp → VK → Prop:=fun x lo hi H Q => ∃ z,x = .str z ∧ z.length ≤ sizeLine ∧ Q (.str (Txt.slice z lo hi)) H
theorem bJX:SlR X dQ0:=by
 intro pins s σ H x v vl vu lo hi sl Q I rx hs pl pu h
 obtain ⟨z,rfl,hz,q⟩:=h
 obtain ⟨t,rfl⟩:=rx
 refine ⟨"str",_,PySem.F.slot_str_getitem.lookup,typeIs_str _ _ _,?_⟩
 cases pl with
 | none =>
   cases pu with
   | none => exact Fk (l:=none) (u:=none) (st:=none) hs rfl (post_val_or_str ⟨Bg (Txt.slice_le z _ _) hz,fun t' k => ⟨.str (Txt.slice z none none),H,I.tok _,⟨_,rfl⟩,q⟩⟩)
   | int j uj => exact Fk (l:=none) (u:=some (j,uj)) (st:=none) hs rfl (post_val_or_str ⟨Bg (Txt.slice_le z _ _) hz,fun t' k => ⟨.str (Txt.slice z none (some j)),H,I.tok _,⟨_,rfl⟩,q⟩⟩)
 | int i ui =>
   cases pu with
   | none => exact Fk (l:=some (i,ui)) (u:=none) (st:=none) hs rfl (post_val_or_str ⟨Bg (Txt.slice_le z _ _) hz,fun t' k => ⟨.str (Txt.slice z (some i) none),H,I.tok _,⟨_,rfl⟩,q⟩⟩)
   | int j uj => exact Fk (l:=some (i,ui)) (u:=some (j,uj)) (st:=none) hs rfl (post_val_or_str ⟨Bg (Txt.slice_le z _ _) hz,fun t' k => ⟨.str (Txt.slice z (some i) (some j)),H,I.tok _,⟨_,rfl⟩,q⟩⟩)
theorem nG:CallR X (.type "int") (fun xs H Q => ∃ x n,xs = [.str x] ∧ PySem.intText? x = some n ∧ x.length ≤ 640 ∧ Q (.int n) H):=by
 intro pins s σ H xs us Q I r h
 obtain ⟨x,n,rfl,hn,hl,q⟩:=h
 obtain ⟨u,rfl,t,rfl⟩:=dQ r
 exact PySem.W.KIN.call_text hn hl ⟨.int n,H,I.tok _,⟨_,rfl⟩,q⟩
theorem call_isinst:CallR X (.builtin "isinstance") (fun xs H Q => ∃ x T t b,xs = [x,.ty T] ∧ TyOf X.K H x t ∧ PySem.W.kitOne X.K t (.type T) = some b ∧ Q (.bl b) H):=by
 intro pins s σ H xs us Q I r h
 obtain ⟨x,T,t,b,rfl,ty,e,q⟩:=h
 obtain ⟨u,w',rfl,rx,ry⟩:=kE r
 cases (show w' = Value.type T from ry)
 exact yX I rx ty e fun tk => ⟨.bl b,H,I.tok _,rfl,q⟩
def gL (xs ys:List V):Bool:=xs.length == ys.length && (List.range xs.length).all fun j => eqV (xs.getD j .non) (ys.getD j .non)
theorem Vals.getD_rel {xs:List V} {us:List Value} {j:Nat} (r:Vals xs us) (h:j < us.length):RelV (xs.getD j .non) us[j]:=by
 have hl:=r.length
 have hx:j < xs.length:=by omega
 obtain ⟨u,hu,ru⟩:=r.get (Ab hx)
 rw [Ab h] at hu
 cases hu
 rw [Ag,Ab hx]
 exact ru
theorem eW {xs:List V} (h:xs.all aW = true) (j:Nat):aW (xs.getD j .non) = true:=by
 rw [Ag]
 cases e:xs[j]? with
 | none => rfl
 | some x => exact Dz.mp h x (As e)
def bJG (K:PySem.W.Frag) (neg:Bool):R2:=fun x y H Q => ∃ p q xs ys,x = .ref p ∧ y = .ref q ∧ SqL K H p xs ∧ SqL K H q ys ∧ xs.all aW = true ∧ ys.all aW = true ∧ Q (.bl (if neg then !gL xs ys else gL xs ys)) H
theorem sK {xs ys:List V} (h:xs.length ≠ ys.length):gL xs ys = false:=by
 unfold gL
 rw [Dh.mpr h,Bool.false_and]
theorem kA {xs ys:List V} (h:xs.length = ys.length):gL xs ys = (List.range xs.length).all fun j => eqV (xs.getD j .non) (ys.getD j .non):=by
 unfold gL
 rw [h,Hk,Bool.true_and]
theorem vS (hu:X.A.units < cLine):OpR X (compareOp .Eq) (bJG X.K false):=by
 intro pins s σ H x y v u Q I rx ry h
 obtain ⟨p,q,xs,ys,rfl,rfl,hp,hq,fx,fy,k⟩:=h
 cases rx
 cases ry
 obtain ⟨its,r1,l1,_⟩:=I.list hp
 obtain ⟨its2,r2,l2,_⟩:=I.list hq
 have e1:=r1.length
 have e2:=r2.length
 by_cases hl:xs.length = ys.length
 · refine SeqAt.eq_listAt (e:=fun j => eqV (xs.getD j .non) (ys.getD j .non)) l1.isList l2.isList (by simp only [List.size_toArray]; omega) hu (fun j h1 h2 => ?_) ?_
   · have h1':j < its.length:=by simpa using h1
     have h2':j < its2.length:=by simpa using h2
     simpa using lU (A:=X.A.in1) (s:=s) (r1.getD_rel h1') (r2.getD_rel h2') (eW fx j) (eW fy j)
   · refine ⟨.bl (gL xs ys),H,I,?_,k⟩
     rw [kA hl]
     simp only [List.size_toArray,← e1]
     rfl
 · refine SeqAt.eq_list_lengthsAt l1.isList l2.isList (by simp only [List.size_toArray,bne_iff_ne]; omega) hu ⟨.bl (gL xs ys),H,I,?_,k⟩
   rw [sK hl]
   rfl
theorem uV (hu:X.A.units < cLine):OpR X (compareOp .NotEq) (bJG X.K true):=by
 intro pins s σ H x y v u Q I rx ry h
 obtain ⟨p,q,xs,ys,rfl,rfl,hp,hq,fx,fy,k⟩:=h
 cases rx
 cases ry
 obtain ⟨its,r1,l1,_⟩:=I.list hp
 obtain ⟨its2,r2,l2,_⟩:=I.list hq
 have e1:=r1.length
 have e2:=r2.length
 by_cases hl:xs.length = ys.length
 · refine SeqAt.RcNeAt.lists (e:=fun j => eqV (xs.getD j .non) (ys.getD j .non)) l1.isList l2.isList (by simp only [List.size_toArray]; omega) hu (fun j h1 h2 => ?_) X.prog X.w _ _ ?_
   · have h1':j < its.length:=by simpa using h1
     have h2':j < its2.length:=by simpa using h2
     simpa using lU (A:=X.A.in1) (s:=s) (r1.getD_rel h1') (r2.getD_rel h2') (eW fx j) (eW fy j)
   · refine ⟨.bl (!gL xs ys),H,I,?_,k⟩
     rw [kA hl]
     simp only [List.size_toArray,← e1]
     rfl
 · refine SeqAt.RcNeAt.lists_lengths l1.isList l2.isList (by simp only [List.size_toArray,bne_iff_ne]; omega) hu X.prog X.w _ _ ⟨.bl (!gL xs ys),H,I,?_,k⟩
   rw [sK hl]
   rfl
end
end L2
set_option maxHeartbeats 4000000
namespace L2
open PySem PySem.Spec PyProof.Rows
def rdO:Option HO → Option (List V)
 | some (.lst xs) => some xs
 | some (.frz _ (.lst xs)) => some xs
 | _ => none
def rdL (H:Hp) (a:Addr):Option (List V):=rdO (H a)
theorem aU {K:PySem.W.Frag} {H:Hp} {a:Addr} {xs:List V} (h:rdL H a = some xs):SqL K H a xs:=by
 unfold rdL rdO at h
 split at h
 · cases h; exact .inl (.inl (by assumption))
 · cases h; exact .inl (.inr ⟨_,by assumption⟩)
 · cases h
theorem bI {H:Hp} {a:Addr} {xs:List V} (h:H a = some (.lst xs)):rdL H a = some xs:=by unfold rdL; rw [h]; rfl
theorem cK {H:Hp} {a:Addr} {xs:List V}:rdL (upd H a (.lst xs)) a = some xs:=bI aB
theorem uR {H:Hp} {a b:Addr} {o:HO} (h:b ≠ a):rdL (upd H a o) b = rdL H b:=by unfold rdL; rw [aH h]
theorem aK {H H':Hp} {a:Addr} {xs:List V} (e:Same H H') (h:rdL H a = some xs):rdL H' a = some xs:=by
 unfold rdL at h ⊢
 cases q:H a with
 | none => rw [q] at h; cases h
 | some o => rw [e a o q,← q]; exact h
theorem aF {H:Hp} {p:Addr} (h:H p = none) (o:HO):Same H (upd H p o):=fun b u q => by rw [aH (aZ q h)]; exact q
def eT (H:Hp) (a:Addr):Option (List V):=match H a with | some (.lst xs) => some xs | _ => none
theorem eK {H:Hp} {a:Addr} {xs:List V} (h:H a = some (.lst xs)):eT H a = some xs:=by unfold eT; rw [h]
theorem jA {H:Hp} {a:Addr} {xs:List V} (h:eT H a = some xs):H a = some (.lst xs):=by
 unfold eT at h
 split at h
 · cases h; assumption
 · cases h
theorem jP {H:Hp} {a:Addr} {xs:List V}:eT (upd H a (.lst xs)) a = some xs:=eK aB
theorem bZG {H:Hp} {a b:Addr} {o:HO} (h:b ≠ a):eT (upd H a o) b = eT H b:=by unfold eT; rw [aH h]
def iZ (H:Hp) (a:Addr):Option (List V):=match H a with | some (.tup xs) => some xs | _ => none
theorem eI {H:Hp} {a:Addr} {xs:List V} (h:H a = some (.tup xs)):iZ H a = some xs:=by unfold iZ; rw [h]
theorem kP {H:Hp} {a:Addr} {xs:List V} (h:iZ H a = some xs):H a = some (.tup xs):=by
 unfold iZ at h
 split at h
 · cases h; assumption
 · cases h
theorem zF {H:Hp} {a:Addr} {xs:List V}:iZ (upd H a (.tup xs)) a = some xs:=eI aB
section
variable {X:Cx} {a b c:Expr} {ta tb tc:TE} {pos:Pos}
def bX9 (i:Nat):TE:=fun σ H Q => match σ[i]? with | some (some v) => Q v H | _ => False
theorem mv (i:Nat) {x:Str} {pos:Pos} (hN:X.N[i]? = some x:=by rfl) (hv:Vis X.env.scope x:=by first | exact Or.inl rfl | exact Or.inr (Or.inl rfl) | exact Or.inr (Or.inr rfl)) (hd:(x == ("__debug__" : Str)) = false:=by decide)
   (hcd:(x == ("__classdict__" : Str)) = false:=by decide):PE X (.Name x pos) (bX9 i):=(pv i hN hv hd hcd).imp fun σ H Q q => by
 unfold bX9 at q
 split at q
 · exact ⟨_,by assumption,q⟩
 · exact q.elim
def mI (g:Int → Int → V):R2:=fun x y H Q => match x,y with | .int i,.int j => Q (g i j) H | _,_ => False
theorem vE {g:Int → Int → V} {x y:V} {H:Hp} {Q:VK} (q:mI g x y H Q):rI0 g x y H Q:=by
 unfold mI at q
 split at q
 · exact ⟨_,_,rfl,rfl,q⟩
 · exact q.elim
def mIC (C:Int → Int → Prop) (g:Int → Int → V):R2:=fun x y H Q => match x,y with | .int i,.int j => C i j ∧ Q (g i j) H | _,_ => False
theorem qW {C:Int → Int → Prop} {g:Int → Int → V} {x y:V} {H:Hp} {Q:VK} (q:mIC C g x y H Q):rI C g x y H Q:=by
 unfold mIC at q
 split at q
 · exact ⟨_,_,rfl,rfl,q.1,q.2⟩
 · exact q.elim
def zC:R2:=fun x y H Q => match x,y with
 | .int i,.int j => Q (.int (i + j)) H
 | .str z,.str y => z.length + y.length ≤ sizeLine ∧ Q (.str (z ++ y)) H
 | .ref p,.ref q => (match eT H p,eT H q with
   | some xs,some zs => xs.length + zs.length ≤ sizeLine ∧ ∀ r,H r = none → Q (.ref r) (upd H r (.lst (xs ++ zs)))
   | _,_ => False)
 | _,_ => False
theorem cX:OpR X (binaryOp .Add) zC:=by
 intro pins s σ H x y v u Q I rx ry q
 unfold zC at q
 split at q
 · exact cXX pins s σ H _ _ v u Q I rx ry ⟨_,_,rfl,rfl,q⟩
 · exact tV pins s σ H _ _ v u Q I rx ry ⟨_,_,rfl,rfl,q.1,q.2⟩
 · split at q
   · exact cQA pins s σ H _ _ v u Q I rx ry ⟨_,_,_,_,rfl,rfl,jA (by assumption),jA (by assumption),q.1,q.2⟩
   · exact q.elim
 · exact q.elim
theorem gY:OpR X (binaryOp .Sub) (mI fun i j => .int (i - j)):=op_sub.imp fun _ _ _ _ q => vE q
theorem pC:OpR X (binaryOp .Mult) (mIC CMul fun i j => .int (i * j)):=op_mul.imp fun _ _ _ _ q => qW q
theorem gQ:OpR X (binaryOp .Mod) (mIC (fun _ j => 0 < j) fun i j => .int (i % j)):=op_mod.imp fun _ _ _ _ q => qW q
theorem pQ:OpR X (binaryOp .FloorDiv) (mIC cJ7 fun i j => .int (i / j)):=op_fdiv.imp fun _ _ _ _ q => qW q
theorem cXL:OpR X (compareOp .Lt) (mI fun i j => .bl (decide (i < j))):=op_lt.imp fun _ _ _ _ q => vE q
theorem bQF:OpR X (compareOp .Gt) (mI fun i j => .bl (decide (j < i))):=op_gt.imp fun _ _ _ _ q => vE q
def cQM:V → Hp → VK → Prop:=fun x H Q => match x with | .int i => Q (.int (-i)) H | _ => False
theorem dQC:UnR X (unaryOp .USub) cQM:=fun pins s σ H x v Q I rx q => by
 unfold cQM at q
 split at q
 · exact cQ8 pins s σ H _ v Q I rx ⟨_,rfl,q⟩
 · exact q.elim
def mEq:R2:=fun x y H Q => bX4 x y = true ∧ Q (.bl (decide (x = y))) H
theorem bXM:OpR X (compareOp .Eq) mEq:=cJ1
def mNe:R2:=fun x y H Q => bX4 x y = true ∧ Q (.bl (!decide (x = y))) H
theorem cJ9:OpR X (compareOp .NotEq) mNe:=cJP
def yY (neg:Bool):R2:=fun x y H Q => match x,y with
 | .ref p,.ref q => (match rdL H p,rdL H q with
   | some xs,some ys => xs.all aW = true ∧ ys.all aW = true ∧ Q (.bl (if neg then !gL xs ys else gL xs ys)) H
   | _,_ => False)
 | _,_ => False
theorem sB {K:PySem.W.Frag} {neg:Bool} {x y:V} {H:Hp} {Q:VK} (q:yY neg x y H Q):bJG K neg x y H Q:=by
 unfold yY at q
 split at q
 · split at q
   · exact ⟨_,_,_,_,rfl,rfl,aU (by assumption),aU (by assumption),q.1,q.2.1,q.2.2⟩
   · exact q.elim
 · exact q.elim
theorem cZP (hu:X.A.units < cLine):OpR X (compareOp .Eq) (yY false):=(vS hu).imp fun _ _ _ _ q => sB q
theorem cX4 (hu:X.A.units < cLine):OpR X (compareOp .NotEq) (yY true):=(uV hu).imp fun _ _ _ _ q => sB q
def dQ7:R2:=fun x y H Q => match y with | .non => Q (.bl (decide (x = .non))) H | _ => False
def aJM:R2:=fun x y H Q => match y with | .non => Q (.bl (!decide (x = .non))) H | _ => False
theorem bJY:OpR X (compareOp .IsNot) aJM:=op_notN.imp fun _ y _ _ q => by
 unfold aJM at q
 split at q
 · exact ⟨rfl,q⟩
 · exact q.elim
def subIn (y x:Str):Bool:=!(Builtin.Str.occurrences x y 0 x.length 1).isEmpty
def yM (neg:Bool):R2:=fun x y H Q => match y with
 | .ref p => (match rdL H p with | some xs => aW x = true ∧ xs.all aW = true ∧ Q (.bl (if neg then !inV x xs else inV x xs)) H | none => False)
 | _ => False
theorem rL {K:PySem.W.Frag} {neg:Bool} {x y:V} {H:Hp} {Q:VK} (q:yM neg x y H Q):rIn K neg x y H Q:=by
 unfold yM at q
 split at q
 · split at q
   · exact ⟨_,_,rfl,.inl (aU (by assumption)),q.1,q.2.1,q.2.2⟩
   · exact q.elim
 · exact q.elim
theorem cJL:OpR X (compareOp .In) (yM false):=op_in_seq.imp fun _ _ _ _ q => rL q
theorem sI:OpR X (compareOp .NotIn) (yM true):=op_notIn_seq.imp fun _ _ _ _ q => rL q
def mB (Q:Bool → Hp → Prop):VK:=fun x H => match x with | .bl k => Q k H | _ => False
theorem cJC {Q:Bool → Hp → Prop} {x:V} {H:Hp} (q:mB Q x H):∃ k,x = .bl k ∧ Q k H:=by
 unfold mB at q
 split at q
 · exact ⟨_,rfl,q⟩
 · exact q.elim
def bZR (t:TE):TT:=fun σ H Q => t σ H (mB Q)
theorem bK {op:CmpOp} {r:R2} (ho:OpR X (compareOp op) r) (ha:PE X a ta) (hb:PE X b tb) (hm:behindInMarks op b = false):PT X (.Compare a [op] [b] pos) (bZR (tOp r ta tb)):=by
 intro pins s σ H Q I h
 refine wpAny_isTrue_Compare1 (thn (ha pins s σ H _ I h) fun v s1 ⟨x,H1,I1,r1,q1⟩ => thn (hb pins s1 σ H1 _ I1 q1) fun u s2 ⟨y,H2,I2,r2,q2⟩ =>
   thn (ho pins s2 σ H2 x y v u _ I2 r1 r2 q2) fun c s3 ⟨z,H3,I3,r3,q⟩ => ?_) hm
 obtain ⟨k,e,q3⟩:=cJC q
 subst e
 cases r3
 exact Ha ⟨H3,I3,q3⟩
def aQ3 (Q:Bool → Hp → Prop):VK:=fun x H => match x with
 | .non => Q false H
 | .bl k => Q k H
 | .int i => Q (i != 0) H
 | .str y => y.length ≤ sizeLine ∧ Q ((y.length:Int) != 0) H
 | .ref p => (match rdL H p with
   | some xs => Q (!xs.isEmpty) H
   | none => (match H p with | some (.dK kvs) => Q (!kvs.isEmpty) H | _ => False))
 | _ => False
theorem aJ8 {K:PySem.W.Frag} {Q:Bool → Hp → Prop} {x:V} {H:Hp} (q:aQ3 Q x H):∃ k,cZZ K x H k ∧ Q k H:=by
 unfold aQ3 at q
 split at q
 · exact ⟨_,rfl,q⟩
 · exact ⟨_,rfl,q⟩
 · exact ⟨_,rfl,q⟩
 · exact ⟨_,⟨q.1,rfl⟩,q.2⟩
 · split at q
   · exact ⟨_,.inl ⟨_,aU (by assumption),rfl⟩,q⟩
   · split at q
     · exact ⟨_,.inr (.inr ⟨_,by assumption,rfl⟩),q⟩
     · exact q.elim
 · exact q.elim
def aXM (t:TE):TT:=fun σ H Q => t σ H (aQ3 Q)
theorem dX (ha:PE X a ta) (he:∀ whole,isTrue a X.env whole = (do let v ← whole; standAt a.pos; holding [v] (truthy v)):=by intro _; rfl):PT X a (aXM ta):=by
 intro pins s σ H Q I h
 refine isTrue_plain (thn (ha pins s σ H _ I h) fun v s1 ⟨x,H1,I1,r1,q1⟩ => cQU pins s1 σ H1 x v Q I1 r1 (aJ8 q1)) (he _)
variable {rest:List Expr}
def mIx:R2:=fun x y H Q => match x,y with
 | .str z,.int i => z.length ≤ sizeLine ∧ (match atI z.cps.toList i with | some c => Q (.str ⟨#[c]⟩) H | none => False)
 | .ref p,.int i => (match rdL H p with
   | some xs => (match atI xs i with | some v => Q v H | none => False)
   | none => (match iZ H p with
     | some xs => (match atI xs i with | some v => Q v H | none => False)
     | none => False))
 | _,_ => False
theorem bQX {K:PySem.W.Frag} {x y:V} {H:Hp} {Q:VK} (q:mIx x y H Q):rIx K x y H Q:=by
 unfold mIx at q
 split at q
 · obtain ⟨h1,q⟩:=q
   split at q
   · exact .inr (.inr ⟨_,_,_,rfl,rfl,h1,by assumption,q⟩)
   · exact q.elim
 · split at q
   · split at q
     · exact .inl ⟨_,_,_,_,rfl,rfl,aU (by assumption),by assumption,q⟩
     · exact q.elim
   · split at q
     · split at q
       · exact .inr (.inl ⟨_,_,_,_,rfl,rfl,SqT.of (kP (by assumption)),by assumption,q⟩)
       · exact q.elim
     · exact q.elim
 · exact q.elim
theorem eU:IxR X mIx:=ix_seq.imp fun _ _ _ _ q => bQX q
def mSl:V → Option Int → Option Int → Hp → VK → Prop:=fun x lo hi H Q => match x with
 | .str z => z.length ≤ sizeLine ∧ Q (.str (Txt.slice z lo hi)) H
 | .ref p => (match rdL H p with | some xs => ∀ r,H r = none → Q (.ref r) (upd H r (.lst (jY xs lo hi))) | none => False)
 | _ => False
theorem cJZ:SlR X mSl:=(sl_list.or bJX).imp fun _ _ _ _ _ q => by
 unfold mSl at q
 split at q
 · exact .inr ⟨_,rfl,q.1,q.2⟩
 · split at q
   · exact .inl ⟨_,_,rfl,aU (by assumption),q⟩
   · exact q.elim
 · exact q.elim
def pK (Q:Option Int → Hp → Prop):VK:=fun x H1 => match x with | .int i => Q (some i) H1 | _ => False
def bJC (t:TE):TO:=fun σ H Q => t σ H (pK Q)
variable {e:Expr} {te:TE}
theorem jD (h:PE X e te):PO X (some e) (bJC te):=by
 intro pins s σ H Q I hw
 rw [evalPart_some]
 refine thn (h pins s σ H _ I hw) fun u s1 ⟨x,H1,I1,r1,q1⟩ => ?_
 unfold pK at q1
 split at q1
 · obtain ⟨t,rfl⟩:=r1
   exact ⟨_,H1,I1,.int _ t,q1⟩
 · exact q1.elim
def aQ6:List V → Hp → VK → Prop:=fun xs H Q => match xs with
 | [.str z] => z.length ≤ sizeLine ∧ Q (.int z.length) H
 | [.ref p] => (match rdL H p with
   | some xs => Q (.int xs.length) H
   | none => (match iZ H p with | some xs => Q (.int xs.length) H | none => False))
 | _ => False
theorem fK:CallR X (.builtin "len") aQ6:=call_len.imp fun _ _ _ q => by
 unfold aQ6 at q
 split at q
 · exact ⟨_,_,rfl,⟨q.1,rfl⟩,q.2⟩
 · split at q
   · exact ⟨_,_,rfl,.inl ⟨_,aU (by assumption),rfl⟩,q⟩
   · split at q
     · exact ⟨_,_,rfl,.inr ⟨_,SqT.of (kP (by assumption)),rfl⟩,q⟩
     · exact q.elim
 · exact q.elim
def aJC:List V → Hp → VK → Prop:=fun xs H Q => match xs with | [.int i,.int j] => Q (.int (if j < i then j else i)) H | _ => False
theorem cZ5 (hc:X.calm = true):CallR X (.builtin "min") aJC:=(yK hc).imp fun _ _ _ q => by
 unfold aJC at q
 split at q
 · exact ⟨_,_,rfl,q⟩
 · exact q.elim
def bQE:List V → Hp → VK → Prop:=fun xs H Q => match xs with
 | [.int i] => Q (.int i) H
 | [.str x] => (match PySem.intText? x with | some n => x.length ≤ 640 ∧ Q (.int n) H | none => False)
 | _ => False
theorem bZX:CallR X (.type "int") bQE:=(call_int1.or nG).imp fun _ _ _ q => by
 unfold bQE at q
 split at q
 · exact .inl (.inl ⟨_,rfl,q⟩)
 · split at q
   · exact .inr ⟨_,_,rfl,by assumption,q.1,q.2⟩
   · exact q.elim
 · exact q.elim
def wU:List V → Hp → VK → Prop:=fun xs H Q => match xs with
 | [.ref p] => (match rdL H p with
   | some ys => ∀ l,H l = none → Q (.ref l) (upd H l (.lst ys))
   | none => (match iZ H p with | some ys => ∀ l,H l = none → Q (.ref l) (upd H l (.lst ys)) | none => False))
 | _ => False
theorem iB:CallR X (.type "list") wU:=call_list_of.imp fun _ _ _ q => by
 unfold wU at q
 split at q
 · split at q
   · exact ⟨_,_,rfl,.inl (aU (by assumption)),q⟩
   · split at q
     · exact ⟨_,_,rfl,.inr (SqT.of (kP (by assumption))),q⟩
     · exact q.elim
 · exact q.elim
def vI (T:String) (x:V) (H:Hp) (P:Prop):Prop:=match x with
 | .str _ => T = "str" ∧ P
 | .ref p => (match rdL H p with | some _ => T = "list" ∧ P | none => False)
 | _ => False
theorem aX0 {K:PySem.W.Frag} {T:String} {x:V} {H:Hp} {P:Prop} (q:vI T x H P):tyV K T x H ∧ P:=by
 unfold vI at q
 split at q
 · exact ⟨q.1,q.2⟩
 · split at q
   · exact ⟨.inl ⟨q.1,_,aU (by assumption)⟩,q.2⟩
   · exact q.elim
 · exact q.elim
def bJD (T:String) (r:V → List V → Hp → VK → Prop) (to:TE) (t:TA):TE:=fun σ H Q => to σ H fun x H1 => vI T x H1 (t σ H1 fun xs H2 => r x xs H2 Q)
variable {o:Expr} {es:List Expr} {to:TE} {t:TA} {name:Str} {apos cpos:Pos} {T id:String} {r:V → List V → Hp → VK → Prop}
theorem fA (pa:PlainAttrs T) (slot:Slot T name id) (hty:typeOf (.builtin id) = pure (.type "method_descriptor")) (hm:MtR X id r) (ho:PE X o to) (ha:PA X (e :: es) t)
   (hbase:attributeBase o name X.env (eval o X.env) = eval o X.env:=by rfl)
   (hfew:((backTo cpos (starEach (e :: es) X.env)).all (fun x => !x.1) && (backToKw cpos (keywordEach [] X.env)).all (fun x => x.1.isSome)
     && decide ((e :: es).length + ([]:List Keyword).length + (if ([]:List Keyword).isEmpty then 0 else 1) < 30)) = true:=by rfl)
   (hline:(apos.endLine == cpos.line) = true:=by rfl) (hs:starEach (e :: es) X.env = (false,eval e X.env) :: starEach es X.env:=by rfl) (hplain:(backTo cpos (starEach es X.env)).any (·.1) = false:=by rfl) :
   PE X (.Call (.Attribute o name apos) (e :: es) [] cpos) (bJD T r to t):=by
 intro pins s σ H Q I h
 refine wpAny_Call_method_late hbase hfew hline rfl (thn (ho pins s σ H _ I h) fun v s1 ⟨x,H1,I1,r1,q⟩ => ?_)
 obtain ⟨ty,q1⟩:=aX0 (K:=X.K) q
 obtain ⟨h1,h2⟩:=cXK I1 r1 ty
 refine ⟨T,id,pa,slot,hty,h1,h2,?_⟩
 have hA:=ha cpos pins s1 σ H1 _ I1 q1
 rw [hs] at hA ⊢
 refine Calls.callWith_builtin (by show (false || (backTo cpos (starEach es X.env)).any (·.1)) = false; rw [hplain] <;> rfl) (Calls.evalArgs_plain ?_)
 exact thn hA fun us s2 ⟨vs,H2,I2,r2,q2⟩ => hm pins s2 σ H2 x vs v us Q I2 r1 r2 q2
def bQI:V → List V → Hp → VK → Prop:=fun x vs H Q => match x,vs with
 | .ref l,[y] => (match eT H l with | some xs => xs.length < sizeLine ∧ Q .non (upd H l (.lst (xs ++ [y]))) | none => False)
 | _,_ => False
theorem wD:MtR X "list.append" bQI:=MtR.imp (r:=xD) jX fun _ _ _ _ q => by
 unfold bQI at q
 split at q
 · split at q
   · exact ⟨_,_,_,rfl,rfl,jA (by assumption),q.1,q.2⟩
   · exact q.elim
 · exact q.elim
def tyN (x:V) (H:Hp):Option String:=match x with
 | .non => some "NoneType"
 | .bl _ => some "bool"
 | .int _ => some "int"
 | .str _ => some "str"
 | .ref p => (match H p with
   | some (.lst _) => some "list"
   | some (.frz _ (.lst _)) => some "list"
   | some (.tup _) => some "tuple"
   | some (.dK _) => some "dict"
   | _ => none)
 | _ => none
theorem cQY {K:PySem.W.Frag} {x:V} {H:Hp} {t:String} (h:tyN x H = some t):TyOf K H x (.type t):=by
 unfold tyN at h
 split at h
 · cases h; exact .non
 · cases h; exact .bl _
 · cases h; exact .int _
 · cases h; exact .str _
 · split at h
   · cases h; exact .lst (by assumption)
   · cases h; exact .frz (by assumption)
   · cases h; exact .tup (by assumption)
   · cases h; exact .dK (by assumption)
   · cases h
 · cases h
def cJ0 (t T:String):Bool:=decide (t = T) || (decide (t = "bool") && decide (T = "int"))
def cXZ (t T:String):Bool:=["NoneType", "bool", "int", "str", "list", "tuple", "dict"].contains t && ["bool", "int", "str", "list", "tuple", "dict"].contains T
def zS (t T:String):Option Bool:=bif cXZ t T then some (cJ0 t T) else none
theorem aJX {K:PySem.W.Frag}:∀ t ∈ ["NoneType", "bool", "int", "str", "list", "tuple", "dict"],∀ T ∈ ["bool", "int", "str", "list", "tuple", "dict"],PySem.W.kitOne K (.type t) (.type T) = some (cJ0 t T):=by
 simp only [List.forall_mem_cons,List.not_mem_nil,false_implies,implies_true,and_true]
 refine ⟨⟨rfl,rfl,rfl,rfl,rfl,rfl⟩,⟨rfl,rfl,rfl,rfl,rfl,rfl⟩,⟨rfl,rfl,rfl,rfl,rfl,rfl⟩,⟨rfl,rfl,rfl,rfl,rfl,rfl⟩,⟨rfl,rfl,rfl,rfl,rfl,rfl⟩,⟨rfl,rfl,rfl,rfl,rfl,rfl⟩,⟨rfl,rfl,rfl,rfl,rfl,rfl⟩⟩
theorem aXS {K:PySem.W.Frag} {t T:String} {b:Bool} (h:zS t T = some b):PySem.W.kitOne K (.type t) (.type T) = some b:=by
 unfold zS at h
 cases hn:cXZ t T with
 | false => rw [hn] at h; cases h
 | true =>
   rw [hn] at h; cases h
   unfold cXZ at hn; rw [Fj] at hn
   exact aJX t (List.contains_iff_mem.mp hn.1) T (List.contains_iff_mem.mp hn.2)
def bX3:List V → Hp → VK → Prop:=fun xs H Q => match xs with
 | [x,.ty T] => (match tyN x H with
   | some t => (match zS t T with | some b => Q (.bl b) H | none => False)
   | none => False)
 | _ => False
theorem sO:CallR X (.builtin "isinstance") bX3:=call_isinst.imp fun _ _ _ q => by
 unfold bX3 at q
 split at q
 · split at q
   · split at q
     · exact ⟨_,_,_,_,rfl,cQY (by assumption),aXS (by assumption),q⟩
     · exact q.elim
   · exact q.elim
 · exact q.elim
end
end L2
namespace L2
open PySem PySem.Spec PyProof.Rows
def tK (R:Str → Hp → Prop):VK:=fun x H => match x with | .str z => R z H | _ => False
theorem aXV {R:Str → Hp → Prop} {x:V} {H:Hp} (q:tK R x H):∃ z,x = .str z ∧ R z H:=by
 unfold tK at q
 split at q
 · exact ⟨_,rfl,q⟩
 · exact q.elim
def onL (o:Option (List V)) (P:Prop):Prop:=match o with | some _ => P | none => False
def eG (R:Addr → Hp → Prop):VK:=fun x H => match x with | .ref a => R a H | _ => False
theorem rH {R:Addr → Hp → Prop} {x:V} {H:Hp} (q:eG R x H):∃ a,x = .ref a ∧ R a H:=by
 unfold eG at q
 split at q
 · exact ⟨_,rfl,q⟩
 · exact q.elim
section
variable {X:Cx} {tg l a b:Expr} {tl ta tb:TE} {p pos:Pos}
def cJV (tl:TE):TI:=fun σ H R => tl σ H (tK fun z H1 => R (Its z) H1)
theorem uG (hl:PE X l tl):PI X tg l (cJV tl):=by
 intro pins s σ H R I h
 refine thn (hl pins s σ H _ I h) fun v s1 ⟨x,H1,I1,r1,q1⟩ => ?_
 obtain ⟨z,rfl,q⟩:=aXV q1
 obtain ⟨t,rfl⟩:=r1
 have fb:∀ b ∈ [s1.heap.objs.size],dL X pins H1 b:=fun b hb => by
   have e:b = s1.heap.objs.size:=by simpa using hb
   subst e
   exact I1.fpOk (Ai _) (I1.hok.fresh (Ai _))
 cases ha:z.cps.all (· < 128)
 · refine wpAny_pyIter_wide ha ?_
   exact ⟨s1.heap.objs.size,[s1.heap.objs.size],_,_,H1,rfl,I1.kept (t':=s1.toks) fun b o e => Ad _ e,yQ z t _,⟨_,Ap _ rfl,rfl,rfl⟩,fb,q⟩
 · refine wpAny_pyIter_ascii ha ?_
   exact ⟨s1.heap.objs.size,[s1.heap.objs.size],_,_,H1,rfl,I1.kept (t':=s1.toks) fun b o e => Ad _ e,vH z t _,⟨_,Ap _ rfl,rfl,rfl⟩,fb,q⟩
def aZB (K:PySem.W.Frag) (tl:TE):TI:=fun σ H R => tl σ H (eG fun a H1 => onL (rdL H1 a) (R (Itl K a) H1))
theorem iV (hl:PE X l tl):PI X tg l (aZB X.K tl):=by
 intro pins s σ H R I h
 refine thn (hl pins s σ H _ I h) fun v s1 ⟨x,H1,I1,r1,q1⟩ => ?_
 obtain ⟨a,rfl,q⟩:=rH q1
 cases r1
 unfold onL at q
 split at q
 · rename_i xs e
   obtain ⟨its,rv,p,hz⟩:=I1.list (aU e)
   refine He p.isList ?_
   refine ⟨s1.heap.objs.size,[s1.heap.objs.size],_,_,H1,rfl,I1.kept (t':=s1.toks) fun b o e => Ad _ e,yP a _,⟨_,Ap _ rfl,rfl,rfl⟩,fun b hb => ?_,q⟩
   have e:b = s1.heap.objs.size:=by simpa using hb
   subst e
   exact I1.fpOk (Ai _) (I1.hok.fresh (Ai _))
 · exact q.elim
def aZI (R:Int → Hp → Prop):List V → Hp → Prop:=fun vs H => match vs with | [.int j] => R j H | _ => False
theorem bZC {R:Int → Hp → Prop} {vs:List V} {H:Hp} (q:aZI R vs H):∃ j,vs = [.int j] ∧ R j H:=by
 unfold aZI at q
 split at q
 · exact ⟨_,rfl,q⟩
 · exact q.elim
def aJH (R:Int → Int → Hp → Prop):List V → Hp → Prop:=fun vs H => match vs with | [.int i,.int j] => R i j H | _ => False
theorem wK {R:Int → Int → Hp → Prop} {vs:List V} {H:Hp} (q:aJH R vs H):∃ i j,vs = [.int i,.int j] ∧ R i j H:=by
 unfold aJH at q
 split at q
 · exact ⟨_,_,rfl,q⟩
 · exact q.elim
def bZL (ta:TA):TI:=fun σ H R => ta σ H (aZI fun j H1 => (-(2 ^ 62) ≤ j ∧ j < 2 ^ 62) ∧ R (Itr 0 j.toNat) H1)
def aZN (ta:TA):TI:=fun σ H R => ta σ H (aJH fun i j H1 => (-(2 ^ 62) ≤ i ∧ i < 2 ^ 62 ∧ -(2 ^ 62) ≤ j ∧ j < 2 ^ 62) ∧ R (Itr i (j - i).toNat) H1)
theorem oZ {ta:TA} (hg:Gl X "range") (hm:X.mg "range" = none) (ha:PA X [a] ta) (hs:starEach [a] X.env = [(false,eval a X.env)]:=by rfl):PI X tg (.Call (.Name "range" p) [a] [] pos) (bZL ta):=by
 intro pins s σ H R I h
 refine Call_ (fQ I hg hm boot_range (Cz (thn (ha pos pins s σ H _ I h) fun us s1 ⟨vs,H1,I1,r1,q1⟩ => ?_) hs rfl))
 obtain ⟨j,e,⟨b1,b2⟩,q⟩:=bZC q1
 subst e
 cases r1 with
 | cons r rr =>
   cases rr
   obtain ⟨t,rfl⟩:=r
   exact call_range_1 (tQ I1 (by omega) (by omega) b1 b2 (by simpa using q))
theorem oM {ta:TA} (hg:Gl X "range") (hm:X.mg "range" = none) (ha:PA X [a,b] ta) (hs:starEach [a,b] X.env = [(false,eval a X.env),(false,eval b X.env)]:=by rfl) (hs2:starEach [b] X.env = [(false,eval b X.env)]:=by rfl) :
   PI X tg (.Call (.Name "range" p) [a,b] [] pos) (aZN ta):=by
 intro pins s σ H R I h
 refine Call_ (fQ I hg hm boot_range (Cz (thn (ha pos pins s σ H _ I h) fun us s1 ⟨vs,H1,I1,r1,q1⟩ => ?_) (by rw [hs,hs2]) (by rw [hs2]; rfl)))
 obtain ⟨i,j,e,⟨b1,b2,b3,b4⟩,q⟩:=wK q1
 subst e
 cases r1 with
 | cons r rr =>
   cases rr with
   | cons r' rr =>
     cases rr
     obtain ⟨t,rfl⟩:=r
     obtain ⟨t',rfl⟩:=r'
     exact call_range_2 (tQ I1 b1 b2 b3 b4 q)
def nH (J:It) (g:TG) (tb:TS) (D:Ends) (σ:St) (H1:Hp):Prop:=∃ W:Nat → Nat → St → Hp → Prop,(∃ m,W 0 m σ H1) ∧ ∀ i m σ H,W i m σ H →
 (J.stop i H ∧ D.nx σ H) ∨ (J.go i H ∧ ∃ N:St → Hp → Prop,(∀ σ' H',N σ' H' → ∃ m',m' < m ∧ W (i + 1) m' σ' H') ∧ ∀ x H',J.yld i H x H' → g x σ H' fun σ2 H2 => tb { D with nx:=N,ct:=N,bk:=D.nx } σ2 H2)
def aJD (wi:TI) (g:TG) (tb:TS):TS:=fun D σ H => wi σ H fun J H1 => nH J g tb D σ H1
theorem cQ {iter:Expr} {body:List Stmt} {wi:TI} {g:TG} {tb:TS} (hp:PassesOwn (model X.prog X.w) X.A X.env X.xe) (hc:X.calm = true) (hi:PI X tg iter wi) (hg:PG X tg g) (hb:PSs X body tb)
   (hs:∀ x,foldedSetIterable iter X.env x = pure x:=by intro _; rfl):PS X (.For tg iter body [] pos) (aJD wi g tb):=cQD (wi:=wi) hp hc hi hg hb hs
section
variable {K:PySem.W.Frag} {c:Addr} {xs:List V} {z:Str} {lo:Int} {n:Nat} {g:TG} {tb:TS} {D:Ends} {σ:St} {H:Hp}
theorem eZ (Pv:Nat → St → Hp → Prop) (h0:Pv 0 σ H) (hl:∀ i σ H,i ≤ xs.length → Pv i σ H → rdL H c = some xs)
   (hs:∀ i x σ H,xs[i]? = some x → Pv i σ H → g x σ H fun σ2 H2 => tb { D with nx:=Pv (i + 1),ct:=Pv (i + 1),bk:=D.nx } σ2 H2) (hd:∀ σ H,Pv xs.length σ H → D.nx σ H):nH (Itl K c) g tb D σ H :=
 aQ4 Pv h0 (fun i σ H hi p => aU (hl i σ H hi p)) hs hd
theorem cX0 (Pv:Nat → St → Hp → Prop) (h0:Pv 0 σ H)
   (hs:∀ i c σ H,z.cps.toList[i]? = some c → Pv i σ H → g (.str ⟨#[c]⟩) σ H fun σ2 H2 => tb { D with nx:=Pv (i + 1),ct:=Pv (i + 1),bk:=D.nx } σ2 H2) (hd:∀ σ H,Pv z.cps.toList.length σ H → D.nx σ H):nH (Its z) g tb D σ H :=
 bX0 Pv h0 hs hd
theorem jF (Pv:Nat → St → Hp → Prop) (h0:Pv 0 σ H)
   (hs:∀ i σ H,i < n → Pv i σ H → g (.int (lo + i)) σ H fun σ2 H2 => tb { D with nx:=Pv (i + 1),ct:=Pv (i + 1),bk:=D.nx } σ2 H2) (hd:∀ σ H,Pv n σ H → D.nx σ H):nH (Itr lo n) g tb D σ H :=
 aQE Pv h0 hs hd
end
theorem lA {x:Str} {T:String} (hg:Gl X x) (hm:X.mg x = none) (hv:bootBuiltins x = some (.type T)) (hn:x ≠ "__name__" := by decide) (hd:(x == ("__debug__" : Str)) = false:=by decide):PE X (.Name x pos) (tC (.ty T)):=bXF hg hm hv rfl hn hd
end
end L2
set_option maxHeartbeats 4000000
namespace L2
open PySem PySem.Spec PyProof.Rows
section
variable {K:PySem.W.Frag} {σ:St} {H:Hp} {Q:VK} {QB:Bool → Hp → Prop} {QA:List V → Hp → Prop} {QO:Option Int → Hp → Prop} {D:Ends} {t u:TS} {te ta tb tc:TE} {tt tu:TT} {tA:TA} {r r':R2} {x y v:V} {i j:Int} {z z':Str} {p q:Addr} {xs ys vs:List V} {k n:Nat}
theorem cJR (h:t { D with nx:=u D } σ H):cJG t u D σ H:=h
theorem bJ5 (h:D.nx σ H):bZ2 D σ H:=h
theorem dQ2 {c:TT} (h:c σ H fun b H1 => if b = true then t D σ H1 else u D σ H1):cZ6 c t u D σ H:=h
theorem cZ1 (h:te σ H D.rt):dQA te D σ H:=h
theorem bJW (h:te σ H fun _ H1 => D.nx σ H1):bZV te D σ H:=h
theorem cZ3 {g:TG} (h:te σ H fun x H1 => g x σ H1 D.nx):aJS te g D σ H:=h
theorem dQD {wi:TI} {g:TG} {tb:TS} (h:wi σ H fun J H1 => nH J g tb D σ H1):aJD wi g tb D σ H:=h
theorem qK {QS:St → Hp → Prop} (h:QS (σ.set k (some v)) H):iI k v σ H QS:=h
theorem cZX (e:σ[k]? = some (some v)) (h:Q v H):bX9 k σ H Q:=by unfold bX9; rw [e]; exact h
theorem s_c (h:Q v H):tC v σ H Q:=h
theorem dQO (h:ta σ H fun x H1 => tb σ H1 fun y H2 => r x y H2 Q):tOp r ta tb σ H Q:=h
theorem dQX {ru:V → Hp → VK → Prop} (h:ta σ H fun x H1 => ru x H1 Q):tUn ru ta σ H Q:=h
theorem cJY (h:QA [] H):bQH σ H QA:=h
theorem cXA {tr:TA} (h:ta σ H fun x H1 => tr σ H1 fun xs H2 => QA (x :: xs) H2):aXC ta tr σ H QA:=h
theorem cJQ (h:tA σ H fun xs H1 => xs.length ≤ sizeLine ∧ ∀ p,H1 p = none → Q (.ref p) (upd H1 p (.lst xs))):cJT tA σ H Q:=h
theorem cZF (h:tA σ H fun xs H1 => xs.length ≤ sizeLine ∧ ∀ p,H1 p = none → Q (.ref p) (upd H1 p (.tup xs))):cZ7 tA σ H Q:=h
theorem bJS {sp:Sp} {E:XK} (h:tA σ H fun vs H1 => sp (vs ++ []) H1 Q E):sM sp [] E tA σ H Q:=h
theorem dQ5 {rc:List V → Hp → VK → Prop} (h:tA σ H fun vs H1 => rc vs H1 Q):tCB rc tA σ H Q:=h
theorem dQN {rs:V → Option Int → Option Int → Hp → VK → Prop} {tl th:TO} (h:te σ H fun x H1 => tl σ H1 fun l H2 => th σ H2 fun u H3 => rs x l u H3 Q):tSl rs te tl th σ H Q:=h
theorem aXA (h:QO none H):qN σ H QO:=h
theorem cQS (h:te σ H (pK QO)):bJC te σ H QO:=h
theorem aX2 (h:QO (some i) H):pK QO (.int i) H:=h
theorem bJH {T:String} {rm:V → List V → Hp → VK → Prop} {to:TE} (h:to σ H fun x H1 => vI T x H1 (tA σ H1 fun xs H2 => rm x xs H2 Q)):bJD T rm to tA σ H Q:=h
theorem cX8 {P:Prop} (h:P):vI "str" (.str z) H P:=⟨rfl,h⟩
theorem cZN {P:Prop} (e:rdL H p = some xs) (h:P):vI "list" (.ref p) H P:=by unfold vI; simp only [e]; exact ⟨trivial,h⟩
theorem cXI (h:te σ H (mB QB)):bZR te σ H QB:=h
theorem bQM (h:te σ H (aQ3 QB)):aXM te σ H QB:=h
theorem dQR {b:Bool} (h:QB b H):mB QB (.bl b) H:=h
theorem cQC {b:Bool} (h:QB b H):aQ3 QB (.bl b) H:=h
theorem cJF (h:tt σ H fun c H1 => if c = true then tu σ H1 QB else QB false H1):dQB tt tu σ H QB:=h
theorem dQZ (h:tt σ H fun c H1 => if c = true then QB true H1 else tu σ H1 QB):tOr tt tu σ H QB:=h
theorem cZV (h:tt σ H fun c H1 => QB (!c) H1):cZA tt σ H QB:=h
theorem dQ3 {g:Int → Int → V} (h:Q (g i j) H):mI g (.int i) (.int j) H Q:=h
theorem dQL {C:Int → Int → Prop} {g:Int → Int → V} (c:C i j) (h:Q (g i j) H):mIC C g (.int i) (.int j) H Q:=⟨c,h⟩
theorem cXB (h:Q (.int (i + j)) H):zC (.int i) (.int j) H Q:=h
theorem bJO (c:z.length + z'.length ≤ sizeLine) (h:Q (.str (z ++ z')) H):zC (.str z) (.str z') H Q:=⟨c,h⟩
theorem cQN (e:eT H p = some xs) (e':eT H q = some ys) (c:xs.length + ys.length ≤ sizeLine) (h:∀ r,H r = none → Q (.ref r) (upd H r (.lst (xs ++ ys)))):zC (.ref p) (.ref q) H Q:=by
 unfold zC; simp only [e,e']; exact ⟨c,h⟩
theorem cJE (h:Q (.bl (decide (z = z'))) H):mEq (.str z) (.str z') H Q:=⟨rfl,by
 rw [show decide (V.str z = V.str z') = decide (z = z') by simp]; exact h⟩
theorem dQK (h:Q (.bl (!decide (i = j))) H):mNe (.int i) (.int j) H Q:=⟨rfl,by
 rw [show decide (V.int i = V.int j) = decide (i = j) by simp]; exact h⟩
theorem bJA {neg:Bool} (e:rdL H p = some xs) (e':rdL H q = some ys) (f:xs.all aW = true) (f':ys.all aW = true) (h:Q (.bl (if neg then !gL xs ys else gL xs ys)) H):yY neg (.ref p) (.ref q) H Q:=by
 unfold yY; simp only [e,e']; exact ⟨f,f',h⟩
theorem bJ7 (h:Q (.bl (!decide (x = .non))) H):aJM x .non H Q:=h
theorem aQ8 {neg:Bool} (e:rdL H p = some xs) (f:aW x = true) (f':xs.all aW = true) (h:Q (.bl (if neg then !inV x xs else inV x xs)) H):yM neg x (.ref p) H Q:=by
 unfold yM; simp only [e]; exact ⟨f,f',h⟩
theorem iP {c:Nat} (l:z.length ≤ sizeLine) (e:atI z.cps.toList i = some c) (h:Q (.str ⟨#[c]⟩) H):mIx (.str z) (.int i) H Q:=by
 unfold mIx; simp only [e]; exact ⟨l,h⟩
theorem jC (e:rdL H p = some xs) (e':atI xs i = some v) (h:Q v H):mIx (.ref p) (.int i) H Q:=by
 unfold mIx; simp only [e,e']; exact h
theorem cZQ {lo hi:Option Int} (e:rdL H p = some xs) (h:∀ r,H r = none → Q (.ref r) (upd H r (.lst (jY xs lo hi)))):mSl (.ref p) lo hi H Q:=by
 unfold mSl; simp only [e]; exact h
theorem bJ9 (l:z.length ≤ sizeLine) (h:Q (.int z.length) H):aQ6 [.str z] H Q:=⟨l,h⟩
theorem cXF (e:rdL H p = some xs) (h:Q (.int xs.length) H):aQ6 [.ref p] H Q:=by unfold aQ6; simp only [e]; exact h
theorem dQJ (h:Q (.int (if j < i then j else i)) H):aJC [.int i,.int j] H Q:=h
theorem aZZ (e:PySem.intText? z = some i) (l:z.length ≤ 640) (h:Q (.int i) H):bQE [.str z] H Q:=by unfold bQE; simp only [e]; exact ⟨l,h⟩
theorem cXN (e:rdL H p = some xs) (h:∀ l,H l = none → Q (.ref l) (upd H l (.lst xs))):wU [.ref p] H Q:=by unfold wU; simp only [e]; exact h
theorem cZ2 (e:eT H p = some xs) (l:xs.length < sizeLine) (h:Q .non (upd H p (.lst (xs ++ [v])))):bQI (.ref p) [v] H Q:=by unfold bQI; simp only [e]; exact ⟨l,h⟩
theorem cZH {T t:String} {b:Bool} (e:tyN x H = some t) (e':zS t T = some b) (h:Q (.bl b) H):bX3 [x,.ty T] H Q:=by
 unfold bX3; simp only [e,e']; exact h
theorem bQ4 {tl:TE} {R:It → Hp → Prop} (h:tl σ H (eG fun a H1 => onL (rdL H1 a) (R (Itl K a) H1))):aZB K tl σ H R:=h
theorem bZE {R:Addr → Hp → Prop} (h:R p H):eG R (.ref p) H:=h
theorem cJA {P:Prop} (e:rdL H p = some xs) (h:P):onL (rdL H p) P:=by unfold onL; simp only [e]; exact h
theorem cXG {tl:TE} {R:It → Hp → Prop} (h:tl σ H (tK fun z H1 => R (Its z) H1)):cJV tl σ H R:=h
theorem bXC {R:Str → Hp → Prop} (h:R z H):tK R (.str z) H:=h
theorem bXK {R:It → Hp → Prop} (h:tA σ H (aZI fun j H1 => (-(2 ^ 62) ≤ j ∧ j < 2 ^ 62) ∧ R (Itr 0 j.toNat) H1)):bZL tA σ H R:=h
theorem bQ3 {R:It → Hp → Prop} (h:tA σ H (aJH fun i j H1 => (-(2 ^ 62) ≤ i ∧ i < 2 ^ 62 ∧ -(2 ^ 62) ≤ j ∧ j < 2 ^ 62) ∧ R (Itr i (j - i).toNat) H1)):aZN tA σ H R:=h
theorem cQP {R:Int → Hp → Prop} (h:R i H):aZI R [.int i] H:=h
theorem bJZ {R:Int → Int → Hp → Prop} (h:R i j H):aJH R [.int i,.int j] H:=h
end
theorem aXP {α:Type} {xs:List α} {i:Int} (h0:0 ≤ i) (h1:i < xs.length):∃ v,atI xs i = some v ∧ xs[i.toNat]? = some v:=by
 have hk:i.toNat < xs.length:=by omega
 have e:i = ((i.toNat:Nat):Int):=by omega
 have q:atI xs ((i.toNat:Nat):Int) = some xs[i.toNat]:=dZ (Ab hk)
 rw [← e] at q
 exact ⟨xs[i.toNat],q,Ab hk⟩
theorem bA {n:Nat} (h:n ≤ 100000):n ≤ sizeLine:=Bg h (by decide)
theorem bD {n:Nat} (h:n ≤ 100000):n < sizeLine:=Gu h (by decide)
end L2
namespace L2
open PySem PySem.Spec PyProof.Rows
def Cal (P:Program) (w:World) (K:PySem.W.Frag) (mg:Str → Option Value) (base:Heap) (k:Nat) (x:Str) (ps:List Str) (sp:Sp):Prop :=
 ∃ (f:Addr) (fd:FuncData),FnOk P w K mg base CX0 k f fd ps sp ∧ mg x = some (.ref f) ∧ PySem.W.keepIn K (.ref f) = true ∧ Binds K fd ps []
section
variable {X:Cx} {k k':Nat} {ps:List Str} {sp:Sp} {x:Str} {p pos:Pos} {e:Expr} {es:List Expr} {t:TA} {K:PySem.W.Frag} {H:Hp} {Q:VK} {xs:List V} {v:V} {i:Int} {a:Addr}
theorem cH (c:Cal X.prog X.w X.K X.mg X.base k x ps sp) (hr:Room k' X.A) (hk:k ≤ k') (hg:Gl X x)
   (ha:PA X (e :: es) t) (hdb:(x == ("__debug__" : Str)) = false:=by decide) (he:starEach (e :: es) X.env = (false,eval e X.env) :: starEach es X.env:=by rfl) (hpl:(backTo pos (starEach es X.env)).any (·.1) = false:=by rfl) :
   PE X (.Call (.Name x p) (e :: es) [] pos) (sM sp [] E0 t):=by
 obtain ⟨f,fd,F,hm,hk',hb⟩:=c
 exact wQ F (hr.mono hk) hg hm hk' hb .nil cX5 ha hdb he hpl
theorem qZ {z:Str} (hg:Gl X x) (h:∃ t,X.mg x = some (.str z t)) (hd:(x == ("__debug__" : Str)) = false:=by decide):PE X (.Name x pos) (tC (.str z)):=by
 obtain ⟨t,h⟩:=h
 exact bQP hg h ⟨t,rfl⟩ hd
theorem cJK {lo hi:Option Int} (e:SqL K H a xs) (h:∀ r,H r = none → Q (.ref r) (upd H r (.lst (jY xs lo hi)))):dQI K (.ref a) lo hi H Q:=⟨a,xs,rfl,e,h⟩
theorem cZ4 (e:SqL K H a xs) (e':atI xs i = some v) (h:Q v H):bJJ K (.ref a) (.int i) H Q:=⟨a,xs,i,v,rfl,rfl,e,e',h⟩
end
end L2
namespace L2
open PySem PySem.Spec PyProof.Rows
theorem dH:bootBuiltins "len" = some (.builtin "len"):=by decide +kernel
theorem cM:bootBuiltins "isinstance" = some (.builtin "isinstance"):=by decide +kernel
theorem aXI:bootBuiltins "min" = some (.builtin "min"):=by decide +kernel
theorem cQF:bootBuiltins "sum" = some (.builtin "sum"):=by decide +kernel
theorem jS:bootBuiltins "sorted" = some (.builtin "sorted"):=by decide +kernel
theorem bZB:bootBuiltins "bool" = some (.type "bool"):=by decide +kernel
theorem aZ8:bootBuiltins "int" = some (.type "int"):=by decide +kernel
theorem aZS:bootBuiltins "str" = some (.type "str"):=by decide +kernel
theorem dD:bootBuiltins "list" = some (.type "list"):=by decide +kernel
theorem qM:bootBuiltins "dict" = some (.type "dict"):=by decide +kernel
theorem rN:bootBuiltins "range" = some (.type "range"):=by decide +kernel
end L2
namespace L2
theorem dQF {A B:Prop} (h:B):if (!true) = true then A else B:=h
end L2
namespace L2
open PySem PySem.Spec PyProof.Rows
theorem bJ2 {X:Cx} {x:Str} {j:Nat} {pos:Pos} {es:List Expr} {t:TA} (h:PA X es t):PA X (.Constant (.str x) j pos :: es) (aXC (tC (.str x)) t):=aA pV h rfl
end L2
set_option maxHeartbeats 4000000
namespace L2
open PySem PySem.Spec PyProof.Rows
theorem mG {prog:Program} {w:World} {A:Around} {R:Result → Shared → Prop} {s:Shared} {elt target iter:Expr} {ifs:List Expr} {scope:Scope} {pos:Pos} {it acc:Value} {env:Env} (I:Nat → Shared → Prop)
   (turn:∀ n s,I n s → wpAny (model prog w) A (pyNext it) (fun r s₁ => match r with
     | none => R (.ok .next) s₁
     | some v => wpAny (model prog w) A (letOwnedTupleGo target it v) (fun _ s₁' => wpAny (model prog w) A (assign target env v) (fun _ s₂ =>
         wpAny (model prog w) A (forIn ifs true fun c r => if r = true then do let ok ← isTrue c env (eval c env); pure (ForInStep.yield ok) else pure (ForInStep.yield r)) (fun ok s₃ =>
           if ok = true then wpAny (model prog w) A (eval elt env) (fun x s₄ =>
             wpAny (model prog w) A (call (.builtin "list.append") [acc,x]) (fun _ s₅ => ∃ m,m < n ∧ I m s₅) (fun _ _ => False) s₄) (fun _ _ => False) s₃
           else ∃ m,m < n ∧ I m s₃) (fun _ _ => False) s₂) (fun _ _ => False) s₁') (fun _ _ => False) s₁) (fun _ _ => False) s)
   (n:Nat) (h:I n s) :
   codeAny (model prog w) A (.compLoop (.ListComp elt [⟨target,iter,ifs,0⟩] scope pos) 0 it acc env) R s:=by
 refine codeAny_loop rfl I (fun n s hI => ?_) n h
 show wpAny _ A ((compTurn (.ListComp elt [⟨target,iter,ifs,0⟩] scope pos) 0 it acc env).onRaise (fun x => do noteFrame x env; theTreesLotGoes x)) _ _ s
 refine wpAny_noted ?_
 rw [compTurn_list]
 refine Aa (Hn (Aa (Bw (turn n s hI) (fun r s₁ h₁ => ?_) fun _ _ h' => h'.elim)))
 cases r with
 | none => exact Ae h₁
 | some v =>
   refine Aa (Bw h₁ (fun _ s₁' h₁' => ?_) fun _ _ h' => h'.elim)
   refine Aa (Bw h₁' (fun _ s₂ h₂ => Aa (Bw h₂ (fun ok s₃ h₃ => ?_) fun _ _ h' => h'.elim)) fun _ _ h' => h'.elim)
   cases ok with
   | false => exact Ae ⟨rfl,h₃⟩
   | true =>
     exact Aa (Aa (Bw h₃ (fun x s₄ h₄ => Aa (Bw h₄ (fun _ s₅ h₅ => Ae (Ae ⟨rfl,h₅⟩)) fun _ _ h' => h'.elim)) fun _ _ h' => h'.elim))
def cxC (X:Cx) (N:List Str) (scope:Scope) (cl:List (Str × Addr)) (C:Addr) (s₀:Shared) (H₀:Hp) (ex:List Addr):Cx :=
 { prog:=X.prog,w:=X.w,K:=X.K,mg:=X.mg,base:=X.base,A:=X.A,N:=N,s₀:=s₀,H₀:=H₀,env:=compEnvC scope cl C X.env,outer:=X.stack,stack:=X.stack,ex:=ex,fn:=fun _ => false,calm:=X.calm,pn:=[],xe:=fun _ _ => False }
structure ClOk (X:Cx) (N:List Str) (scope:Scope) (cl:List (Str × Addr)) (vals:St → St):Prop where
 clos:closureFor scope X.env = pure cl
 sub:∀ x c,cl.lookup x = some c → X.env.cells.lookup x = some c
 has:∀ x,((relabel scope X.env).names.lookup x = some .cell ∨ (relabel scope X.env).names.lookup x = some .free) → ∃ c,cl.lookup x = some c
 len:∀ σ,(vals σ).length = N.length
 val:∀ σ (i:Nat) x v,N[i]? = some x → (vals σ)[i]? = some (some v) → ∃ (j:Nat),X.N[j]? = some x ∧ σ[j]? = some (some v) ∧ X.env.scope.names.lookup x = some .cell ∧ (∃ c,cl.lookup x = some c) ∧ (relabel scope X.env).names.lookup x = some .cell
def PF (X:Cx) (ifs:List Expr) (t:TT):Prop:=∀ (pins:List (Addr × Obj)) (s:Shared) (σ:St) (H:Hp) (Q:Bool → Hp → Prop),Inv X pins σ H s → t σ H Q →
 wpAny (model X.prog X.w) X.A (forIn ifs true fun c r => if r = true then do let ok ← isTrue c X.env (eval c X.env); pure (ForInStep.yield ok) else pure (ForInStep.yield r)) (TP X pins σ Q) X.xe s
def cZD:TT:=fun _ H Q => Q true H
theorem pE {X:Cx}:PF X [] cZD:=fun pins s σ H Q I q => wpAny_tests_nil ⟨H,I,q⟩
theorem mQ {X:Cx} {c:Expr} {t:TT} (h:PT X c t):PF X [c] t:=fun pins s σ H Q I q => wpAny_tests_one (h pins s σ H Q I q)
section
variable {X:Cx} {pins:List (Addr × Obj)} {σ:St} {H2:Hp} {s2:Shared} {N:List Str} {scope:Scope} {cl:List (Str × Addr)} {vals:St → St} {C:Addr} {fp:List Addr}
theorem lW {h1:Heap} {t1:Nat} (I:Inv X pins σ H2 s2) (ck:ClOk X N scope cl vals) (hkind:scope.kind = .function) (hf:∀ b ∈ fp,dL X pins H2 b) (hlt:∀ b ∈ fp,b < s2.heap.objs.size)
   (hns:h1.Ns s2.heap.objs.size fun _ => none) (hsb:Heap.SameBut s2.heap.objs.size (s2.heap.push { cls:=.type "dict",data:=.dict #[] }) h1) :
   Inv (cxC X N scope cl s2.heap.objs.size s2 H2 fp) [] (vals σ) H2 { s2 with heap:=h1,toks:=t1 }:=by
 have old:∀ b o,s2.heap.get? b = some o → h1.get? b = some o:=fun b o e => (hsb.2 b (Av (Ak e))).trans (Ad _ e)
 have hC:H2 s2.heap.objs.size = none:=I.hok.fresh (Ai _)
 refine ⟨⟨I.ok.mod,hkind,I.ok.glob,I.ok.blt,Ai _,fun x y c h1 h2 => I.ok.inj x y c (ck.sub x c h1) (ck.sub y c h2),ck.has,(fun x c h => nomatch h),I.ok.hd,I.ok.frames,.inl rfl,fun b hb => ⟨Av (hlt b hb),fun x c e => (hf b hb).2.2.2.2.1 x c (ck.sub x c e)⟩,
   I.bs,Nat.le_trans I.ok.bsz I.sz,fun b o e hb => ?_,fun b hb hs => ?_,I.stack,I.stkFree⟩,rfl,I.bare,Un.kept old,⟨_,hns,fun i x v e1 e2 _ => ?_⟩,fun x c e => ?_,hC,fun x c e => I.freeC x c (ck.sub x c e),fun p hp => absurd (show p ∈ ([]:List (Addr × Obj)) from hp) (by simp),I.hok.kept old,ck.len σ⟩
 · rcases (hf b hb).2.2.2.1 with z | z
   · exact I.ok.noex b o e z
   · exact absurd (Bb (Ak e) (Bg I.ok.bsz z)) (Cv _)
 · rcases Be.mp (I.stkSub b hs) with z | z
   · exact (hf b hb).2.1 z
   · exact (hf b hb).2.2.1 z
 · obtain ⟨j,h1,h2,h3,⟨c,h4⟩,h5⟩:=ck.val σ i x v e1 e2
   obtain ⟨m,hn,hl⟩:=I.loc
   obtain ⟨u,r,l⟩:=hl j x v h1 h2 (.inr (.inl h3))
   refine ⟨u,r,.inr ⟨.inl h5,c,h4,?_⟩⟩
   rcases l with ⟨z,_⟩ | ⟨_,c',e',z⟩
   · have z':X.env.scope.names.lookup x = some .local:=z
     rw [h3] at z'; cases z'
   · rw [ck.sub x c h4] at e'
     cases e'
     obtain ⟨o,ho,hd⟩:=z
     exact ⟨o,old _ o ho,hd⟩
 · obtain ⟨v,o,ho,hd⟩:=I.cell x c (ck.sub x c e)
   exact ⟨v,o,old _ o ho,hd⟩
theorem nT {σ':St} {H':Hp} {s':Shared} {h'':Heap} {pins':List (Addr × Obj)} (I:Inv X pins σ H2 s2) (hf:∀ b ∈ fp,dL X pins H2 b)
   (I':Inv (cxC X N scope cl s2.heap.objs.size s2 H2 fp) pins' σ' H' s') (hsb:Heap.SameBut s2.heap.objs.size s'.heap h''):Inv X pins σ H' { s' with heap:=h'' }:=by
 have u1:Un (frs X.stack) (s2.heap.objs.size :: fp) H2 H' s2.heap s'.heap:=I'.base.mono (fun _ z => z) fun b z => Am _ z
 have hC:H' s2.heap.objs.size = none:=I'.free
 have k:∀ b o,b ≠ s2.heap.objs.size → s'.heap.get? b = some o → h''.get? b = some o:=fun b o hb e => (hsb.2 b hb).trans e
 have u2:Un (frs X.stack) (s2.heap.objs.size :: fp) H' H' s'.heap h'':=⟨fun b o e _ _ hx => k b o (fun z => hx (by simp [z])) e,fun b o e _ _ hx => ⟨o.slots,k b o (fun z => hx (by simp [z])) e⟩,fun _ _ _ n _ => n,
   fun b o e hx => ⟨o,k b o (fun z => hx (by simp [z])) e⟩,fun _ _ e => e,fun _ _ _ e => e,fun b ps e => ⟨#[],by rw [e]; simp⟩⟩
 have hok:HOk X.prog X.w H' h'':=fun b u e => by
   have nC:∀ c v,H' c = some v → c ≠ s2.heap.objs.size:=fun c v e z => by rw [z,hC] at e; cases e
   refine (I'.hok b u e).stay (fun c v hc q => k c v ?_ q) (fun _ q => q) fun _ _ q => q
   rcases hc with z | z
   · rw [z]; exact nC b u e
   · exact nC c _ z
 refine I.call' (s':={ s' with heap:=h'' }) (ch:=s2.heap.objs.size :: fp) I'.os (u1.trans u2) hok I'.bare fun b hb => ?_
 have q:dL X pins H2 b:=by
   rcases Be.mp hb with z | z
   · subst z; exact I.fpOk (Ai _) (I.hok.fresh (Ai _))
   · exact hf b z
 exact ⟨q.2.2.2.1,q.2.1,q.2.2.2.2.1,q.2.2.2.2.2⟩
end
def Wk (σ0 σ:St):Prop:=σ0.length = σ.length ∧ ∀ (i:Nat) v,σ0[i]? = some (some v) → σ[i]? = some (some v)
theorem Wk.refl (σ:St):Wk σ σ:=⟨rfl,fun _ _ h => h⟩
theorem Wk.set {σ0 σ:St} {k:Nat} {v:V} (h:σ0[k]? = some none) (w:Wk σ0 σ):Wk σ0 (σ.set k (some v)):=by
 refine ⟨by rw [List.length_set]; exact w.1,fun i u e => ?_⟩
 have ne:k ≠ i:=fun z => by subst z; rw [h] at e; cases e
 rw [Ga ne]
 exact w.2 i u e
def eL (g:TG) (tests:TT) (te:TE) (σ0:St) (Q:VK) (J:It) (H1:Hp):Prop:=∀ D,H1 D = none → ∃ W:Nat → Nat → Hp → Prop,(∃ m,W 0 m (upd H1 D (.lst []))) ∧ ∀ i m Hc,W i m Hc →
 (J.stop i Hc ∧ Q (.ref D) Hc) ∨ (J.go i Hc ∧ ∀ x H',J.yld i Hc x H' → g x σ0 H' fun σ2 H2 => Wk σ0 σ2 ∧ tests σ2 H2 fun b H3 => if b = true then
   te σ2 H3 fun y H4 => ∃ zs,H4 D = some (.lst zs) ∧ zs.length < sizeLine ∧ ∃ m',m' < m ∧ W (i + 1) m' (upd H4 D (.lst (zs ++ [y]))) else ∃ m',m' < m ∧ W (i + 1) m' H3)
def rP (wi:TI) (g:TG) (tests:TT) (te:TE) (vals:St → St):TE:=fun σ H Q => wi σ H fun J H1 => eL g tests te (vals σ) Q J H1
theorem tS {X:Cx} {pins:List (Addr × Obj)} {σ:St} {H2:Hp} {s2:Shared} {N:List Str} {scope:Scope} {cl:List (Str × Addr)} {vals:St → St} {fp:List Addr} {it:Addr} {tn:Nat → Heap → Prop} {J:It} {tg elt iter:Expr} {ifs:List Expr} {pos:Pos}
   {g:TG} {tests:TT} {te:TE} {Q:VK} {E:Value → Shared → Prop} {RR:Value → Addr → Result → Shared → Prop} (I2:Inv X pins σ H2 s2) (T:Turn X.prog X.w X.K tg J fp it tn) (st2:tn 0 s2.heap) (f2:∀ b ∈ fp,dL X pins H2 b) (hc:X.calm = true)
   (ck:ClOk X N scope cl vals) (hcell:∀ y ∈ scope.names,y.2 ≠ .cell) (hkind:scope.kind = .function)
   (hg:∀ C s₀ H₀ ex,PG (cxC X N scope cl C s₀ H₀ ex) tg g) (ht:∀ C s₀ H₀ ex,PF (cxC X N scope cl C s₀ H₀ ex) ifs tests) (he:∀ C s₀ H₀ ex,PE (cxC X N scope cl C s₀ H₀ ex) elt te)
   (h:eL g tests te (vals σ) Q J H2)
   (hRR:∀ D C s' H' m,s'.heap.Ns C m → Q (.ref D) H' → (∀ h'',Heap.SameBut C s'.heap h'' → Inv X pins σ H' { s' with heap:=h'' }) → dL X pins H' C → RR (.ref D) C (.ok .next) s') :
   wpAny (model X.prog X.w) X.A (newList []) (fun acc s₃ => wpAny (model X.prog X.w) X.A (newFunctionEnv scope X.env.globals cl [] X.env.qual none .none (some X.env)) (fun cenv s₄ =>
     codeAny (model X.prog X.w) X.A (.compStart (.ListComp elt [⟨tg,iter,ifs,0⟩] scope pos) 0 (.ref it) acc { cenv with scope:=relabel scope X.env }) (RR acc cenv.locals) s₄) E s₃) E s2:=by
 have hD:H2 s2.heap.objs.size = none:=I2.hok.fresh (Ai _)
 obtain ⟨W,⟨m0,w0⟩,turn⟩:=h _ hD
 have hlt:∀ b ∈ fp,b < s2.heap.objs.size:=fun b hb => by
   obtain ⟨o,e,_⟩:=T.obj 0 _ st2 b hb
   exact Ak e
 refine Eg ?_
 -- the list is laid
 have I3:Inv X pins σ (upd H2 s2.heap.objs.size (.lst [])) { s2 with heap:=s2.heap.push { cls:=.type "list",dict:=none,data:=.seq ([]:List Value).toArray } } :=
   I2.lnew (ys:=[]) (its:=[]) (t':=s2.toks) .nil (Cq _)
 have f3:∀ b ∈ fp,dL X pins (upd H2 s2.heap.objs.size (.lst [])) b:=fun b hb => ⟨by rw [aH (Av (hlt b hb))]; exact (f2 b hb).1,(f2 b hb).2⟩
 have st3:tn 0 (s2.heap.push { cls:=.type "list",dict:=none,data:=.seq ([]:List Value).toArray }):=T.keep _ _ _ st2 fun b _ o e => Ad _ e
 generalize hs3:({ s2 with heap:=s2.heap.push { cls:=.type "list",dict:=none,data:=.seq ([]:List Value).toArray } }:Shared) = s3 at I3 ⊢
 have e3:s3.heap = s2.heap.push { cls:=.type "list",dict:=none,data:=.seq ([]:List Value).toArray }:=by rw [← hs3]
 rw [← e3] at st3
 have hlt3:∀ b ∈ fp,b < s3.heap.objs.size:=fun b hb => by
   obtain ⟨o,e,_⟩:=T.obj 0 _ st3 b hb
   exact Ak e
 refine wpAny_newFunctionEnv hcell (by intro y hy; simp at hy) (fun h₁ hns₁ hsb₁ => ?_) hkind
 have hns:h₁.Ns s3.heap.objs.size fun _ => none:=hns₁
 have I4:=lW (t1:=s3.toks) I3 ck hkind f3 hlt3 hns hsb₁
 have old:∀ b o,s3.heap.get? b = some o → h₁.get? b = some o:=fun b o e => (hsb₁.2 b (Av (Ak e))).trans (Ad _ e)
 have st4:tn 0 h₁:=T.keep _ _ _ st3 fun b _ o e => old b o e
 have loop:∀ s₄:Shared,s₄ = { s3 with heap:=h₁,toks:=s3.toks } →
     codeAny (model X.prog X.w) X.A (.compLoop (.ListComp elt [⟨tg,iter,ifs,0⟩] scope pos) 0 (.ref it) (.ref s2.heap.objs.size) (compEnvC scope cl s3.heap.objs.size X.env))
       (RR (.ref s2.heap.objs.size) s3.heap.objs.size) s₄:=by
   rintro s₄ rfl
   have fpX:∀ {H':Hp},(∀ b ∈ fp,H' b = none) → ∀ b ∈ fp,dL (cxC X N scope cl s3.heap.objs.size s3 (upd H2 s2.heap.objs.size (.lst [])) fp) [] H' b:=fun hn b hb =>
     ⟨hn b hb,Nat.ne_of_lt (hlt3 b hb),fun hs => I4.ok.exfs b hb hs,.inl hb,fun x c e => (I4.ok.exf b hb).2 x c e,fun p hp => absurd (show p ∈ ([]:List (Addr × Obj)) from hp) (by simp)⟩
   refine mG (fun n s' => ∃ i H',Inv (cxC X N scope cl s3.heap.objs.size s3 (upd H2 s2.heap.objs.size (.lst [])) fp) [] (vals σ) H' s' ∧ tn i s'.heap ∧ (∀ b ∈ fp,H' b = none) ∧ W i n H') ?_ m0
     ⟨0,_,I4,st4,fun b hb => (f3 b hb).1,w0⟩
   rintro n s5 ⟨i,H5,I5,st5,fr5,w5⟩
   rcases turn i n H5 w5 with ⟨stop,q⟩ | ⟨go,step⟩
   · refine thn (T.done (cxC X N scope cl s3.heap.objs.size s3 (upd H2 s2.heap.objs.size (.lst [])) fp) rfl rfl rfl hc i [] s5 (vals σ) H5 (fun _ _ => False) I5 (fpX fr5) st5 stop) fun r s6 ⟨hr,I6⟩ => ?_
     subst hr
     obtain ⟨m,hn,_⟩:=id I6.loc
     exact hRR _ _ s6 H5 m hn q (fun h'' hsb => nT I3 f3 I6 hsb) (I3.fpOk (Ai _) I6.free)
   · refine thn (T.item (cxC X N scope cl s3.heap.objs.size s3 (upd H2 s2.heap.objs.size (.lst [])) fp) rfl rfl rfl hc i [] s5 (vals σ) H5 (fun _ _ => False) I5 (fpX fr5) st5 go) fun r s6 ⟨u,hr,h6⟩ => ?_
     subst hr
     refine thn h6 fun _ s7 ⟨x,H7,I7,r7,y7,st7,fr7⟩ => ?_
     have I7':=I7.pinned (fpX fr7) (T.obj _ _ st7)
     refine thn (hg _ _ _ _ _ s7 (vals σ) H7 x u _ I7' r7 (step x H7 y7)) fun _ s8 ⟨σ8,H8,I8,wk8,q8⟩ => ?_
     refine thn (ht _ _ _ _ _ s8 σ8 H8 _ I8 q8) fun b s9 ⟨H9,I9,q9⟩ => ?_
     have again:∀ {m':Nat} {s':Shared} {H':Hp},Inv (cxC X N scope cl s3.heap.objs.size s3 (upd H2 s2.heap.objs.size (.lst [])) fp) ([] ++ eY fp s7.heap) σ8 H' s' → m' < n → W (i + 1) m' H' →
         ∃ m,m < n ∧ ∃ i H',Inv (cxC X N scope cl s3.heap.objs.size s3 (upd H2 s2.heap.objs.size (.lst [])) fp) [] (vals σ) H' s' ∧ tn i s'.heap ∧ (∀ b ∈ fp,H' b = none) ∧ W i m H':=fun {m' s' H'} J7 hm w7 => by
       refine ⟨m',hm,i + 1,H',(J7.weak wk8.1 wk8.2).unpinned,T.keep _ _ _ st7 fun b hb o e => (J7.pin (b,o) (Az _ (Az _ (cB hb e)))).1,fun b hb => ?_,w7⟩
       obtain ⟨o,e,d⟩:=T.obj _ _ st7 b hb
       exact (J7.pin (b,o) (Az _ (Az _ (cB hb e)))).2.1
     cases b with
     | true =>
       rw [if_pos rfl] at q9 ⊢
       refine thn (he _ _ _ _ _ s9 σ8 H9 _ I9 q9) fun v s10 ⟨y,H10,I10,r10,zs,hz,hl,m',hm,w10⟩ => ?_
       have ap:=jX ([] ++ eY fp s7.heap) s10 σ8 H10 (.ref s2.heap.objs.size) [y] (.ref s2.heap.objs.size) [v] (fun _ H' => H' = upd H10 s2.heap.objs.size (.lst (zs ++ [y]))) I10 rfl (.cons r10 .nil) ⟨_,_,_,rfl,rfl,hz,hl,rfl⟩
       refine thn ap fun _ s11 ⟨_,H11,I11,_,e11⟩ => ?_
       subst e11
       exact again I11 hm w10
     | false =>
       rw [if_neg Ao] at q9 ⊢
       obtain ⟨m',hm,w9⟩:=q9
       exact again I9 hm w9
 exact codeAny_compStart_list (loop _ rfl) (T.self _ 0 _ _ _ st4 (loop _ rfl))
section
variable {X:Cx} {N:List Str} {scope:Scope} {cl:List (Str × Addr)} {vals:St → St} {tg elt iter:Expr} {ifs:List Expr} {pos spos py:Pos} {wi:TI} {g:TG} {tests:TT} {te:TE}
theorem kW (hc:X.calm = true) (hi:PI X tg iter wi) (ck:ClOk X N scope cl vals) (hcell:∀ y ∈ scope.names,y.2 ≠ .cell) (hkind:scope.kind = .function) (hnames:∀ x ∈ scope.names,x.2 = .local → scope.names.lookup x.1 = some .local)
   (hg:∀ C s₀ H₀ ex,PG (cxC X N scope cl C s₀ H₀ ex) tg g) (ht:∀ C s₀ H₀ ex,PF (cxC X N scope cl C s₀ H₀ ex) ifs tests) (he:∀ C s₀ H₀ ex,PE (cxC X N scope cl C s₀ H₀ ex) elt te)
   (hs:∀ x,foldedSetIterable iter X.env x = pure x:=by intro _; rfl):PE X (.ListComp elt [⟨tg,iter,ifs,0⟩] scope pos) (rP wi g tests te vals):=by
 intro pins s σ H Q I h
 rw [eval_ListComp]
 refine Fc (use:=none) rfl hs ck.clos hkind hnames (thn (hi pins s σ H _ I h) fun v s1 h1 => thn h1 fun itv s2 h2 => ?_)
 obtain ⟨it,fp,tn,J,H2,e,I2,T,st2,f2,q⟩:=h2
 subst e
 refine tS (RR:=fun acc C => compPost (model X.prog X.w) X.A X.xe none (EP X pins σ Q) acc C) I2 T st2 f2 hc ck hcell hkind hg ht he q fun D C s' H' m hn q' back _ => ?_
 exact ⟨m,hn,fun h'' hsb => ⟨.ref D,H',back h'' hsb,rfl,q'⟩⟩
theorem pY {i:Nat} {x:Str} (hN:X.N.Nodup) (hix:X.N[i]? = some x) (hx:Loc X.env.scope x) (hc:X.calm = true) (hi:PI X tg iter wi) (ck:ClOk X N scope cl vals) (hcell:∀ y ∈ scope.names,y.2 ≠ .cell) (hkind:scope.kind = .function)
   (hnames:∀ x ∈ scope.names,x.2 = .local → scope.names.lookup x.1 = some .local)
   (hg:∀ C s₀ H₀ ex,PG (cxC X N scope cl C s₀ H₀ ex) tg g) (ht:∀ C s₀ H₀ ex,PF (cxC X N scope cl C s₀ H₀ ex) ifs tests) (he:∀ C s₀ H₀ ex,PE (cxC X N scope cl C s₀ H₀ ex) elt te)
   (hsw:swapsWith (.ListComp elt [⟨tg,iter,ifs,0⟩] scope pos) (some (.Name x py)) spos.line X.env = pure true:=by rfl)
   (hf:X.fn x = true ∨ X.env.scope.names.lookup x = some .local:=by first | exact .inl rfl | exact .inr rfl | assumption)
   (hs:∀ x,foldedSetIterable iter X.env x = pure x:=by intro _; rfl):PS X (.Assign [.Name x py] (.ListComp elt [⟨tg,iter,ifs,0⟩] scope pos) spos) (aJS (rP wi g tests te vals) (iI i)):=by
 intro pins s σ H D I h
 rw [exec_Assign_Name_used _ _ _ _ hsw]
 refine Aa (Hn (Aa ?_))
 show wpAny _ X.A (do let _ ← comprehension (.ListComp elt [⟨tg,iter,ifs,0⟩] scope pos) scope X.env _ (newList []) false (eval iter X.env) (some (assign (.Name x py) X.env))) _ _ s
 refine Aa (Bw (Fc (use:=some (assign (.Name x py) X.env)) (Q:=fun _ s' => SP X pins D .next s') rfl hs ck.clos hkind hnames
   (thn (hi pins s σ H _ I h) fun v s1 h1 => thn h1 fun itv s2 h2 => ?_)) (fun _ s' hq => Ae (Ae hq)) fun _ _ e => e)
 obtain ⟨it,fp,tn,J,H2,e,I2,T,st2,f2,q⟩:=h2
 subst e
 refine tS (RR:=fun acc C => compPost (model X.prog X.w) X.A X.xe (some (assign (.Name x py) X.env)) (fun _ s' => SP X pins D .next s') acc C) I2 T st2 f2 hc ck hcell hkind hg ht he q fun Dl C s' H' m hn q' back fC => ?_
 show wpAny _ X.A (assign (.Name x py) X.env (.ref Dl)) _ _ s'
 have I':Inv X pins σ H' s':=back s'.heap (Heap.SameBut.refl ..)
 refine wpAny_assign_Name (jR I' hN hix hx (v:=.ref Dl) rfl (fun s'' I'' hsb => ?_) hf)
 obtain ⟨a,hsb,ha⟩:=hsb
 have hCa:C ≠ a:=by
   rcases ha with z | z
   · rw [z]; exact fC.2.1
   · exact fun e => fC.2.2.2.2.1 x a z e.symm
 refine ⟨m,hn.sameBut hsb hCa,fun h3 hsb3 => ?_⟩
 exact ⟨σ.set i (some (.ref Dl)),H',I''.turned (t':=s''.toks) (fun b o hb e => (hsb3.2 b hb).trans e) fC.1 fC.2.1 fC.2.2.2.1 fC.2.2.2.2.1 fC.2.2.2.2.2,q'⟩
theorem cJJ (hfree:∀ x ∈ scope.names,x.2 ≠ .free) (hcell:∀ y ∈ scope.names,y.2 ≠ .cell):ClOk X N scope [] (fun _ => N.map fun _ => none) where
 clos:=closureFor_none hfree
 sub:=fun x c h => nomatch h
 has:=fun x h => by
   have e:(relabel scope X.env).names = scope.names:=by
     show List.map _ scope.names = scope.names
     refine map_eq_self fun y hy => ?_
     obtain ⟨n,k⟩:=y
     have:(k == NameKind.free) = false:=by simpa using hfree _ hy
     simp [this]
   rw [e] at h
   rcases h with h | h
   · exact absurd rfl (hcell _ (Di h))
   · exact absurd rfl (hfree _ (Di h))
 len:=fun σ => by simp
 val:=fun σ i x v h1 h2 => by
   rw [Al] at h2
   cases e:N[i]? with
   | none => rw [e] at h2; cases h2
   | some y => rw [e] at h2; cases h2
end
section
variable {g:TG} {tests:TT} {te:TE} {σ0:St} {Q:VK} {H1:Hp}
theorem aJV {J:It} {xs:List V} {ok:Hp → Prop} (f:V → Option V) (hgo:∀ (i:Nat) H,ok H → i < xs.length → J.go i H) (hst:∀ H,ok H → J.stop xs.length H) (hy:∀ (i:Nat) H x H',ok H → J.yld i H x H' → H' = H ∧ xs[i]? = some x)
   (hok:∀ D ys,H1 D = none → ok (upd H1 D (.lst ys))) (hlen:xs.length < sizeLine)
   (hs:∀ (i:Nat) x Hc (A:VK) (B:Hp → Prop),xs[i]? = some x → ok Hc → (match f x with | some y => A y Hc | none => B Hc) → g x σ0 Hc fun σ2 H2 => Wk σ0 σ2 ∧ tests σ2 H2 fun b H3 => if b = true then te σ2 H3 A else B H3)
   (fin:∀ D,H1 D = none → Q (.ref D) (upd H1 D (.lst (xs.filterMap f)))):eL g tests te σ0 Q J H1:=by
 intro D hD
 refine ⟨fun i m Hc => m = xs.length - i ∧ i ≤ xs.length ∧ Hc = upd H1 D (.lst ((xs.take i).filterMap f)),⟨xs.length,by simp,Nat.zero_le _,by simp⟩,?_⟩
 rintro i m Hc ⟨rfl,hi,rfl⟩
 by_cases hlt:i < xs.length
 · refine .inr ⟨hgo i _ (hok D _ hD) hlt,fun x H' y => ?_⟩
   obtain ⟨e,hx⟩:=hy i _ x H' (hok D _ hD) y
   subst e
   refine hs i x _ _ _ hx (hok D _ hD) ?_
   have tk:xs.take (i + 1) = xs.take i ++ [x]:=by rw [Bq,hx]; rfl
   cases e:f x with
   | some y =>
     refine ⟨_,aB,?_,xs.length - (i + 1),by omega,rfl,hlt,?_⟩
     · have:=Dk f (xs.take i)
       rw [By] at this
       omega
     · rw [bXG,tk,Cf]
       simp [e]
   | none =>
     refine ⟨xs.length - (i + 1),by omega,rfl,hlt,?_⟩
     rw [tk,Cf]
     simp [e]
 · have e:i = xs.length:=by omega
   subst e
   rw [Cj]
   exact .inl ⟨hst _ (hok D _ hD),fin D hD⟩
theorem cXU {z:Str} (f:Nat → Option V) (hl:z.length < sizeLine)
   (hs:∀ (i:Nat) c Hc (A:VK) (B:Hp → Prop),z.cps.toList[i]? = some c → (match f c with | some y => A y Hc | none => B Hc) → g (.str ⟨#[c]⟩) σ0 Hc fun σ2 H2 => Wk σ0 σ2 ∧ tests σ2 H2 fun b H3 => if b = true then te σ2 H3 A else B H3)
   (fin:∀ D,H1 D = none → Q (.ref D) (upd H1 D (.lst (z.cps.toList.filterMap f)))):eL g tests te σ0 Q (Its z) H1:=by
 have hz:z.cps.toList.length = z.length:=by simp [Str.length]
 have hz2:z.cps.size = z.length:=rfl
 refine aJV (xs:=z.cps.toList.map fun c => .str ⟨#[c]⟩) (ok:=fun _ => True) (fun x => match x with | .str y => f (y.cps.toList.headD 0) | _ => none) (fun i H _ h => ?_) (fun H _ => ?_) (fun i H x H' _ y => ?_) (fun _ _ _ => trivial) (by rw [Ac,hz]; exact hl) (fun i x Hc A B hx _ h => ?_) (fun D hD => ?_)
 · rw [Ac,hz] at h; exact h
 · show z.cps.size ≤ _
   rw [Ac,hz]; exact Ai _
 · obtain ⟨e,c,hc,hx⟩:=y
   refine ⟨e,?_⟩
   rw [Al,Bz,hc,hx]; rfl
 · rw [Al] at hx
   cases e:z.cps.toList[i]? with
   | none => rw [e] at hx; cases hx
   | some c => rw [e] at hx; cases hx; exact hs i c Hc A B e h
 · have q:=fin D hD
   rw [List.filterMap_map]
   exact q
end
theorem cQZ {wi:TI} {g:TG} {tests:TT} {te:TE} {vals:St → St} {σ:St} {H:Hp} {Q:VK} (h:wi σ H fun J H1 => eL g tests te (vals σ) Q J H1):rP wi g tests te vals σ H Q:=h
theorem cZB {σ:St} {H:Hp} {Q:Bool → Hp → Prop} (h:Q true H):cZD σ H Q:=h
end L2
set_option maxHeartbeats 4000000
namespace L2
open PySem PySem.Spec PyProof.Rows
def clF (env:Env):List (Str × NameKind) → List (Str × Addr) → List (Str × Addr)
 | [],acc => acc
 | (n,k) :: r,acc => if k == .free then clF env r ((n,(env.cells.lookup n).getD 0) :: acc) else clF env r acc
def aQ1 (ix:List (Option Nat)):St → St:=fun σ => ix.map fun o => match o with | none => none | some j => (σ[j]?).join
def cZW (N XN:List Str) (sn dn:List (Str × NameKind)) (ix:List (Option Nat)):Bool :=
 ix.length == N.length && (sn.all fun y => y.2 != .cell && (y.2 != .free || dn.lookup y.1 == some .cell)) && decide ((sn.map (·.1)).Nodup) &&
 ((List.range N.length).all fun i => match ix[i]? with | some (some j) => N[i]? == XN[j]? && (match N[i]? with | some x => sn.lookup x == some .free | none => false) | _ => true)
theorem qP {env:Env}:∀ (names:List (Str × NameKind)) (acc:List (Str × Addr)),(∀ y ∈ names,y.2 = .free → ∃ c,env.cells.lookup y.1 = some c) →
   (forIn names acc (fun (x:Str × NameKind) (cs:List (Str × Addr)) => (match x with
     | (name,kind) => if (kind == NameKind.free) = true then do
         let a ← cellOf env name
         pure (ForInStep.yield ((name,a) :: cs))
       else pure (ForInStep.yield cs):Sem (ForInStep (List (Str × Addr)))))) = (pure (clF env names acc):Sem (List (Str × Addr)))
 | [],acc,_ => rfl
 | (n,k) :: r,acc,h => by
   rw [List.forIn_cons]
   unfold clF
   cases e:k == NameKind.free with
   | false =>
     simp only [e,Bool.false_eq_true,if_false,pure_bind]
     exact qP r acc fun y hy => h y (Am _ hy)
   | true =>
     obtain ⟨c,hc⟩:=h (n,k) List.mem_cons_self (by simpa using e)
     have hc':env.cells.lookup n = some c:=hc
     simp only [e,if_true,cellOf,hc',Option.getD_some,pure_bind]
     exact qP r _ fun y hy => h y (Am _ hy)
theorem pO {env:Env}:∀ (names:List (Str × NameKind)) (acc:List (Str × Addr)) {x:Str} {c:Addr},(clF env names acc).lookup x = some c →
   acc.lookup x = some c ∨ ((x,NameKind.free) ∈ names ∧ c = (env.cells.lookup x).getD 0)
 | [],acc,x,c,h => .inl h
 | (n,k) :: r,acc,x,c,h => by
   unfold clF at h
   cases e:k == NameKind.free with
   | false =>
     rw [e] at h
     rcases pO r acc (by simpa using h) with z | ⟨z,q⟩
     · exact .inl z
     · exact .inr ⟨Am _ z,q⟩
   | true =>
     rw [e] at h
     have ek:k = .free:=by simpa using e
     rcases pO r _ (by simpa using h) with z | ⟨z,q⟩
     · rw [Ea] at z
       cases ex:x == n with
       | true =>
         rw [ex] at z
         have exn:x = n:=by simpa using ex
         subst exn; subst ek
         cases z
         exact .inr ⟨An,rfl⟩
       | false => rw [ex] at z; exact .inl z
     · exact .inr ⟨Am _ z,q⟩
theorem pU {env:Env}:∀ (names:List (Str × NameKind)) (acc:List (Str × Addr)) {x:Str},(acc.lookup x).isSome = true → ((clF env names acc).lookup x).isSome = true
 | [],acc,x,h => h
 | (n,k) :: r,acc,x,h => by
   unfold clF
   split
   · refine pU r _ ?_
     rw [Ea]
     cases ex:x == n with
     | true => rfl
     | false => exact h
   · exact pU r acc h
theorem kR {env:Env}:∀ (names:List (Str × NameKind)) (acc:List (Str × Addr)) {x:Str},(x,NameKind.free) ∈ names → ((clF env names acc).lookup x).isSome = true
 | (n,k) :: r,acc,x,h => by
   unfold clF
   rcases Be.mp h with z | z
   · cases z
     simp only [beq_self_eq_true,if_true]
     refine pU r _ ?_
     rw [Ea,Hk]
     rfl
   · split
     · exact kR r _ z
     · exact kR r acc z
theorem fE {env:Env} {x:Str}:∀ {names:List (Str × NameKind)} {k':NameKind},(names.map fun (n,k) => if (k == NameKind.free && env.scope.kind == .function && env.kindOf n == some .cell) then (n,NameKind.cell) else (n,k)).lookup x = some k' →
   ∃ k,(x,k) ∈ names ∧ (k' = k ∨ (k = .free ∧ k' = .cell))
 | [],_,h => by simp at h
 | (n,k) :: r,k',h => by
   rw [Ay] at h
   dsimp only at h
   cases hc:(k == NameKind.free && env.scope.kind == .function && env.kindOf n == some .cell) with
   | true =>
     rw [hc,if_pos rfl,Ea] at h
     cases ex:x == n with
     | true =>
       rw [ex] at h
       cases h
       have:x = n:=by simpa using ex
       subst this
       have hk:k = .free:=by
         have:=(Fj _ _).mp hc
         have:=(Fj _ _).mp this.1
         simpa using this.1
       exact ⟨k,An,.inr ⟨hk,rfl⟩⟩
     | false =>
       rw [ex] at h
       obtain ⟨k1,h1,h2⟩:=fE h
       exact ⟨k1,Am _ h1,h2⟩
   | false =>
     rw [hc,if_neg Ao,Ea] at h
     cases ex:x == n with
     | true =>
       rw [ex] at h
       cases h
       have:x = n:=by simpa using ex
       subst this
       exact ⟨k,An,.inl rfl⟩
     | false =>
       rw [ex] at h
       obtain ⟨k1,h1,h2⟩:=fE h
       exact ⟨k1,Am _ h1,h2⟩
theorem kK {env:Env} {x:Str} (hk:env.scope.kind = .function) (hx:env.kindOf x = some .cell):∀ {names:List (Str × NameKind)},names.lookup x = some .free →
   (names.map fun (n,k) => if (k == NameKind.free && env.scope.kind == .function && env.kindOf n == some .cell) then (n,NameKind.cell) else (n,k)).lookup x = some .cell
 | [],h => by simp at h
 | (n,k) :: r,h => by
   rw [Ay]
   dsimp only
   rw [Ea] at h
   cases ex:x == n with
   | true =>
     rw [ex] at h
     cases h
     have:x = n:=by simpa using ex
     subst this
     rw [hk,hx]
     simp [List.lookup_cons]
   | false =>
     rw [ex] at h
     have ih:=kK hk hx h
     split <;> (rw [Ea,ex]; exact ih)
theorem kF {X:Cx} {N:List Str} {scope:Scope} (XN:List Str) (sc:Scope) (ix:List (Option Nat)) (hN:X.N = XN) (hsc:X.env.scope = sc) (hk:sc.kind = .function)
   (hcs:∀ x,sc.names.lookup x = some .cell → ∃ c,X.env.cells.lookup x = some c) (c:cZW N XN scope.names sc.names ix = true):ClOk X N scope (clF X.env scope.names []) (aQ1 ix):=by
 unfold cZW at c
 simp only [Bool.and_eq_true,decide_eq_true_eq,List.all_eq_true,beq_iff_eq] at c
 obtain ⟨⟨⟨c0,c1⟩,c2⟩,c3⟩:=c
 have fr:∀ y,(y,NameKind.free) ∈ scope.names → sc.names.lookup y = some .cell:=fun y hy => by
   have z:=(c1 _ hy).2
   simpa using z
 have nocell:∀ y,(y,NameKind.cell) ∉ scope.names:=fun y hy => by
   have z:=(c1 _ hy).1
   simp at z
 refine ⟨?_,fun x c h => ?_,fun x h => ?_,fun σ => ?_,fun σ i x v h1 h2 => ?_⟩
 · unfold closureFor
   simp only [bind_pure]
   exact qP scope.names [] fun y hy hf => hcs y.1 (fr y.1 (by rw [← hf]; exact hy))
 · rcases pO _ _ h with z | ⟨z,q⟩
   · simp at z
   · obtain ⟨c',e⟩:=hcs x (fr x z)
     rw [q,e]; rfl
 · have:∃ k,(x,k) ∈ scope.names ∧ k = .free:=by
     rcases h with h | h
     · obtain ⟨k,h1,h2⟩:=fE h
       rcases h2 with z | ⟨z,_⟩
       · subst z; exact absurd h1 (nocell x)
       · exact ⟨k,h1,z⟩
     · obtain ⟨k,h1,h2⟩:=fE h
       rcases h2 with z | ⟨z,z2⟩
       · exact ⟨k,h1,z.symm⟩
       · exact ⟨k,h1,z⟩
   obtain ⟨k,h1,rfl⟩:=this
   exact Fb.mp (kR scope.names [] h1)
 · unfold aQ1
   rw [Ac,c0]
 · unfold aQ1 at h2
   rw [Al] at h2
   cases e:ix[i]? with
   | none => rw [e] at h2; cases h2
   | some o =>
     rw [e] at h2
     cases o with
     | none => cases h2
     | some j =>
       have hi:i < N.length:=(Af.mp h1).1
       have z:=c3 i (Bn.mpr hi)
       rw [e,h1] at z
       simp only [Bool.and_eq_true,beq_iff_eq] at z
       have hv:σ[j]? = some (some v):=by
         have h3:(σ[j]?).join = some v:=by simpa using h2
         cases e2:σ[j]? with
         | none => rw [e2] at h3; cases h3
         | some o => rw [e2] at h3; cases o with
           | none => cases h3
           | some u => cases h3; rfl
       have hm:(x,NameKind.free) ∈ scope.names:=Di z.2
       have hx:=fr x hm
       refine ⟨j,by rw [hN]; exact z.1.symm,hv,by rw [hsc]; exact hx,Fb.mp (kR scope.names [] hm),?_⟩
       exact kK (by rw [hsc]; exact hk) (by show X.env.scope.names.lookup x = _; rw [hsc]; exact hx) z.2
end L2
set_option maxHeartbeats 4000000
namespace L2
open PySem PySem.Spec PyProof.Rows
open PySem.AutoSeq1 (wpAny_loadPart')
section
variable {prog:Program} {w:World} {A:Around} {E:Value → Shared → Prop} {s:Shared}
end
theorem kH {prog:Program} {w:World} {A:Around} {it:Addr} {fp:List Addr} {n:Nat} {P:Nat → Value → Prop} {S:Nat → Heap → Prop} (k:Nat) (D:Draws prog w A it fp n P S) :
   Draws prog w A it fp (k + n) (fun j v => P (j - k) v) (fun j h => k ≤ j ∧ S (j - k) h) where
 live:=fun i h st => D.live _ h st.2
 frame:=fun i h h' st kk => ⟨st.1,D.frame _ h h' st.2 kk⟩
 item:=fun i s Q E hi st hQ => D.item (i - k) s Q E (by have:=st.1; omega) st.2 fun x h' tk hP hS sb => hQ x h' tk hP ⟨by have:=st.1; omega,by rw [show i + 1 - k = i - k + 1 by have:=st.1; omega]; exact hS⟩ sb
 done:=fun s Q E st hE => D.done s Q E (by have q:=st.2; rwa [show k + n - k = n by omega] at q) hE
section
variable {X:Cx} {pins:List (Addr × Obj)} {σ:St} {H:Hp} {s:Shared} {h':Heap}
theorem Inv.turnLaid {ch:List Addr} {a:Addr} {o:HO} {t':Nat} (I:Inv X pins σ H s) (hch:∀ b ∈ ch,dL X pins H b) (k:∀ b u,b ∉ ch → s.heap.get? b = some u → h'.get? b = some u) (hp:s.heap.objs.size ≤ a)
   (new:ObjOk X.prog X.w (upd H a o) h' a o):Inv X pins σ (upd H a o) { s with heap:=h',toks:=t' }:=by
 have hn:=I.hok.fresh hp
 have nch:∀ b u,H b = some u → b ∉ ch:=fun b u e z => by rw [(hch b z).1] at e; cases e
 refine I.step (g':=s.gens) (d':=s.drawn) (ch:=ch) (fun b hb => ?_) (fun b o _ _ hc e _ => k b o hc e) (fun b o _ _ hc e _ => ⟨o.slots,k b o hc e⟩) (fun b o _ e n => ?_) (fun b o hc e => ⟨o,k b o hc e⟩)
   (fun b xs e => by rw [aH (aZ e hn)]; exact e) (fun b o u e => by rw [aH (aZ e hn)]; exact e) (fun b ps e => ⟨#[],by rw [aH (aZ e hn),e]; simp⟩) (fun m hm => ?_) (fun b u e => ?_) I.bare
 · obtain ⟨_,q1,_,q3,q4,q5⟩:=hch b hb
   exact ⟨q3,q1,q4,q5⟩
 · rw [aH (Av (Bb (Ak e) hp))]
   exact n
 · obtain ⟨ob,es,ep,ho,r⟩:=hm
   exact ⟨ob,es,ep,k _ ob (fun z => (hch _ z).2.1 rfl) ho,r⟩
 · by_cases hb:b = a
   · subst hb
     rw [aB] at e
     cases e
     exact new
   · rw [aH hb] at e
     refine (I.hok b u e).stay (fun c v hc q => k c v ?_ q) (fun c q => by rw [aH (aZ q hn)]; exact q) fun c xs q => by rw [aH (aZ q hn)]; exact q
     rcases hc with z | z
     · rw [z]; exact nch b u e
     · exact nch c _ z
theorem Inv.turnAll {ch:List Addr} {t':Nat} (I:Inv X pins σ H s) (hch:∀ b ∈ ch,dL X pins H b) (k:∀ b u,b ∉ ch → s.heap.get? b = some u → h'.get? b = some u):Inv X pins σ H { s with heap:=h',toks:=t' }:=by
 have nch:∀ b u,H b = some u → b ∉ ch:=fun b u e z => by rw [(hch b z).1] at e; cases e
 refine I.step (g':=s.gens) (d':=s.drawn) (ch:=ch) (fun b hb => ?_) (fun b o _ _ hc e _ => k b o hc e) (fun b o _ _ hc e _ => ⟨o.slots,k b o hc e⟩) (fun b o _ e n => n) (fun b o hc e => ⟨o,k b o hc e⟩)
   (fun b xs e => e) (fun b o u e => e) (fun b ps e => ⟨#[],by rw [e]; simp⟩) (fun m hm => ?_) (fun b u e => ?_) I.bare
 · obtain ⟨_,q1,_,q3,q4,q5⟩:=hch b hb
   exact ⟨q3,q1,q4,q5⟩
 · obtain ⟨ob,es,ep,ho,r⟩:=hm
   exact ⟨ob,es,ep,k _ ob (fun z => (hch _ z).2.1 rfl) ho,r⟩
 · refine (I.hok b u e).stay (fun c v hc q => k c v ?_ q) (fun c q => q) fun c xs q => q
   rcases hc with z | z
   · rw [z]; exact nch b u e
   · exact nch c _ z
end
def Ite (K:PySem.W.Frag) (a:Addr) (k:Nat):It :=
 ⟨fun i H => ∃ xs x,SqL K H a xs ∧ xs[i]? = some x,fun i H v H' => ∃ p x,H p = none ∧ v = .ref p ∧ H' = upd H p (.tup [.int ((k + i:Nat):Int),x]) ∧ ∀ xs,SqL K H a xs → xs[i]? = some x,fun i H => ∃ xs,SqL K H a xs ∧ xs.length = i⟩
theorem zI {P:Program} {w:World} {K:PySem.W.Frag} {elts:List Expr} {x1:Nat} {tp:Pos} (a e it:Addr) (k:Nat) (hei:e ≠ it) :
   Turn P w K (.Tuple elts x1 tp) (Ite K a k) [e,it] e (fun i h => (∃ old,IsEnum h e it ((k + i:Nat):Int) old) ∧ h.IsListIter it a i) where
 mem:=by simp
 obj:=fun i h st b hb => by
   obtain ⟨⟨old,he⟩,o,ho,c,d⟩:=st
   rcases Be.mp hb with z | z
   · subst z; exact ⟨_,he,fun v z => by cases z⟩
   · rw [Aq.mp z]; exact ⟨o,ho,fun v z => by rw [d] at z; cases z⟩
 keep:=fun i h h' st kk => ⟨let ⟨old,he⟩:=st.1; ⟨old,kk e (by simp) _ he⟩,st.2.at fun o q => kk it (by simp) o q⟩
 item:=by
   intro X hP hw hK hc i pins s σ H E I hf st hg
   subst hP hw hK
   obtain ⟨xs,x,hq,hx⟩:=hg
   obtain ⟨its,rv,p,hz⟩:=I.list hq
   obtain ⟨u,hu,ru⟩:=rv.get hx
   obtain ⟨⟨old,he⟩,hit⟩:=st
   have hai:a ≠ it:=by
     rintro rfl
     obtain ⟨o,ho,c,_⟩:=hit
     obtain ⟨o2,ho2,c2,_⟩:=p.isList
     rw [ho] at ho2; cases ho2
     rw [c] at c2; injection c2 with c2; exact absurd c2 (by decide)
   have hae:a ≠ e:=by
     rintro rfl
     obtain ⟨o2,ho2,c2,_⟩:=p.isList
     rw [he] at ho2; cases ho2
     injection c2 with c2; exact absurd c2 (by decide)
   have hl:=rv.length
   have hil:i < its.length:=(Af.mp hu).1
   have D:=kH k (Draws.list (prog:=X.prog) (w:=X.w) (A:=X.A.in1) (show X.A.in1.handled = none from I.ok.hd hc) it a hai its.toArray)
   refine wpAny_pyNext_enum_itemD D (i:=k + i) he ⟨Gg _ _,by rw [Gy]; exact ⟨hit,p.isList⟩⟩ (by rw [Bu]; omega) hei (fun z => by
     rcases Be.mp z with z | z
     · exact hei z
     · exact hae (Aq.mp z).symm) fun y h1 tk hP ho hS hT hsz kk => ?_
   refine ⟨_,rfl,wpAny_letOwnedTupleGo_enum ho fun h2 he2 hs2 => ?_⟩
   have ey:y = u:=by
     have hP':its.toArray[k + i - k]? = some y:=hP
     rw [Gy] at hP'
     have:its[i]? = some y:=by simpa using hP'
     rw [hu] at this; cases this; rfl
   subst ey
   have hTe:s.heap.objs.size ≠ e:=Fm (Ak he)
   have hTi:s.heap.objs.size ≠ it:=by obtain ⟨o,q,_⟩:=hit; exact Fm (Ak q)
   have hT2:h2.get? s.heap.objs.size = some { cls:=.type "tuple",data:=.seq #[.int ((k + i:Nat):Int) tk,y] }:=(hs2.2 _ hTe).trans hT
   have hS':h1.IsListIter it a (i + 1):=by
     have q:=hS.2.1
     rwa [show k + i + 1 - k = i + 1 by omega] at q
   have I2:Inv X pins σ (upd H s.heap.objs.size (.tup [.int ((k + i:Nat):Int),x])) { s with heap:=h2,toks:=tk + 1 }:=by
     refine I.turnLaid (ch:=[e,it]) hf (fun b u hb q => (hs2.2 b (fun z => hb (by simp [z]))).trans (kk b u (fun z => hb (by simp [z])) (fun z => hb (by simp [z])) q)) (Nat.le_refl _) ⟨bA (by show 2 ≤ _; omega),[.int ((k + i:Nat):Int) tk,y],.cons ⟨tk,rfl⟩ (.cons ru .nil),_,hT2,rfl,_,rfl⟩
   refine ⟨.ref s.heap.objs.size,_,I2,rfl,⟨_,x,I.hok.fresh (Ai _),rfl,rfl,fun ys hy => by rw [I.list_inj hy hq]; exact hx⟩,⟨⟨y,he2⟩,hS'.at fun o q => (hs2.2 it hei.symm).trans q⟩,fun b hb => ?_⟩
   rcases Be.mp hb with z | z
   · rw [z,aH hTe.symm]; exact (hf e (by simp)).1
   · rw [List.mem_singleton.mp z,aH hTi.symm]; exact (hf it (by simp)).1
 done:=by
   intro X hP hw hK hc i pins s σ H E I hf st hg
   subst hP hw hK
   obtain ⟨xs,hq,hx⟩:=hg
   obtain ⟨its,rv,p,hz⟩:=I.list hq
   obtain ⟨⟨old,he⟩,hit⟩:=st
   have hl:=rv.length
   have hai:a ≠ it:=by
     rintro rfl
     obtain ⟨o,ho,c,_⟩:=hit
     obtain ⟨o2,ho2,c2,_⟩:=p.isList
     rw [ho] at ho2; cases ho2
     rw [c] at c2; injection c2 with c2; exact absurd c2 (by decide)
   have D:=kH k (Draws.list (prog:=X.prog) (w:=X.w) (A:=X.A.in1) (show X.A.in1.handled = none from I.ok.hd hc) it a hai its.toArray)
   refine wpAny_pyNext_enum_endD D he ⟨Gg _ _,by rw [Gy,Bu,← hl,hx]; exact ⟨hit,p.isList⟩⟩ fun h' eb => ⟨rfl,?_⟩
   exact I.turnAll (t':=s.toks) (ch:=[e,it]) hf fun b u hb q => eb b u (fun z => hb (by simp [z])) q
 self:=fun _ _ _ _ _ st h => let ⟨⟨_,he⟩,_⟩:=st; wpAny_pyIter_enum he h
section
variable {X:Cx} {l:Expr} {ta tk:TA} {kws:List Keyword} {elts:List Expr} {x1:Nat} {tp p pos kp:Pos}
def aX4 (R:Addr → Hp → Prop):List V → Hp → Prop:=fun vs H => match vs with | [.ref j] => R j H | _ => False
theorem bQY {R:Addr → Hp → Prop} {vs:List V} {H:Hp} (q:aX4 R vs H):∃ j,vs = [.ref j] ∧ R j H:=by
 unfold aX4 at q
 split at q
 · exact ⟨_,rfl,q⟩
 · exact q.elim
def bZ9 (K:PySem.W.Frag) (ta:TA):TI:=fun σ H R => ta σ H (aX4 fun a H1 => onL (rdL H1 a) (R (Ite K a 0) H1))
theorem bX7 {pins:List (Addr × Obj)} {σ:St} {H1:Hp} {s1:Shared} {a:Addr} {k:Nat} {h':Heap} {R:It → Hp → Prop} {E:Value → Shared → Prop} (I1:Inv X pins σ H1 s1) (he:IsEnum h' (s1.heap.objs.size + 1) s1.heap.objs.size ((k:Nat):Int) .none) (hi:h'.IsListIter s1.heap.objs.size a 0) (hz:h'.objs.size = s1.heap.objs.size + 2)
   (hk:∀ b o,s1.heap.get? b = some o → h'.get? b = some o) (q:R (Ite X.K a k) H1):wpAny (model X.prog X.w) X.A (pyIter (.ref (s1.heap.objs.size + 1))) (PIE X pins σ (.Tuple elts x1 tp) R) E { s1 with heap:=h' }:=by
 refine wpAny_pyIter_enum (s:={ s1 with heap:=h' }) he ⟨_,[s1.heap.objs.size + 1,s1.heap.objs.size],_,_,H1,rfl,I1.kept (t':=s1.toks) hk,zI a _ _ k (Nat.succ_ne_self _),⟨⟨_,he⟩,hi⟩,fun b hb => ?_,q⟩
 have z:s1.heap.objs.size ≤ b:=by
   rcases Be.mp hb with z | z
   · rw [z]; exact Nat.le_succ _
   · rw [Aq.mp z]; exact Ai _
 exact I1.fpOk z (I1.hok.fresh z)
theorem qG (hg:Gl X "enumerate") (hm:X.mg "enumerate" = none) (ha:PA X [l] ta) (hs:starEach [l] X.env = [(false,eval l X.env)]:=by rfl) :
   PI X (.Tuple elts x1 tp) (.Call (.Name "enumerate" p) [l] [] pos) (bZ9 X.K ta):=by
 intro pins s σ H R I h
 refine Call_ (fQ I hg hm boot_enumerate (Cz (thn (ha pos pins s σ H _ I h) fun us s1 ⟨vs,H1,I1,r1,q1⟩ => ?_) hs rfl))
 obtain ⟨a,rfl,q⟩:=bQY q1
 obtain ⟨u,rfl,ru⟩:=dQ r1
 cases ru
 unfold onL at q
 split at q
 · rename_i xs ex
   obtain ⟨its,rv,p,hz⟩:=I1.list (aU ex)
   exact call_enumerate_list p.isList fun h' he hi hz hk => bX7 I1 (k:=0) he hi hz hk q
 · exact q.elim
end
section
variable {K:PySem.W.Frag} {a:Addr} {k:Nat} {xs:List V} {g:TG} {tb:TS} {D:Ends} {σ σ0:St} {H H1:Hp} {tests:TT} {te:TE} {Q:VK}
theorem qJ (Pv:Nat → St → Hp → Prop) (h0:Pv 0 σ H) (hl:∀ i σ H,i ≤ xs.length → Pv i σ H → rdL H a = some xs)
   (hs:∀ i x σ H p,xs[i]? = some x → Pv i σ H → H p = none → g (.ref p) σ (upd H p (.tup [.int ((k + i:Nat):Int),x])) fun σ2 H2 => tb { D with nx:=Pv (i + 1),ct:=Pv (i + 1),bk:=D.nx } σ2 H2) (hd:∀ σ H,Pv xs.length σ H → D.nx σ H):nH (Ite K a k) g tb D σ H:=by
 refine ⟨fun i m σ H => m = xs.length - i ∧ i ≤ xs.length ∧ Pv i σ H,⟨xs.length,by simp,Nat.zero_le _,h0⟩,?_⟩
 rintro i m σ H ⟨rfl,hi,p⟩
 have hr:=hl i σ H hi p
 by_cases hlt:i < xs.length
 · refine .inr ⟨⟨xs,xs[i],aU hr,by simp [hlt]⟩,Pv (i + 1),fun σ' H' p' => ⟨xs.length - (i + 1),by omega,rfl,hlt,p'⟩,fun x H' y => ?_⟩
   obtain ⟨q,z,hq,rfl,rfl,hz⟩:=y
   exact hs i z σ H q (hz xs (aU hr)) p hq
 · have e:i = xs.length:=by omega
   subst e
   exact .inl ⟨⟨xs,aU hr,rfl⟩,hd σ H p⟩
theorem bZJ {ta:TA} {R:It → Hp → Prop} (h:ta σ H (aX4 fun a H1 => onL (rdL H1 a) (R (Ite K a 0) H1))):bZ9 K ta σ H R:=h
theorem cQ7 {R:Addr → Hp → Prop} (h:R a H):aX4 R [.ref a] H:=h
end
section
variable {X:Cx}
end
section
variable {K:PySem.W.Frag} {n:Nat} {t:TG} {u:TGs} {v:V} {r xs:List V} {σ:St} {H:Hp} {Q:St → Hp → Prop} {a:Addr}
theorem cQJ (e:iZ H a = some xs) (hn:xs.length = n) (h:u xs σ H Q):aQ9 K n u (.ref a) σ H Q:=⟨a,xs,rfl,.of (kP e),hn,h⟩
theorem bXS (h:t v σ H fun σ' H' => u r σ' H' Q):pA t u (v :: r) σ H Q:=⟨v,r,rfl,h⟩
theorem cXD (h:Q σ H):bQ7 [] σ H Q:=⟨rfl,h⟩
end
theorem kU {X:Cx} {K:PySem.W.Frag} {i j k:Nat} {x y:Str} {px py pos:Pos} (hK:X.K = K) (hc:X.calm = true) (hN:X.N.Nodup) (hi:X.N[i]? = some x) (hx:Loc X.env.scope x) (hfx:X.fn x = true ∨ X.env.scope.names.lookup x = some .local)
   (hj:X.N[j]? = some y) (hy:Loc X.env.scope y) (hfy:X.fn y = true ∨ X.env.scope.names.lookup y = some .local):PG X (.Tuple [.Name x px,.Name y py] k pos) (aQ9 K 2 (pA (iI i) (pA (iI j) bQ7))):=by
 subst hK
 exact cQI hc (iJ (aR hN hi hx hfx) (iJ (aR hN hj hy hfy) xQ))
end L2
set_option maxHeartbeats 4000000
namespace L2
open PySem PySem.Spec PyProof.Rows
structure Fly (B:Heap) (l:List Env) (e:Addr) (cls:Value) (d:Option Addr) (fl:Value) (h:Heap):Prop where
 stays:B.StaysIn h
 new:B.get? e = none
 frames:h.FunFrames B l
 on:∃ oe vs T oT ts,h.get? e = some oe ∧ (oe.cls = cls ∧ oe.dict = d) ∧ oe.data = .fields vs ∧ vs[1]? = some (.ref T) ∧ B.get? T = none ∧ T ≠ e ∧ h.get? T = some oT ∧ oT.data = .fields ts ∧ ts[3]? = some fl ∧ vs[2]? = some .none
theorem rD (o:Obj) (f:Array Value → Array Value):(o.mapFields f).dict = o.dict:=by
 obtain ⟨c,d,dt,sl⟩:=o
 cases dt <;> rfl
theorem kJ {h:Heap} {a:Addr} {o:Obj} {vs:Array Value} {f:Obj → Obj} (ha:h.get? a = some o) (hd:o.data = .fields vs):∀ b u,h.get? b = some u → (∀ ws,u.data ≠ .fields ws) → (h.update a f).get? b = some u:=fun b u e n => by
 rw [Bj _ _ (fun z:a = b => by rw [← z,ha] at e; cases e; exact n vs hd)]
 exact e
section
variable {M:Model} {A:Around} {E:Value → Shared → Prop} {s:Shared} {B:Heap} {env:Env} {outer l:List Env} {L e:Addr} {cls:Value} {d:Option Addr} {Q:Unit → Shared → Prop}
theorem pB {oe:Obj} {vs:Array Value} {head:Value} {nx:Bool} (hfr:A.frames = some (env :: outer)) (hl:s.heap.FunFrames B (env :: outer)) (hf:env.frame = some L) (hB:B.StaysIn s.heap) (hn:B.get? e = none)
   (he:s.heap.get? e = some oe) (hd:oe.data = .fields vs) (h1:1 < vs.size) (c2:vs[2]? = some .none) (hQ:∀ h',Fly B (env :: outer) e oe.cls oe.dict (rawInt L) h' → s.heap.UpToSlots h' → Q () { s with heap:=h' }) :
   wpAny M A (do let a ← frameOf env; let pl ← entryPlaceOf L nx; let b ← EntryCells.newEntry head a .none (rawInt L) .none pl; setField (.ref e) 1 b) Q E s:=by
 have ne:e ∉ (env :: outer).filterMap (·.frame):=fun hm => by
   obtain ⟨_,o,ho,nf⟩:=hl.mem hm
   rw [he] at ho; cases ho
   exact nf vs hd
 refine Aa (wpAny_frameOf_fun hfr hl hf fun g1 so => Aa (wpAny_entryPlaceOf fun pl hpl => ?_))
 have e1:g1.get? e = some oe:=(so.2.1 e ne).trans he
 have b1:B.StaysIn g1:=fun b o q => (so.2.1 b fun hm => by rw [(hl.mem hm).1] at q; cases q).trans (hB b o q)
 unfold EntryCells.newEntry newFields
 refine Aa (Eg ?_ (hpl.sizeOk5 _ _ _ _ _))
 generalize hts:(([head,.ref L,.none,rawInt L,.none] ++ (if pl.isEmpty then List.replicate 6 Value.none else pl):List Value)).toArray = ts
 have t3:ts[3]? = some (rawInt L):=by rw [← hts]; simp
 have e2:=Ad (h:=g1) ⟨.type "traceback",none,.fields ts,#[]⟩ e1
 refine Hf e2 hd h1 (hQ _ ?_ ?_)
 · have te:g1.objs.size ≠ e:=Fm (Ak e1)
   have dm:=Dc hd (·.setIfInBounds 1 (Value.ref g1.objs.size))
   refine ⟨fun b o q => ?_,hn,hl.of_keeps fun b o q nf => ?_,_,_,g1.objs.size,⟨.type "traceback",none,.fields ts,#[]⟩,ts,Heap.get?_update_self _ e2 (Obj.isFreed_of_fields dm),⟨Obj.cls_mapFields _ _,rD _ _⟩,dm,by simp [h1],b1.fresh,te,?_,rfl,t3,(Array.getElem?_setIfInBounds_ne (by decide)).trans c2⟩
   · rw [Bj _ _ (fun z:e = b => by rw [← z,hn] at q; cases q)]
     exact Ad _ (b1 b o q)
   · obtain ⟨sl,q1⟩:=so.2.2 b o q
     exact ⟨_,kJ e2 hd b _ (Ad _ q1) nf,rfl⟩
   · rw [Bj _ _ te.symm]
     exact Ap g1 rfl
 · intro b o q nf
   obtain ⟨sl,q1⟩:=so.2.2 b o q
   exact ⟨sl,kJ e2 hd b _ (Ad _ q1) nf⟩
theorem zX {oe:Obj} {vs:Array Value} (hfr:A.frames = some (env :: outer)) (hl:s.heap.FunFrames B (env :: outer)) (hf:env.frame = some L) (hB:B.StaysIn s.heap) (hn:B.get? e = none)
   (he:s.heap.get? e = some oe) (hd:oe.data = .fields vs) (h1:vs[1]? = some .none) (c2:vs[2]? = some .none) (hQ:∀ h',Fly B (env :: outer) e oe.cls oe.dict (rawInt L) h' → s.heap.UpToSlots h' → Q () { s with heap:=h' }):wpAny M A (noteFrame (.ref e) env) Q E s:=by
 unfold noteFrame
 simp only [hf]
 refine Aa (Ct he hd h1 ?_)
 rw [if_neg (show ¬ ((Value.none != Value.none) = true) by decide)]
 exact pB hfr hl hf hB hn he hd (Bx.mp h1).1 c2 hQ
theorem aZ1 (hfr:A.frames = some (env :: outer)) (hf:env.frame = some L) (F:Fly B (env :: outer) e cls d .none s.heap) (hQ:∀ h',Fly B (env :: outer) e cls d (rawInt L) h' → s.heap.UpToSlots h' → Q () { s with heap:=h' }) :
   wpAny M A (noteFrame (.ref e) env) Q E s:=by
 obtain ⟨hB,hn,hl,oe,vs,T,oT,ts,he,⟨rfl,rfl⟩,hd,h1,hT,hTe,gT,dT,t3,c2⟩:=F
 unfold noteFrame
 simp only [hf]
 refine Aa (Ct he hd h1 ?_)
 rw [if_pos (show (Value.ref T != Value.none) = true by simp)]
 refine Aa (Ct gT dT t3 ?_)
 rw [if_neg (show ¬ ((Value.none == rawInt L) = true) by simp [rawInt])]
 refine Aa (Hf gT dT (Bx.mp t3).1 ?_)
 have keep:∀ b,b ≠ T → (s.heap.update T (Obj.mapFields (·.setIfInBounds 3 Value.none))).get? b = s.heap.get? b:=fun b hb => Bj _ _ (Ne.symm hb)
 refine pB (s:={ s with heap:=s.heap.update T (Obj.mapFields (·.setIfInBounds 3 Value.none)) }) hfr (hl.of_keeps fun b o q nf => ⟨o,kJ gT dT b o q nf,rfl⟩) hf
   (fun b o q => (keep b fun z => by rw [z,hT] at q; cases q).trans (hB b o q)) hn ((keep e hTe.symm).trans he) hd (Bx.mp h1).1 c2 fun h' F' up => hQ h' F' fun b o q nf => up b o (kJ gT dT b o q nf) nf
theorem hX {fl:Value} (F:Fly B l e cls d fl s.heap) (hQ:∀ h',Fly B l e cls d .none h' → s.heap.UpToSlots h' → Q () { s with heap:=h' }):wpAny M A (setFlight (.ref e) none) Q E s:=by
 obtain ⟨hB,hn,hl,oe,vs,T,oT,ts,he,hc,hd,h1,hT,hTe,gT,dT,t3,c2⟩:=F
 have z3:3 < ts.size:=(Bx.mp t3).1
 unfold setFlight
 refine Aa (Ct he hd h1 ?_)
 rw [if_pos (show (Value.ref T != Value.none) = true by simp)]
 refine Hf gT dT z3 (hQ _ ?_ fun b o q nf => ⟨o.slots,kJ gT dT b o q nf⟩)
 have dm:=Dc dT (·.setIfInBounds 3 Value.none)
 refine ⟨fun b o q => ?_,hn,hl.of_keeps fun b o q nf => ⟨o,kJ gT dT b o q nf,rfl⟩,oe,vs,T,_,_,?_,hc,hd,h1,hT,hTe,Heap.get?_update_self _ gT (Obj.isFreed_of_fields dm),dm,by simp [z3],c2⟩
 · rw [Bj _ _ (fun z:T = b => by rw [← z,hT] at q; cases q)]
   exact hB b o q
 · rw [Bj _ _ hTe]
   exact he
theorem Fly.less {fl:Value} {h:Heap} (F:Fly B (env :: outer) e cls d fl h):Fly B outer e cls d fl h:=⟨F.stays,F.new,F.frames.2.2,F.on⟩
theorem uN {oe:Obj} {vs:Array Value} (hfr:A.frames = some (env :: outer)) (hl:s.heap.FunFrames B (env :: outer)) (hf:env.frame = some L) (hB:B.StaysIn s.heap) (hn:B.get? e = none)
   (he:s.heap.get? e = some oe) (hd:oe.data = .fields vs) (h1:vs[1]? = some .none) (c2:vs[2]? = some .none) (hQ:∀ h',Fly B outer e oe.cls oe.dict .none h' → s.heap.UpToSlots h' → Q () { s with heap:=h' }):wpAny M A (leaving env (.ref e)) Q E s:=by
 unfold leaving
 exact Aa (zX hfr hl hf hB hn he hd h1 c2 fun h1 F1 u1 => hX (s:={ s with heap:=h1 }) F1 fun h2 F2 u2 => hQ h2 F2.less (u1.trans u2))
end
end L2
set_option maxHeartbeats 4000000
namespace L2
open PySem PySem.Spec PyProof.Rows
structure UnB (fs:List Addr) (H H':Hp) (h B h':Heap):Prop where
 keep:∀ b o,h.get? b = some o → H b = none → b ∉ fs → B.get? b = some o
 slot:∀ b o,h.get? b = some o → H b = none → b ∈ fs → ∃ sl,h'.get? b = some { o with slots:=sl }
 free:∀ b o,h.get? b = some o → H b = none → H' b = none
 there:∀ b o,h.get? b = some o → b ∉ fs → ∃ o',B.get? b = some o'
 tups:∀ b xs,H b = some (.tup xs) → H' b = some (.tup xs)
 frzs:∀ b o u,H b = some (.frz o u) → H' b = some (.frz o u)
 tbls:∀ b ps,H b = some (.tbl ps) → ∃ more,H' b = some (.tbl (ps ++ more))
def CXr (P:Program) (w:World):CXT:=fun outer H s E e s' =>
 ∃ (ea:Addr) (cls:Value) (d:Option Addr) (B:Heap) (H':Hp),e = .ref ea ∧ s'.os = s.os ∧ AllBare s'.gens ∧ Fly B outer ea cls d .none s'.heap ∧ HOk P w H' B ∧ UnB (frs outer) H H' s.heap B s'.heap ∧ E cls d H'
theorem HOk.down {P:Program} {w:World} {H:Hp} {h B:Heap} (x:HOk P w H h) (k:∀ b o u,H b = some u → h.get? b = some o → B.get? b = some o):HOk P w H B:=fun a u e =>
 (x a u e).stay (fun b o hb q => by
   rcases hb with z | z
   · subst z; exact k b o u e q
   · exact k b o _ z q) (fun _ q => q) fun _ _ q => q
theorem ObjOk.get {P:Program} {w:World} {H:Hp} {h:Heap} {a:Addr} {o:HO} (x:ObjOk P w H h a o):∃ ob,h.get? a = some ob:=by
 cases o with
 | lst xs => obtain ⟨_,_,_,_,e⟩:=x; exact ⟨_,e⟩
 | tup xs => obtain ⟨_,_,_,ob,e,_⟩:=x; exact ⟨_,e⟩
 | dK kvs => obtain ⟨_,_,_,_,ob,_,_,e,_⟩:=x; exact ⟨_,e⟩
 | dT kvs => obtain ⟨_,_,_,_,ob,_,_,e,_⟩:=x; exact ⟨_,e⟩
 | set S n => obtain ⟨ob,_,_,_,e,_⟩:=x; exact ⟨_,e⟩
 | ins C dx fs => obtain ⟨_,_,_,e,_⟩:=x; exact ⟨_,e⟩
 | own y => exact x
 | xd fs => obtain ⟨_,⟨od,_,_,e,_⟩,_⟩:=x; exact ⟨_,e⟩
 | rng lo hi => obtain ⟨_,_,_,e⟩:=x; exact ⟨_,e⟩
 | frz ob u => exact ⟨_,x.1⟩
 | tbl ps => exact ⟨_,x⟩
 | met f y => exact ⟨_,x⟩
 | ext φ => exact x.2.1
theorem HOk.hole {P:Program} {w:World} {H:Hp} {h:Heap} {a:Addr} (x:HOk P w H h) (e:h.get? a = none):H a = none:=by
 cases q:H a with
 | none => rfl
 | some o =>
   obtain ⟨ob,z⟩:=(x a o q).get
   rw [e] at z
   cases z
theorem gP {env:Env} {outer:List Env} {L b:Addr} (hf:env.frame = some L) (h1:b ≠ L) (h2:b ∉ frs outer):b ∉ frs (env :: outer):=fun hm => by
 obtain ⟨e,he,q⟩:=Ce.mp hm
 rcases Be.mp he with z | z
 · subst z
   rw [hf] at q
   exact h1 (Bo q).symm
 · exact h2 (Ce.mpr ⟨e,z,q⟩)
section
variable {P:Program} {w:World} {K:PySem.W.Frag} {mg:Str → Option Value} {base:Heap} {N:List Str} {qual:Str} {scope:Scope} {f:Addr} {cd:Value} {A:Around} {outer:List Env} {s₀:Shared} {H₀:Hp} {E:XK}
 {pins:List (Addr × Obj)} {σ:St} {H:Hp} {s:Shared}
theorem qT {ea:Addr} {oe:Obj} {vs:Array Value} (I:Inv (fF (CXr P w) P w K mg base N qual scope f cd A outer s₀ H₀ E) pins σ H s) (he:s.heap.get? ea = some oe) (hd:oe.data = .fields vs) (h1:vs[1]? = some .none) (c2:vs[2]? = some .none) (hn:H ea = none) (h0:s₀.heap.get? ea = none)
   (q:E oe.cls oe.dict H):(fF (CXr P w) P w K mg base N qual scope f cd A outer s₀ H₀ E).xe (.ref ea) s:=by
 have hfr:=I.ok.frames
 have hst:=I.stack
 have hsf:=I.stkFree
 have hbase:=I.base
 have hlo:∀ b o,s₀.heap.get? b = some o → b ≠ s₀.heap.objs.size:=fun b o e => Av (Ak e)
 have nea:∀ b o,s₀.heap.get? b = some o → b ≠ ea:=fun b o e z => by rw [z,h0] at e; cases e
 have hid:∀ b o,s.heap.get? b = some o → b ≠ ea → b ∉ frs (envOfC qual scope s₀.heap.objs.size f cd :: outer) → (PySem.W.hideAll s.heap (ea :: frs (envOfC qual scope s₀.heap.objs.size f cd :: outer))).get? b = some o:=fun b o e n1 n2 =>
   PySem.W.hideAll_get _ e fun hm => (Be.mp hm).elim n1 n2
 refine uN (B:=PySem.W.hideAll s.heap (ea :: frs (envOfC qual scope s₀.heap.objs.size f cd :: outer))) hfr (PySem.W.funFrames_hide hst fun env he b hb => Am _ (Ce.mpr ⟨env,he,hb⟩)) rfl (fun b o q => Gr _ q)
   (PySem.W.hideAll_none _ An) he hd h1 c2 fun h2 fl up => ?_
 refine ⟨ea,_,_,_,H,rfl,I.os,I.bare,fl,I.hok.down fun b o u e g => hid b o g (fun z => by rw [z,hn] at e; cases e) fun hm => ?_,⟨fun b o e n hb => ?_,fun b o e n hb => ?_,fun b o e n => hbase.free b o e n (by simp [fF]),fun b o e hb => ?_,hbase.tups,hbase.frzs,hbase.tbls⟩,q⟩
 · rw [hsf b hm] at e
   cases e
 · exact hid b o (hbase.keep b o e n hb (by simp [fF])) (nea b o e) (gP rfl (hlo b o e) hb)
 · obtain ⟨sl,q1⟩:=hbase.slot b o e n hb (by simp [fF])
   obtain ⟨_,o2,g2,nf⟩:=I.ok.funs.mem hb
   have e2:s₀.heap.get? b = some o2:=g2
   rw [e] at e2
   cases e2
   obtain ⟨sl2,q2⟩:=up b _ q1 nf
   exact ⟨sl2,q2⟩
 · obtain ⟨o',q1⟩:=hbase.there b o e (by simp [fF])
   exact ⟨o',hid b o' q1 (nea b o e) (gP rfl (hlo b o e) hb)⟩
end
def cJX (X:Cx) (E:XK):Prop:=∀ (pins:List (Addr × Obj)) (σ:St) (H:Hp) (s:Shared) (ea:Addr) (oe:Obj) (vs:Array Value),Inv X pins σ H s → s.heap.get? ea = some oe → oe.data = .fields vs → vs[1]? = some .none → vs[2]? = some .none → H ea = none → X.s₀.heap.get? ea = none →
 E oe.cls oe.dict H → X.xe (.ref ea) s
theorem bQ1 {P:Program} {w:World} {K:PySem.W.Frag} {mg:Str → Option Value} {base:Heap} {N:List Str} {qual:Str} {scope:Scope} {f:Addr} {cd:Value} {A:Around} {outer:List Env} {s₀:Shared} {H₀:Hp} {E:XK} :
   cJX (fF (CXr P w) P w K mg base N qual scope f cd A outer s₀ H₀ E) E:=fun _ _ _ _ _ _ _ I he hd h1 c2 hn h0 q => qT I he hd h1 c2 hn h0 q
section
variable {X:Cx} {E:XK} {x:Str} {C:Addr} {bmB:List Value} {B newId initId:String} {e:Expr} {es:List Expr} {ta:TA} {np cpos pos:Pos}
end
abbrev Cx.tr (X:Cx) (pins:List (Addr × Obj)) (xe:Value → Shared → Prop):Cx:={ X with pn:=X.pn ++ pins,xe:=xe }
abbrev Cx.hnd (X:Cx) (pins:List (Addr × Obj)) (ea:Addr):Cx:={ X with A:=X.A.mark (some (.ref ea)),calm:=false,pn:=X.pn ++ pins,xe:=fun _ _ => False }
section
variable {X:Cx} {pins pins':List (Addr × Obj)} {σ:St} {H:Hp} {s:Shared} {xe:Value → Shared → Prop} {ea:Addr}
theorem Inv.tr (I:Inv X pins σ H s) (xe:Value → Shared → Prop):Inv (X.tr pins xe) [] σ H s :=
 ⟨⟨I.ok.mod,I.ok.kind,I.ok.glob,I.ok.blt,I.ok.above,I.ok.inj,I.ok.has,I.ok.cab,I.ok.hd,I.ok.frames,I.ok.stk,I.ok.exf,I.ok.bs,I.ok.bsz,I.ok.noex,I.ok.exfs,I.ok.funs,I.ok.frf⟩,I.os,I.bare,I.base,I.loc,I.cell,I.free,I.freeC,
   fun p hp => I.pin p (by rwa [Bs] at hp),I.hok,I.len⟩
theorem Inv.untr (I:Inv (X.tr pins xe) pins' σ H s):Inv X pins σ H s :=
 ⟨⟨I.ok.mod,I.ok.kind,I.ok.glob,I.ok.blt,I.ok.above,I.ok.inj,I.ok.has,I.ok.cab,I.ok.hd,I.ok.frames,I.ok.stk,I.ok.exf,I.ok.bs,I.ok.bsz,I.ok.noex,I.ok.exfs,I.ok.funs,I.ok.frf⟩,I.os,I.bare,I.base,I.loc,I.cell,I.free,I.freeC,
   fun p hp => I.pin p (Da _ hp),I.hok,I.len⟩
theorem Inv.hnd (I:Inv X pins σ H s) (ea:Addr):Inv (X.hnd pins ea) [] σ H s :=
 ⟨⟨I.ok.mod,I.ok.kind,I.ok.glob,I.ok.blt,I.ok.above,I.ok.inj,I.ok.has,I.ok.cab,(fun z => nomatch z),I.ok.frames,I.ok.stk,I.ok.exf,I.ok.bs,I.ok.bsz,I.ok.noex,I.ok.exfs,I.ok.funs,I.ok.frf⟩,I.os,I.bare,I.base,I.loc,I.cell,I.free,I.freeC,
   fun p hp => I.pin p (by rwa [Bs] at hp),I.hok,I.len⟩
theorem Inv.unhnd (I:Inv (X.hnd pins ea) pins' σ H s) (ok:X.Ok):Inv X pins σ H s :=
 ⟨ok,I.os,I.bare,I.base,I.loc,I.cell,I.free,I.freeC,fun p hp => I.pin p (Da _ hp),I.hok,I.len⟩
structure Fre (X:Cx) (pins:List (Addr × Obj)) (a:Addr):Prop where
 s0:X.s₀.heap.get? a = none
 loc:a ≠ X.env.locals
 cell:∀ x c,X.env.cells.lookup x = some c → c ≠ a
 pin:∀ p ∈ X.pn ++ pins,p.1 ≠ a
theorem Inv.adopt {a:Addr} {o:HO} (I:Inv X pins σ H s) (f:Fre X pins a) (hn:H a = none) (new:ObjOk X.prog X.w (upd H a o) s.heap a o):Inv X pins σ (upd H a o) s:=by
 have ne:∀ b u,H b = some u → b ≠ a:=fun b u e => aZ e hn
 refine ⟨I.ok,I.os,I.bare,⟨I.base.keep,I.base.slot,fun b u e n hx => ?_,I.base.there,fun b xs e => ?_,fun b u v e => ?_,fun b ps e => ?_⟩,I.loc,I.cell,by rw [aH f.loc.symm]; exact I.free,fun x c e => by rw [aH (f.cell x c e)]; exact I.freeC x c e,fun p hp => ?_,fun b u e => ?_,I.len⟩
 · rw [aH (fun z => by rw [z,f.s0] at e; cases e)]
   exact I.base.free b u e n hx
 · have q:=I.base.tups b xs e
   rw [aH (ne b _ q)]; exact q
 · have q:=I.base.frzs b u v e
   rw [aH (ne b _ q)]; exact q
 · obtain ⟨m,q⟩:=I.base.tbls b ps e
   exact ⟨m,by rw [aH (ne b _ q)]; exact q⟩
 · obtain ⟨h1,h2,h3⟩:=I.pin p hp
   exact ⟨h1,by rw [aH (f.pin p hp)]; exact h2,h3⟩
 · by_cases hb:b = a
   · subst hb
     rw [aB] at e
     cases e
     exact new
   · rw [aH hb] at e
     exact (I.hok b u e).stay (fun c v _ q => q) (fun c q => by rw [aH (ne c _ q)]; exact q) fun c xs q => by rw [aH (ne c _ q)]; exact q
theorem Inv.unname {i:Nat} {n:Str} {h':Heap} {m:Str → Option Value} {v:Option Value} {t:Nat} (I:Inv X pins σ H s) (hN:X.N.Nodup) (hi:X.N[i]? = some n) (hm:s.heap.Ns X.env.locals m) (hl:X.env.scope.names.lookup n = some .local)
   (hn:h'.Ns X.env.locals (fun x => if x = n then v else m x)) (sb:Heap.SameBut X.env.locals s.heap h'):Inv X pins (σ.set i none) H { s with heap:=h',toks:=t }:=by
 have k:∀ b o,b ≠ X.env.locals → s.heap.get? b = some o → h'.get? b = some o:=fun b o hb e => (sb.2 b hb).trans e
 have nl:∀ b o,X.s₀.heap.get? b = some o → b ≠ X.env.locals:=fun b o e => Av (Bb (Ak e) I.ok.above)
 have there:∀ b o,s.heap.get? b = some o → ∃ o',h'.get? b = some o':=fun b o e => by
   by_cases hb:b = X.env.locals
   · obtain ⟨o',_,_,q,_⟩:=hn
     exact ⟨o',by rw [hb]; exact q⟩
   · exact ⟨o,k b o hb e⟩
 obtain ⟨m1,hm1,hl1⟩:=id I.loc
 refine ⟨I.ok,I.os,I.bare,⟨fun b o e n hb hx => k b o (nl b o e) (I.base.keep b o e n hb hx),fun b o e n hb hx => ?_,I.base.free,fun b o e hx => ?_,I.base.tups,I.base.frzs,I.base.tbls⟩,⟨_,hn,fun j y u e1 e2 e3 => ?_⟩,fun x c e => ?_,I.free,I.freeC,fun p hp => ?_,fun b u e => ?_,by rw [List.length_set]; exact I.len⟩
 · obtain ⟨sl,q⟩:=I.base.slot b o e n hb hx
   exact ⟨sl,k b _ (nl b o e) q⟩
 · obtain ⟨o',q⟩:=I.base.there b o e hx
   exact there b o' q
 · have hji:j ≠ i:=fun z => by
     subst z
     rw [Gz (by rw [I.len]; exact (Af.mp hi).1)] at e2
     cases e2
   rw [Ga (Ne.symm hji)] at e2
   have hyn:y ≠ n:=fun z => hji (mF hN e1 (by rw [z]; exact hi))
   obtain ⟨u',r,look⟩:=hl1 j y u e1 e2 e3
   have em:m1 = m:=by
     obtain ⟨o1,es1,ep1,g1,d1,_,f1⟩:=hm1
     obtain ⟨o2,es2,ep2,g2,d2,_,f2⟩:=hm
     rw [g1] at g2; cases g2
     rw [d1] at d2; cases d2
     funext z
     rw [← f1 z,f2 z]
   refine ⟨u',r,?_⟩
   rcases look with ⟨z1,z2⟩ | ⟨z1,c,z2,o,z3,z4⟩
   · exact .inl ⟨z1,by show (if y = n then v else m y) = _; rw [if_neg hyn,← em]; exact z2⟩
   · exact .inr ⟨z1,c,z2,o,k c o (I.cne y c z2) z3,z4⟩
 · obtain ⟨v',o,z1,z2⟩:=I.cell x c e
   exact ⟨v',o,k c o (I.cne x c e) z1,z2⟩
 · obtain ⟨h1,h2,h3,h4⟩:=I.pin p hp
   exact ⟨k _ _ h3 h1,h2,h3,h4⟩
 · refine (I.hok b u e).stay (fun c o hc q => k c o (fun z => ?_) q) (fun _ q => q) fun _ _ q => q
   have fr:=I.free
   rcases hc with z1 | z1
   · rw [← z1,z,fr] at e; cases e
   · rw [z,fr] at z1; cases z1
end
def lE (ea:Addr) (cls:Value) (d:Option Addr):HO:=.ext fun h => ∃ oe vs,h.get? ea = some oe ∧ oe.cls = cls ∧ oe.dict = d ∧ oe.data = .fields vs
theorem Fly.obj {P:Program} {w:World} {B:Heap} {l:List Env} {ea:Addr} {cls fl:Value} {d:Option Addr} {h:Heap} {H:Hp} (F:Fly B l ea cls d fl h):ObjOk P w H h ea (lE ea cls d):=by
 obtain ⟨oe,vs,T,oT,ts,he,hc,hd,_⟩:=F.on
 exact ⟨⟨oe,vs,he,hc.1,hc.2,hd⟩,⟨oe,he⟩,fun h1 h2 ⟨o,ws,g,q⟩ k => ⟨o,ws,k o g,q⟩⟩
def XS (X:Cx) (pins:List (Addr × Obj)) (R:Value → Option Addr → St → Hp → Prop):Value → Shared → Prop:=fun e s1 =>
 ∃ ea cls d B σ1 H1,e = .ref ea ∧ Fly B X.stack ea cls d .none s1.heap ∧ Fre X pins ea ∧ H1 ea = none ∧ (∀ h2,B.StaysIn h2 → s1.heap.UpToSlots h2 → Inv X pins σ1 H1 { s1 with heap:=h2 }) ∧ R cls d σ1 H1
def aZ5 (CX:CXT) (X:Cx) (Es:St → XK):Prop:=∀ (pins:List (Addr × Obj)) (σ:St) (H:Hp) (s:Shared) (e:Value) (s':Shared),Inv X pins σ H s → CX X.stack H s (Es σ) e s' → X.xe e s'
theorem uK {X:Cx} {pins:List (Addr × Obj)} {R:Value → Option Addr → St → Hp → Prop} (hex:X.ex = []):aZ5 (CXr X.prog X.w) (X.tr pins (XS X pins R)) (fun σ cls d H1 => R cls d σ H1):=by
 intro pins' σ H s e s1 I' h
 obtain ⟨ea,cls,d,B,H1,rfl,os,bare,F,hok,un,q⟩:=h
 have I:Inv X pins σ H s:=I'.untr
 have F:Fly B X.stack ea cls d .none s1.heap:=F
 have un:UnB (frs X.stack) H H1 s.heap B s1.heap:=un
 have nfs:ea ∉ frs X.stack:=fun hm => by
   obtain ⟨_,o,g,nf⟩:=F.frames.mem hm
   obtain ⟨oe,vs,T,oT,ts,he,hc,hd,_⟩:=F.on
   rw [g] at he; cases he
   exact nf vs hd
 have ne:∀ b o,s.heap.get? b = some o → b ≠ ea:=fun b o g z => by
   subst z
   obtain ⟨o',g'⟩:=un.there b o g nfs
   rw [F.new] at g'
   cases g'
 refine ⟨ea,cls,d,B,σ,H1,rfl,F,⟨?_,?_,fun x c z => ?_,fun p hp => ?_⟩,hok.hole F.new,fun h2 st up => ?_,q⟩
 · cases z:X.s₀.heap.get? ea with
   | none => rfl
   | some o =>
     obtain ⟨o',z'⟩:=I.base.there ea o z (by rw [hex]; simp)
     exact absurd rfl (ne ea o' z')
 · obtain ⟨m,⟨o,_,_,g,_⟩,_⟩:=I.loc
   exact (ne _ o g).symm
 · obtain ⟨v,o,g,_⟩:=I.cell x c z
   exact ne c o g
 · exact ne p.1 p.2 (I.pin p hp).1
 · have slot:∀ b o,s.heap.get? b = some o → b ∈ frs X.stack → ∃ sl,h2.get? b = some { o with slots:=sl }:=fun b o g hb => by
     obtain ⟨sl,g1⟩:=un.slot b o g (I.stkFree b hb) hb
     obtain ⟨_,o2,g2,nf⟩:=I.stack.mem hb
     rw [g] at g2; cases g2
     obtain ⟨sl2,g3⟩:=up b _ g1 nf
     exact ⟨sl2,g3⟩
   refine I.call' (s':={ s1 with heap:=h2 }) (ch:=[]) os ⟨fun b o g n hb _ => st b o (un.keep b o g n hb),fun b o g n hb _ => slot b o g hb,fun b o g n _ => un.free b o g n,fun b o g _ => ?_,un.tups,un.frzs,un.tbls⟩ (hok.kept fun b o g => st b o g) bare fun b hb => absurd hb (by simp)
   by_cases hb:b ∈ frs X.stack
   · obtain ⟨sl,g1⟩:=slot b o g hb
     exact ⟨_,g1⟩
   · obtain ⟨o',g1⟩:=un.there b o g hb
     exact ⟨o',st b o' g1⟩
section
variable {X:Cx} {CX:CXT} {k:Nat} {f:Addr} {fd:FuncData} {ps:List Str} {sp:Sp} {Es:St → XK} {x:Str} {p pos:Pos} {e:Expr} {es:List Expr} {t:TA}
def uH (sp:Sp) (Es:St → XK) (t:TA):TE:=fun σ H Q => t σ H fun vs H1 => sp vs H1 Q (Es σ)
theorem aJO (F:FnOk X.prog X.w X.K X.mg X.base CX k f fd ps sp) (hr:Room k X.A) (hg:Gl X x) (hm:X.mg x = some (.ref f)) (hk:PySem.W.keepIn X.K (.ref f) = true) (hb:Binds X.K fd ps []) (hx:aZ5 CX X Es) (ha:PA X (e :: es) t)
   (hdb:(x == ("__debug__" : Str)) = false:=by decide) (he:starEach (e :: es) X.env = (false,eval e X.env) :: starEach es X.env:=by rfl) (hpl:(backTo pos (starEach es X.env)).any (·.1) = false:=by rfl) :
   PE X (.Call (.Name x p) (e :: es) [] pos) (uH sp Es t):=by
 intro pins s σ H Q I h
 refine Dy (eC I hg hm ?_ hdb)
 refine Fn (h₀:=X.base) I.ok.mod.kin hk (thn (ha pos pins s σ H _ I h) fun us s1 ⟨vs,H1,I1,r,q⟩ => ⟨I1.kIn,?_⟩) he hpl
 have hl:us.length = ps.length:=by rw [← r.length]; exact F.len _ _ _ _ q
 have hb1:=hb s1 us I1.kIn (by rw [Bs]; exact hl)
 rw [Bs] at hb1
 refine Gb (Ek (F.run X.A X.stack s1 H1 ⟨us,[]⟩ us vs Q (Es σ) hr I1.env0 hb1 r q) fun rs s' hq => ?_)
 cases rs with
 | error e => exact hx pins σ H1 s1 e s' I1 hq
 | ok fl =>
   cases fl with
   | ret u => exact I1.after hq
   | next => exact False.elim hq
   | brk => exact False.elim hq
   | cont => exact False.elim hq
end
section
variable {X:Cx} {pins:List (Addr × Obj)}
theorem SP.untr {xe:Value → Shared → Prop} {D:Ends} {f:Flow} {s':Shared} (h:SP (X.tr pins xe) [] D f s'):SP X pins D f s':=by
 cases f with
 | next => obtain ⟨σ',H',I,q⟩:=h; exact ⟨σ',H',I.untr,q⟩
 | brk => obtain ⟨σ',H',I,q⟩:=h; exact ⟨σ',H',I.untr,q⟩
 | cont => obtain ⟨σ',H',I,q⟩:=h; exact ⟨σ',H',I.untr,q⟩
 | ret u => obtain ⟨v,σ',H',I,r,q⟩:=h; exact ⟨v,σ',H',I.untr,r,q⟩
theorem SP.unhnd {ea:Addr} {D:Ends} {f:Flow} {s':Shared} (ok:X.Ok) (h:SP (X.hnd pins ea) [] D f s'):SP X pins D f s':=by
 cases f with
 | next => obtain ⟨σ',H',I,q⟩:=h; exact ⟨σ',H',I.unhnd ok,q⟩
 | brk => obtain ⟨σ',H',I,q⟩:=h; exact ⟨σ',H',I.unhnd ok,q⟩
 | cont => obtain ⟨σ',H',I,q⟩:=h; exact ⟨σ',H',I.unhnd ok,q⟩
 | ret u => obtain ⟨v,σ',H',I,r,q⟩:=h; exact ⟨v,σ',H',I.unhnd ok,r,q⟩
end
end L2
set_option maxHeartbeats 4000000
namespace L2
open PySem PySem.Spec PyProof.Rows PySem.W
structure ExK (K:Frag) (D:Addr):Prop where
 cls:hasDictIn K D = true
 ga:findIn K (.ref D) "__getattribute__" = some (some (.builtin "BaseException.__getattribute__"))
 gh:findIn K (.ref D) "__getattr__" = some none
 ca:findIn K (.ref D) "__class__" = some (some (.builtin "object.__class__"))
 cg:specialIn K (.builtin "object.__class__") "__get__" = some (some (.builtin "getset_descriptor.__get__"))
 ct:takesIn K (.builtin "object.__class__") = some true
 mo:mroIn K D (.type "object") = some true
 mb:PySem.W.subIn K (.ref D) (.type "BaseException") = some true
section
variable {prog:Program} {w:World} {A:Around} {E:Value → Shared → Prop} {s:Shared} {K:Frag} {x D:Addr} {ox:Obj} {od:Option Obj}
theorem zG {M:Model} {nm:Value} {Q:Unit → Shared → Prop} (Z:ExK K D) (X:K.In s.heap) (I:InstAt s.heap x ox D od) (hq:Q () s):wpAny M A (checkBuiltinCall "BaseException.__getattribute__" ⟨[.ref x,nm],[]⟩) Q E s:=by
 have hk:builtinKind "BaseException.__getattribute__" = some .slot:=by decide +kernel
 have hs:splitId "BaseException.__getattribute__" = some ("BaseException", "__getattribute__"):=by decide +kernel
 have L0:=I.type (M:=M)
 have L1:=looks_subIn (M:=M) X Z.mb
 have ha:=F.args_bexc_ga (.ref x) nm
 simp only [checkBuiltinCall,hk,hs]
 refine Aa ((L0.andThen L1).at ?_)
 rw [if_neg (show ¬ ((!true) = true) by decide)]
 exact wpAny_of_eq ha hq
end
section
variable {K:PySem.W.Frag} {H:Hp} {Q:VK} {ea D tp:Addr} {c:V} {cs:List V} {cv:Value} {cvs:List Value} {b:Bool}
theorem bQB {sp:Sp} {Es:St → XK} {t:TA} {σ:St} (h:t σ H fun vs H1 => sp vs H1 Q (Es σ)):uH sp Es t σ H Q:=h
end
def aXW (P:Program) (w:World) (K:PySem.W.Frag) (mg:Str → Option Value) (base:Heap) (k:Nat) (x:Str) (ps:List Str) (sp:Sp):Prop :=
 ∃ (f:Addr) (fd:FuncData),FnOk P w K mg base (CXr P w) k f fd ps sp ∧ mg x = some (.ref f) ∧ PySem.W.keepIn K (.ref f) = true ∧ Binds K fd ps []
section
variable {X:Cx} {k k':Nat} {ps:List Str} {sp:Sp} {x:Str} {p pos:Pos} {e:Expr} {es:List Expr} {t:TA} {E:XK} {Es:St → XK}
theorem bXX (c:aXW X.prog X.w X.K X.mg X.base k x ps sp) (hx:lL (CXr X.prog X.w) X E) (hr:Room k' X.A) (hk:k ≤ k') (hg:Gl X x)
   (ha:PA X (e :: es) t) (hdb:(x == ("__debug__" : Str)) = false:=by decide) (he:starEach (e :: es) X.env = (false,eval e X.env) :: starEach es X.env:=by rfl) (hpl:(backTo pos (starEach es X.env)).any (·.1) = false:=by rfl) :
   PE X (.Call (.Name x p) (e :: es) [] pos) (sM sp [] E t):=by
 obtain ⟨f,fd,F,hm,hk',hb⟩:=c
 exact wQ F (hr.mono hk) hg hm hk' hb .nil hx ha hdb he hpl
theorem bXY (c:aXW X.prog X.w X.K X.mg X.base k x ps sp) (hx:aZ5 (CXr X.prog X.w) X Es) (hr:Room k' X.A) (hk:k ≤ k') (hg:Gl X x)
   (ha:PA X (e :: es) t) (hdb:(x == ("__debug__" : Str)) = false:=by decide) (he:starEach (e :: es) X.env = (false,eval e X.env) :: starEach es X.env:=by rfl) (hpl:(backTo pos (starEach es X.env)).any (·.1) = false:=by rfl) :
   PE X (.Call (.Name x p) (e :: es) [] pos) (uH sp Es t):=by
 obtain ⟨f,fd,F,hm,hk',hb⟩:=c
 exact aJO F (hr.mono hk) hg hm hk' hb hx ha hdb he hpl
theorem yR:lL (CXr X.prog X.w) X E0:=fun _ _ _ _ _ _ _ h => by
 obtain ⟨_,_,_,_,_,_,_,_,_,_,_,z⟩:=h
 exact z.elim
theorem PS.nox {st:Stmt} {t:TS} (h:PS X.nox st t):PS X st t:=fun pins s σ H D I hw =>
 Bw (h pins s σ H D (I.wish _) hw) (fun _ _ q => q.unwish) fun _ _ z => False.elim z
end
section
variable {P:Program} {w:World} {K:PySem.W.Frag} {mg:Str → Option Value} {base:Heap}
theorem Fun.okX {x qual:Str} {st:Stmt} {f:Addr} {fd:FuncData} {N ps:List Str} {k:Nat} {sp:Sp} (F:Fun K x qual st f fd) (S:FnScope N ps (aG st)) (len:∀ vs H Q E,sp vs H Q E → vs.length = ps.length)
   (hbody:∀ (cdv:Value) (A:Around) (outer:List Env) (s:Shared) (H:Hp) (vs:List V) (Q:VK) (E:XK),Room k (A.deeper (envOfC qual (aG st) s.heap.objs.size f cdv)) → sp vs H Q E →
     ∃ t,PSs (fF (CXr P w) P w K mg base N qual (aG st) f cdv A outer s H E) (aS st) t ∧ t { nx:=fun _ H' => Q .non H',rt:=Q } (eN N vs) H):FnOk P w K mg base (CXr P w) (k + 1) f fd ps sp:=by
 obtain ⟨oc,od,kV,doc,pm,an,cdv,ct,osl,rfl,lk,hcd⟩:=F.ex
 exact bZ0 lk hcd S len fun A outer s H vs Q E hr hsp => hbody cdv A outer s H vs Q E hr hsp
end
end L2
set_option maxHeartbeats 4000000
namespace L2
open PySem PySem.Spec PyProof.Rows
def Itz (K:PySem.W.Frag) (a b:Addr):It :=
 ⟨fun i H => ∃ xs ys x y,SqL K H a xs ∧ SqL K H b ys ∧ xs[i]? = some x ∧ ys[i]? = some y,fun i H v H' => ∃ p x y,H p = none ∧ v = .ref p ∧ H' = upd H p (.tup [x,y]) ∧ (∀ xs,SqL K H a xs → xs[i]? = some x) ∧ (∀ ys,SqL K H b ys → ys[i]? = some y),
   fun i H => ∃ xs ys,SqL K H a xs ∧ SqL K H b ys ∧ (xs.length ≤ i ∨ ys.length ≤ i)⟩
structure ZipOf (z TI TO i1 i2:Addr):Prop where
 d1:TI ≠ z
 d2:TO ≠ z
 d3:i1 ≠ z
 d4:i2 ≠ z
 d5:TI ≠ TO
 d6:TI ≠ i1
 d7:TI ≠ i2
 d8:TO ≠ i1
 d9:TO ≠ i2
 d0:i1 ≠ i2
theorem fN {h:Heap} {a b:Addr} {o u:Obj} (ha:h.get? a = some o) (hb:h.get? b = some u) {S T:String} (hs:o.cls = .type S) (ht:u.cls = .type T) (n:S ≠ T):a ≠ b:=fun z => by
 subst z
 rw [ha] at hb; cases hb
 rw [hs] at ht; injection ht with ht; exact n ht
theorem oX {h:Heap} {z TI TO i1 i2 a b:Addr} {f0 p q:Value} {k1 k2:Nat} {xs ys:Array Value} (D:ZipOf z TI TO i1 i2) (hz:IsZip h z TI TO f0) (hO:IsPair h TO p q) (h1:h.IsListIter i1 a k1) (h2:h.IsListIter i2 b k2) (ha:h.IsList a xs) (hb:h.IsList b ys):ZipApart z TI TO i1 i2 a b:=by
 obtain ⟨o1,g1,c1,_⟩:=h1
 obtain ⟨o2,g2,c2,_⟩:=h2
 obtain ⟨oa,ga,ca,_⟩:=ha
 obtain ⟨ob,gb,cb,_⟩:=hb
 exact ⟨D.d1,D.d2,D.d3,D.d4,D.d5,D.d6,D.d7,D.d8,D.d9,D.d0,fN ga hz ca rfl (by decide),fN ga hO ca rfl (by decide),fN ga g1 ca c1 (by decide),fN ga g2 ca c2 (by decide),fN gb hz cb rfl (by decide),fN gb hO cb rfl (by decide),fN gb g1 cb c1 (by decide),fN gb g2 cb c2 (by decide)⟩
theorem aZT {P:Program} {w:World} {K:PySem.W.Frag} {elts:List Expr} {x1:Nat} {tp:Pos} (a b z TI TO i1 i2:Addr) (D:ZipOf z TI TO i1 i2) :
   Turn P w K (.Tuple elts x1 tp) (Itz K a b) [z,TI,TO,i1,i2] z (fun i h => IsZip h z TI TO .none ∧ IsPair h TI (.ref i1) (.ref i2) ∧ (∃ p q,IsPair h TO p q) ∧ h.IsListIter i1 a i ∧ h.IsListIter i2 b i) where
 mem:=by simp
 obj:=fun i h st c hc => by
   obtain ⟨hz,hI,⟨p,q,hO⟩,⟨o1,g1,_,e1⟩,o2,g2,_,e2⟩:=st
   simp only [List.mem_cons,List.not_mem_nil,or_false] at hc
   rcases hc with z | z | z | z | z <;> subst z
   · exact ⟨_,hz,fun v z => by cases z⟩
   · exact ⟨_,hI,fun v z => by cases z⟩
   · exact ⟨_,hO,fun v z => by cases z⟩
   · exact ⟨o1,g1,fun v z => by rw [e1] at z; cases z⟩
   · exact ⟨o2,g2,fun v z => by rw [e2] at z; cases z⟩
 keep:=fun i h h' st kk => by
   obtain ⟨hz,hI,⟨p,q,hO⟩,g1,g2⟩:=st
   exact ⟨kk z (by simp) _ hz,kk TI (by simp) _ hI,⟨p,q,kk TO (by simp) _ hO⟩,g1.at fun o e => kk i1 (by simp) o e,g2.at fun o e => kk i2 (by simp) o e⟩
 item:=by
   intro X hP hw hK hc i pins s σ H E I hf st hg
   subst hP hw hK
   obtain ⟨xs,ys,x,y,qa,qb,hx,hy⟩:=hg
   obtain ⟨us,ra,pa,_⟩:=I.list qa
   obtain ⟨vs,rb,pb,_⟩:=I.list qb
   obtain ⟨u,hu,ru⟩:=ra.get hx
   obtain ⟨v,hv,rv⟩:=rb.get hy
   obtain ⟨hz,hI,⟨p,q,hO⟩,g1,g2⟩:=st
   have D2:=oX D hz hO g1 g2 pa.isList pb.isList
   have fr:∀ c o,s.heap.get? c = some o → s.heap.objs.size ≠ c:=fun c o e => Fm (Ak e)
   refine wpAny_pyNext_zip_item D2 hz hI hO g1 g2 pa.isList pb.isList (x:=u) (y:=v) (by simpa using hu) (by simpa using hv) fun h1 a1 a2 a3 a4 a5 a6 kk => ?_
   refine ⟨_,rfl,wpAny_letOwnedTupleGo_zip a1 fun h2 z2 sb => ?_⟩
   have up:∀ c o,c ≠ z → h1.get? c = some o → h2.get? c = some o:=fun c o n e => (sb.2 c n).trans e
   have I2:Inv X pins σ (upd H s.heap.objs.size (.tup [x,y])) { s with heap:=h2 }:=by
     refine I.turnLaid (t':=s.toks) (ch:=[z,TI,TO,i1,i2]) hf (fun c o n e => ?_) (Ai _) ⟨bA (by show 2 ≤ _; omega),[u,v],.cons ru (.cons rv .nil),_,up _ _ (fr z _ hz) a5,rfl,_,rfl⟩
     simp only [List.mem_cons,List.not_mem_nil,or_false,not_or] at n
     exact up c o n.1 (kk c o n.1 n.2.2.1 n.2.2.2.1 n.2.2.2.2 e)
   refine ⟨.ref s.heap.objs.size,_,I2,rfl,⟨_,x,y,I.hok.fresh (Ai _),rfl,rfl,fun zs hq => by rw [I.list_inj hq qa]; exact hx,fun zs hq => by rw [I.list_inj hq qb]; exact hy⟩,
     ⟨z2,up _ _ D.d1 (kk _ _ D.d1 D.d5 D.d6 D.d7 hI),⟨_,_,up _ _ D.d2 a2⟩,a3.at fun o e => up _ o D.d3 e,a4.at fun o e => up _ o D.d4 e⟩,fun c hc => ?_⟩
   have hn:=(hf c hc).1
   rw [aH]
   · exact hn
   · obtain ⟨o1,e1,_⟩:=g1
     obtain ⟨o2,e2,_⟩:=g2
     simp only [List.mem_cons,List.not_mem_nil,or_false] at hc
     rcases hc with z | z | z | z | z <;> subst z
     · exact (fr _ _ hz).symm
     · exact (fr _ _ hI).symm
     · exact (fr _ _ hO).symm
     · exact (fr _ _ e1).symm
     · exact (fr _ _ e2).symm
 done:=by
   intro X hP hw hK hc i pins s σ H E I hf st hg
   subst hP hw hK
   obtain ⟨xs,ys,qa,qb,hl⟩:=hg
   obtain ⟨us,ra,pa,_⟩:=I.list qa
   obtain ⟨vs,rb,pb,_⟩:=I.list qb
   have e1:=ra.length
   have e2:=rb.length
   obtain ⟨hz,hI,⟨p,q,hO⟩,g1,g2⟩:=st
   refine wpAny_pyNext_zip_end (I.ok.hd hc) (oX D hz hO g1 g2 pa.isList pb.isList) hz hI hO g1 g2 pa.isList pb.isList ?_ fun h' kk => ⟨rfl,?_⟩
   · rcases hl with z | z
     · exact .inl (by simp; omega)
     · exact .inr (by simp; omega)
   · refine I.turnAll (t':=s.toks) (ch:=[z,TI,TO,i1,i2]) hf fun c o n e => ?_
     simp only [List.mem_cons,List.not_mem_nil,or_false,not_or] at n
     exact kk c o n.1 n.2.2.1 n.2.2.2.1 n.2.2.2.2 e
 self:=fun _ _ _ _ _ st h => wpAny_pyIter_zip st.1 h
theorem aZF:bootBuiltins "zip" = some (.type "zip"):=by decide +kernel
section
variable {X:Cx} {l1 l2:Expr} {ta:TA} {elts:List Expr} {x1:Nat} {tp p pos:Pos}
def aQ5 (R:Addr → Addr → Hp → Prop):List V → Hp → Prop:=fun vs H => match vs with | [.ref i,.ref j] => R i j H | _ => False
theorem bXH {R:Addr → Addr → Hp → Prop} {vs:List V} {H:Hp} (q:aQ5 R vs H):∃ i j,vs = [.ref i,.ref j] ∧ R i j H:=by
 unfold aQ5 at q
 split at q
 · exact ⟨_,_,rfl,q⟩
 · exact q.elim
def cZL (K:PySem.W.Frag) (ta:TA):TI:=fun σ H R => ta σ H (aQ5 fun a b H1 => onL (rdL H1 a) (onL (rdL H1 b) (R (Itz K a b) H1)))
theorem cXO (hg:Gl X "zip") (hm:X.mg "zip" = none) (ha:PA X [l1,l2] ta) (hs:starEach [l1,l2] X.env = [(false,eval l1 X.env),(false,eval l2 X.env)]:=by rfl) (hs2:starEach [l2] X.env = [(false,eval l2 X.env)]:=by rfl) :
   PI X (.Tuple elts x1 tp) (.Call (.Name "zip" p) [l1,l2] [] pos) (cZL X.K ta):=by
 intro pins s σ H R I h
 refine Call_ (fQ I hg hm aZF (Cz (thn (ha pos pins s σ H _ I h) fun us s1 ⟨vs,H1,I1,r1,q1⟩ => ?_) (by rw [hs,hs2]) (by rw [hs2]; rfl)))
 obtain ⟨a,b,rfl,q⟩:=bXH q1
 obtain ⟨u,u2,rfl,ru,ru2⟩:=kE r1
 cases ru
 cases ru2
 unfold onL at q
 split at q
 · rename_i xs ex
   split at q
   · rename_i ys ey
     obtain ⟨us,ra,pa,_⟩:=I1.list (aU ex)
     obtain ⟨vs,rb,pb,_⟩:=I1.list (aU ey)
     refine call_zip_2 pa.isList pb.isList fun h' hz hI hO g1 g2 hsz hk => ?_
     refine wpAny_pyIter_zip (s:={ s1 with heap:=h' }) hz ⟨_,[s1.heap.objs.size + 4,s1.heap.objs.size + 2,s1.heap.objs.size + 3,s1.heap.objs.size,s1.heap.objs.size + 1],_,_,H1,rfl,I1.kept (t':=s1.toks) hk,
       aZT a b _ _ _ _ _ ⟨by simp,by simp,by simp,by simp,by simp,by simp,by simp,by simp,by simp,by simp⟩,⟨hz,hI,⟨_,_,hO⟩,g1,g2⟩,fun c hc => ?_,q⟩
     have z:s1.heap.objs.size ≤ c:=by
       simp only [List.mem_cons,List.not_mem_nil,or_false] at hc
       rcases hc with z | z | z | z | z <;> (rw [z]; first | exact Ai _ | exact Gg _ _)
     exact I1.fpOk z (I1.hok.fresh z)
   · exact q.elim
 · exact q.elim
end
section
variable {K:PySem.W.Frag} {a b:Addr} {xs ys:List V} {g:TG} {tb:TS} {D:Ends} {σ:St} {H:Hp}
theorem bJ8 (Pv:Nat → St → Hp → Prop) (h0:Pv 0 σ H) (hl:∀ i σ H,i ≤ xs.length → i ≤ ys.length → Pv i σ H → rdL H a = some xs ∧ rdL H b = some ys)
   (hs:∀ i x y σ H p,xs[i]? = some x → ys[i]? = some y → Pv i σ H → H p = none → g (.ref p) σ (upd H p (.tup [x,y])) fun σ2 H2 => tb { D with nx:=Pv (i + 1),ct:=Pv (i + 1),bk:=D.nx } σ2 H2)
   (hd:∀ σ H,Pv (min xs.length ys.length) σ H → D.nx σ H):nH (Itz K a b) g tb D σ H:=by
 refine ⟨fun i m σ H => m = min xs.length ys.length - i ∧ i ≤ min xs.length ys.length ∧ Pv i σ H,⟨min xs.length ys.length,by simp,Nat.zero_le _,h0⟩,?_⟩
 rintro i m σ H ⟨rfl,hi,p⟩
 obtain ⟨hr1,hr2⟩:=hl i σ H (by omega) (by omega) p
 by_cases hlt:i < min xs.length ys.length
 · refine .inr ⟨⟨xs,ys,xs[i]'(by omega),ys[i]'(by omega),aU hr1,aU hr2,Ab _,Ab _⟩,Pv (i + 1),fun σ' H' p' => ⟨min xs.length ys.length - (i + 1),by omega,rfl,hlt,p'⟩,fun x H' y => ?_⟩
   obtain ⟨q,x1,y1,hq,rfl,rfl,hx,hy⟩:=y
   exact hs i x1 y1 σ H q (hx xs (aU hr1)) (hy ys (aU hr2)) p hq
 · have e:i = min xs.length ys.length:=by omega
   subst e
   exact .inl ⟨⟨xs,ys,aU hr1,aU hr2,by omega⟩,hd σ H p⟩
theorem cQX {ta:TA} {R:It → Hp → Prop} (h:ta σ H (aQ5 fun a b H1 => onL (rdL H1 a) (onL (rdL H1 b) (R (Itz K a b) H1)))):cZL K ta σ H R:=h
theorem cXP {R:Addr → Addr → Hp → Prop} (h:R a b H):aQ5 R [.ref a,.ref b] H:=h
end
end L2
set_option maxHeartbeats 4000000
namespace L2
open PySem PySem.Spec PyProof.Rows
section
variable {X:Cx} {o e:Expr} {es:List Expr} {to:TE} {t:TA} {name:Str} {apos cpos:Pos} {T id:String} {r:V → List V → Hp → VK → Prop}
def bXJ:V → List V → Hp → VK → Prop:=fun x vs H Q => match x,vs with
 | .ref l,[.ref b] => (match eT H l,eT H b with | some xs,some zs => xs.length + zs.length ≤ sizeLine ∧ Q .non (upd H l (.lst (xs ++ zs))) | _,_ => False)
 | _,_ => False
theorem bZ5:MtR X "list.extend" bXJ:=MtR.imp (r:=xA) yF fun _ _ _ _ q => by
 unfold bXJ at q
 split at q
 · split at q
   · exact ⟨_,_,_,_,rfl,rfl,jA (by assumption),jA (by assumption),q.1,q.2⟩
   · exact q.elim
 · exact q.elim
def dQ6:V → List V → Hp → VK → Prop:=fun x vs H Q => match x,vs with
 | .ref l,[] => (match eT H l with | some xs => (match xs[xs.length - 1]? with | some y => Q y (upd H l (.lst xs.dropLast)) | none => False) | none => False)
 | .ref l,[.int i] => (match eT H l with | some xs => (-(2 ^ 63) ≤ i ∧ i < 2 ^ 63) ∧ (match seqIndex? i xs.length with | some k => (match xs[k]? with | some y => Q y (upd H l (.lst (xs.eraseIdx k))) | none => False) | none => False) | none => False)
 | _,_ => False
def cQK:List V → Hp → VK → Prop:=fun xs H Q => match xs with
 | [.int i] => i.natAbs.log2 < 1920 ∧ Q (.str (toString i)) H
 | _ => False
theorem bZM:CallR X (.type "str") cQK:=call_str_int.imp fun _ _ _ q => by
 unfold cQK at q
 split at q
 · exact ⟨_,rfl,q.1,q.2⟩
 · exact q.elim
end
section
variable {σ:St} {H:Hp} {Q:VK} {l b:Addr} {xs zs:List V} {y:V} {i:Int} {k:Nat} {to:TE} {T:String} {r:V → List V → Hp → VK → Prop}
theorem cJM (e:eT H l = some xs) (e':eT H b = some zs) (c:xs.length + zs.length ≤ sizeLine) (h:Q .non (upd H l (.lst (xs ++ zs)))):bXJ (.ref l) [.ref b] H Q:=by unfold bXJ; simp only [e,e']; exact ⟨c,h⟩
theorem s_str (c:i.natAbs.log2 < 1920) (h:Q (.str (toString i)) H):cQK [.int i] H Q:=⟨c,h⟩
end
end L2
set_option maxHeartbeats 4000000
namespace L2
open PySem PySem.Spec PyProof.Rows
theorem xI {H:Hp} {p:Addr} {xs:List V} (h:H p = some (.lst xs)):tyN (.ref p) H = some "list" := by unfold tyN; simp only [h]
theorem none_of {H H':Hp} {r:Addr} (s:Same H H') (h:H' r = none):H r = none:=by
 cases e:H r with
 | none => rfl
 | some o => rw [s _ _ e] at h; cases h
theorem bG {H H':Hp} {p:Addr} {o:HO} (hp:H p = none) (s:Same H H'):Same H (upd H' p o):=fun b u q => by rw [aH (aZ q hp)]; exact s b u q
section
variable {g:TG} {tests:TT} {te:TE} {σ0:St} {Q:VK} {H1:Hp}
theorem jN {J:It} {n:Nat} (R:Addr → Nat → List V → Hp → Prop) (hl:n < sizeLine) (h0:∀ D,H1 D = none → R D 0 [] (upd H1 D (.lst [])))
   (hgo:∀ D i ys Hc,H1 D = none → R D i ys Hc → i < n → J.go i Hc) (hst:∀ D ys Hc,H1 D = none → R D n ys Hc → J.stop n Hc)
   (hs:∀ D i ys Hc x H' (A:VK) (B:Hp → Prop),H1 D = none → i < n → R D i ys Hc → Hc D = some (.lst ys) → J.yld i Hc x H' →
     (∀ y H4,H4 D = some (.lst ys) → R D (i + 1) (ys ++ [y]) (upd H4 D (.lst (ys ++ [y]))) → A y H4) → (∀ H3,H3 D = some (.lst ys) → R D (i + 1) ys H3 → B H3) →
     g x σ0 H' fun σ2 H2 => Wk σ0 σ2 ∧ tests σ2 H2 fun b H3 => if b = true then te σ2 H3 A else B H3)
   (fin:∀ D ys Hc,H1 D = none → R D n ys Hc → Hc D = some (.lst ys) → ys.length ≤ n → Q (.ref D) Hc):eL g tests te σ0 Q J H1:=by
 intro D hD
 refine ⟨fun i m Hc => m = n - i ∧ i ≤ n ∧ ∃ ys,ys.length ≤ i ∧ Hc D = some (.lst ys) ∧ R D i ys Hc,⟨n,by simp,Nat.zero_le _,[],Nat.le_refl _,aB,h0 D hD⟩,?_⟩
 rintro i m Hc ⟨rfl,hi,ys,hy,hDc,r⟩
 by_cases hlt:i < n
 · refine .inr ⟨hgo D i ys Hc hD r hlt,fun x H' y => hs D i ys Hc x H' _ _ hD hlt r hDc y (fun z H4 e r4 => ?_) (fun H3 e r3 => ?_)⟩
   · exact ⟨ys,e,by omega,n - (i + 1),by omega,rfl,hlt,ys ++ [z],by rw [Ar]; show ys.length + 1 ≤ _; omega,aB,r4⟩
   · exact ⟨n - (i + 1),by omega,rfl,hlt,ys,by omega,e,r3⟩
 · have e:i = n:=by omega
   subst e
   exact .inl ⟨hst D ys Hc hD r,fin D ys Hc hD r hDc hy⟩
def Tups (H1 Hc:Hp) (ps:List Addr) (fs:List (List V)):Prop:=ps.length = fs.length ∧ ∀ (j:Nat) p t,ps[j]? = some p → fs[j]? = some t → H1 p = none ∧ Hc p = some (.tup t)
theorem Tups.keep {H1 Hc Hd:Hp} {ps:List Addr} {fs:List (List V)} (t:Tups H1 Hc ps fs) (s:Same Hc Hd):Tups H1 Hd ps fs:=⟨t.1,fun j p u hp hu => ⟨(t.2 j p u hp hu).1,s _ _ (t.2 j p u hp hu).2⟩⟩
theorem Tups.older {H0 H1 Hc:Hp} {ps:List Addr} {fs:List (List V)} (t:Tups H1 Hc ps fs) (s:Same H0 H1):Tups H0 Hc ps fs:=⟨t.1,fun j p u hp hu => ⟨none_of s (t.2 j p u hp hu).1,(t.2 j p u hp hu).2⟩⟩
theorem Tups.put {H1 Hc:Hp} {ps:List Addr} {fs:List (List V)} {D:Addr} {ys zs:List V} (t:Tups H1 Hc ps fs) (h:Hc D = some (.lst ys)):Tups H1 (upd Hc D (.lst zs)) ps fs:=⟨t.1,fun j p u hp hu => by
 obtain ⟨a,b⟩:=t.2 j p u hp hu
 refine ⟨a,?_⟩
 rw [aH fun z => by rw [z,h] at b; cases b]
 exact b⟩
theorem Tups.app {H1 Hc:Hp} {ps qs:List Addr} {fs gs:List (List V)} (t:Tups H1 Hc ps fs) (u:Tups H1 Hc qs gs):Tups H1 Hc (ps ++ qs) (fs ++ gs):=by
 refine ⟨by rw [Ar,Ar,t.1,u.1],fun j p v hp hv => ?_⟩
 by_cases h:j < ps.length
 · rw [Ba h] at hp
   rw [Ba (by rw [← t.1]; exact h)] at hv
   exact t.2 j p v hp hv
 · rw [Bf (by omega)] at hp
   rw [Bf (by rw [← t.1]; omega),← t.1] at hv
   exact u.2 _ p v hp hv
theorem Tups.nil {H1 Hc:Hp}:Tups H1 Hc [] []:=⟨rfl,fun j p u hp => by cases hp⟩
theorem Tups.one {H1 Hc:Hp} {p:Addr} {t:List V} (a:H1 p = none) (b:Hc p = some (.tup t)):Tups H1 Hc [p] [t]:=⟨rfl,fun j q u hq hu => by
 cases j with
 | zero => cases hq; cases hu; exact ⟨a,b⟩
 | succ j => cases hq⟩
theorem xU {n:Nat} {lo:Int} (f:Nat → List V) (hl:n < sizeLine)
   (hs:∀ (i:Nat) Hc (A:VK) (B:Hp → Prop),i < n → Same H1 Hc → (∀ p Hd,Hc p = none → Same Hc Hd → Hd p = some (.tup (f i)) → A (.ref p) Hd) →
     g (.int (lo + i)) σ0 Hc fun σ2 H2 => Wk σ0 σ2 ∧ tests σ2 H2 fun b H3 => if b = true then te σ2 H3 A else B H3)
   (fin:∀ D Hd ps,H1 D = none → Same H1 Hd → Hd D = some (.lst (ps.map V.ref)) → ps.length = n → Tups H1 Hd ps ((List.range n).map f) → Q (.ref D) Hd):eL g tests te σ0 Q (Itr lo n) H1:=by
 refine jN (n:=n) (fun D i ys Hc => Same H1 Hc ∧ ∃ ps,ys = ps.map V.ref ∧ ps.length = i ∧ Tups H1 Hc ps ((List.range i).map f)) hl (fun D hD => ⟨aF hD _,[],rfl,rfl,.nil⟩) (fun D i ys Hc _ r h => h) (fun D ys Hc _ r => Ai n) ?_ ?_
 · rintro D i ys Hc x H' A B hD hi ⟨sm,ps,rfl,hn,tp⟩ hDc ⟨rfl,rfl⟩ ha hb
   refine hs i H' A B hi sm (fun p Hd hp sd hd => ?_)
   refine ha _ _ (sd _ _ hDc) ⟨bG hD (sm.trans sd),ps ++ [p],by rw [Ax]; rfl,by rw [Ar,hn]; rfl,?_⟩
   rw [Dp,Ax]
   exact ((tp.keep sd).app (.one (none_of sm hp) hd)).put (sd _ _ hDc)
 · rintro D ys Hc hD ⟨sm,ps,rfl,hn,tp⟩ hDc _
   exact fin D Hc ps hD sm hDc hn tp
end
end L2
set_option maxHeartbeats 4000000
namespace L2
open PySem PySem.Spec PyProof.Rows
section
variable {X:Cx} {tg a b c:Expr} {p pos:Pos}
end
section
variable {K:PySem.W.Frag} {c:Addr} {xs:List V} {lo st:Int} {n:Nat} {g:TG} {tb:TS} {D:Ends} {σ:St} {H:Hp} {tA:TA} {R:It → Hp → Prop} {i j k:Int}
end
def Alk (H:Hp):Nat → V → V → Prop
 | 0,x,y => x = y ∧ aW x = true
 | n + 1,x,y => (x = y ∧ aW x = true) ∨ ∃ p q xs ys,x = .ref p ∧ y = .ref q ∧ ((rdL H p = some xs ∧ rdL H q = some ys) ∨ (iZ H p = some xs ∧ iZ H q = some ys)) ∧ xs.length = ys.length ∧ ∀ (j:Nat) x' y',xs[j]? = some x' → ys[j]? = some y' → Alk H n x' y'
theorem Alk.flat {H:Hp} {n:Nat} {x:V} (h:aW x = true):Alk H n x x:=by
 cases n with
 | zero => exact ⟨rfl,h⟩
 | succ n => exact .inl ⟨rfl,h⟩
theorem Alk.lst {H:Hp} {n:Nat} {p q:Addr} {xs ys:List V} (hp:rdL H p = some xs) (hq:rdL H q = some ys) (hl:xs.length = ys.length) (h:∀ (j:Nat) x y,xs[j]? = some x → ys[j]? = some y → Alk H n x y):Alk H (n + 1) (.ref p) (.ref q):=.inr ⟨p,q,xs,ys,rfl,rfl,.inl ⟨hp,hq⟩,hl,h⟩
theorem Alk.tup {H:Hp} {n:Nat} {p q:Addr} {xs ys:List V} (hp:iZ H p = some xs) (hq:iZ H q = some ys) (hl:xs.length = ys.length) (h:∀ (j:Nat) x y,xs[j]? = some x → ys[j]? = some y → Alk H n x y):Alk H (n + 1) (.ref p) (.ref q):=.inr ⟨p,q,xs,ys,rfl,rfl,.inr ⟨hp,hq⟩,hl,h⟩
theorem Alk.flats {H:Hp} {n:Nat} {xs:List V} (f:xs.all aW = true):∀ (j:Nat) x y,xs[j]? = some x → xs[j]? = some y → Alk H n x y:=fun j x y hx hy => by
 rw [hx] at hy
 cases hy
 exact .flat (Dz.mp f x (As hx))
theorem Alk.tups {H H1 H2:Hp} {n:Nat} {ps qs:List Addr} {fs:List (List V)} (tp:Tups H1 H ps fs) (tq:Tups H2 H qs fs) (f:∀ t ∈ fs,t.all aW = true):∀ (j:Nat) x y,(ps.map V.ref)[j]? = some x → (qs.map V.ref)[j]? = some y → Alk H (n + 1) x y:=fun j x y hx hy => by
 rw [Al] at hx hy
 cases ep:ps[j]? with
 | none => rw [ep] at hx; cases hx
 | some p =>
   cases eq:qs[j]? with
   | none => rw [eq] at hy; cases hy
   | some q =>
     rw [ep] at hx
     rw [eq] at hy
     cases hx
     cases hy
     have hj:j < fs.length:=by rw [← tp.1]; exact (Af.mp ep).1
     have a:=(tp.2 j p fs[j] ep (Ab hj)).2
     have b:=(tq.2 j q fs[j] eq (Ab hj)).2
     exact .tup (eI a) (eI b) rfl (.flats (f _ (Bh _)))
theorem mD {x:V} (h:aW x = true):eqV x x = true:=by
 cases x <;> first | rfl | (simp [eqV]; done) | (cases h; done)
section
variable {X:Cx}
end
def Lsts (H1 Hc:Hp) (ps:List Addr) (fs:List (List V)):Prop:=ps.length = fs.length ∧ ∀ (j:Nat) p t,ps[j]? = some p → fs[j]? = some t → H1 p = none ∧ Hc p = some (.lst t)
theorem Lsts.keep {H1 Hc Hd:Hp} {ps:List Addr} {fs:List (List V)} (t:Lsts H1 Hc ps fs) (s:Same Hc Hd):Lsts H1 Hd ps fs:=⟨t.1,fun j p u hp hu => ⟨(t.2 j p u hp hu).1,s _ _ (t.2 j p u hp hu).2⟩⟩
theorem Lsts.older {H0 H1 Hc:Hp} {ps:List Addr} {fs:List (List V)} (t:Lsts H1 Hc ps fs) (s:Same H0 H1):Lsts H0 Hc ps fs:=⟨t.1,fun j p u hp hu => ⟨none_of s (t.2 j p u hp hu).1,(t.2 j p u hp hu).2⟩⟩
theorem Lsts.put {H1 Hc:Hp} {ps:List Addr} {fs:List (List V)} {D:Addr} {o:HO} (t:Lsts H1 Hc ps fs) (h:∀ p ∈ ps,p ≠ D):Lsts H1 (upd Hc D o) ps fs:=⟨t.1,fun j p u hp hu => by
 obtain ⟨a,b⟩:=t.2 j p u hp hu
 refine ⟨a,?_⟩
 rw [aH (h p (As hp))]
 exact b⟩
theorem Lsts.snoc {H1 Hc:Hp} {ps:List Addr} {fs:List (List V)} {q:Addr} {g:List V} (t:Lsts H1 Hc ps fs) (a:H1 q = none) (b:Hc q = some (.lst g)):Lsts H1 Hc (ps ++ [q]) (fs ++ [g]):=by
 refine ⟨by rw [Ar,Ar,t.1]; rfl,fun j p v hp hv => ?_⟩
 by_cases h:j < ps.length
 · rw [Ba h] at hp
   rw [Ba (by rw [← t.1]; exact h)] at hv
   exact t.2 j p v hp hv
 · rw [Bf (by omega)] at hp
   rw [Bf (by rw [← t.1]; omega),← t.1] at hv
   cases e:j - ps.length with
   | zero => rw [e] at hp hv; cases hp; cases hv; exact ⟨a,b⟩
   | succ n => rw [e] at hp; cases hp
theorem Lsts.nil {H1 Hc:Hp}:Lsts H1 Hc [] []:=⟨rfl,fun j p u hp => by cases hp⟩
theorem Lsts.mem {H1 Hc:Hp} {ps:List Addr} {fs:List (List V)} (t:Lsts H1 Hc ps fs) {p:Addr} (hp:p ∈ ps):∃ g ∈ fs,H1 p = none ∧ Hc p = some (.lst g):=by
 obtain ⟨j,hj⟩:=Dw.mp hp
 have hl:j < fs.length:=by rw [← t.1]; exact (Af.mp hj).1
 exact ⟨fs[j],Bh _,t.2 j p _ hj (Ab hl)⟩
section
variable {X:Cx}
theorem fV (ns:List Int):∀ n,n ≤ ns.length → preSum (fun i => ns.getD i 0) n = (ns.take n).sum
 | 0,_ => by simp [preSum]
 | n + 1,h => by
   have ih:=fV ns n (by omega)
   have e:ns.take (n + 1) = ns.take n ++ [ns.getD n 0]:=by rw [Bq,Ag,Ab (by omega)]; rfl
   rw [e,List.sum_append,← ih]
   simp [preSum]
theorem yG {ns:List Int} (h:∀ n ∈ ns,0 ≤ n ∧ n ≤ 1000000):0 ≤ ns.sum ∧ ns.sum ≤ 1000000 * (ns.length:Int):=by
 induction ns with
 | nil => simp
 | cons n r ih =>
   obtain ⟨a,b⟩:=h n (An ..)
   obtain ⟨c,d⟩:=ih fun m hm => h m (Am _ hm)
   rw [Df,Bi]
   constructor
   · omega
   · push_cast; omega
def cZY:List V → Hp → VK → Prop:=fun xs H Q => ∃ (p:Addr) (ns:List Int),xs = [.ref p] ∧ rdL H p = some (ns.map V.int) ∧ (∀ n ∈ ns,0 ≤ n ∧ n ≤ 1000000) ∧ ns.length ≤ 100000 ∧ Q (.int ns.sum) H
theorem cJ3 {p:Addr} {ns:List Int} {H:Hp} {Q:VK} (e:rdL H p = some (ns.map V.int)) (hb:∀ n ∈ ns,0 ≤ n ∧ n ≤ 1000000) (hl:ns.length ≤ 100000) (h:Q (.int ns.sum) H):cZY [.ref p] H Q:=⟨p,ns,rfl,e,hb,hl,h⟩
end
end L2
set_option maxHeartbeats 4000000
namespace L2
open PySem PySem.Spec PyProof.Rows
section
variable {κ:Type} [DecidableEq κ]
def bH (kvs:List (κ × V)) (k:κ):Option V:=(kvs.find? fun kv => decide (kv.1 = k)).map (·.2)
def bY (kvs:List (κ × V)) (k:κ) (v:V):List (κ × V) :=
 if (kvs.any fun kv => decide (kv.1 = k)) = true then kvs.map (fun kv => if kv.1 = k then (kv.1,v) else kv) else kvs ++ [(k,v)]
def bZP (kvs:List (κ × V)) (k:κ):List (κ × V):=kvs.filter fun kv => decide (kv.1 ≠ k)
theorem bM {p:κ × V} {r:List (κ × V)} {k:κ} (e:p.1 = k):bH (p :: r) k = some p.2:=by simp [bH,List.find?_cons,e]
theorem bF {p:κ × V} {r:List (κ × V)} {k:κ} (e:¬ p.1 = k):bH (p :: r) k = bH r k:=by simp [bH,List.find?_cons,e]
theorem cI (k:κ):∀ kvs:List (κ × V),(kvs.any fun kv => decide (kv.1 = k)) = (bH kvs k).isSome
 | [] => rfl
 | p :: r => by
   rw [Hm]
   by_cases e:p.1 = k
   · simp only [bM e,decide_eq_true e,Bool.true_or,Option.isSome_some]
   · rw [bF e,Bd e,Ho]; exact cI k r
theorem sX (k j:κ) (y:V):∀ kvs:List (κ × V),bH (kvs.map fun kv => if kv.1 = k then (kv.1,y) else kv) j = (bH kvs j).map fun x => if j = k then y else x
 | [] => rfl
 | p :: r => by
   have ih:=sX k j y r
   rw [Ay]
   by_cases h:p.1 = k
   · rw [if_pos h]
     by_cases e:p.1 = j
     · rw [bM (p:=(p.1,y)) e,bM e,Et,if_pos (e.symm.trans h)]
     · rw [bF (p:=(p.1,y)) e,bF e,ih]
   · rw [if_neg h]
     by_cases e:p.1 = j
     · rw [bM (p:=p) e,bM e,Et,if_neg (fun z => h (e.trans z))]
     · rw [bF (p:=p) e,bF e,ih]
theorem oQ (k j:κ) (y:V):∀ kvs:List (κ × V),bH kvs k = none → bH (kvs ++ [(k,y)]) j = if j = k then some y else bH kvs j
 | [],_ => by
   by_cases e:k = j
   · rw [if_pos e.symm]; exact bM (p:=(k,y)) e
   · rw [if_neg (fun z => e z.symm)]; exact bF (p:=(k,y)) e
 | p :: r,hn => by
   rw [List.cons_append]
   have hk:¬ p.1 = k:=fun z => by rw [bM z] at hn; cases hn
   rw [bF hk] at hn
   have ih:=oQ k j y r hn
   by_cases e:p.1 = j
   · rw [bM e,bM e,if_neg (fun z => hk (e.trans z))]
   · rw [bF e,bF e,ih]
theorem aXL (kvs:List (κ × V)) (k j:κ) (y:V):bH (bY kvs k y) j = if j = k then some y else bH kvs j:=by
 unfold bY
 by_cases a:(kvs.any fun kv => decide (kv.1 = k)) = true
 · rw [if_pos a,sX]
   rw [cI] at a
   by_cases e:j = k
   · obtain ⟨x,hx⟩:=Fb.mp a
     rw [if_pos e,e,hx,Et,if_pos rfl]
   · rw [if_neg e]
     cases bH kvs j with
     | none => rfl
     | some x => rw [Et,if_neg e]
 · rw [if_neg a]
   refine oQ k j y kvs ?_
   rw [cI] at a
   cases q:bH kvs k with
   | none => rfl
   | some x => rw [q] at a; exact (a rfl).elim
theorem dJ (kvs:List (κ × V)) (k:κ) (v:V):(bY kvs k v).length ≤ kvs.length + 1:=by
 unfold bY
 split
 · rw [Ac]; omega
 · rw [Ar,Bi,List.length_nil]; omega
theorem fW {kvs:List (κ × V)} {k:κ} (v:V) (h:bH kvs k = none):bY kvs k v = kvs ++ [(k,v)]:=by
 unfold bY
 rw [cI,h]
 exact if_neg (by decide)
theorem RelO.isSome_eq {o:Option V} {u:Option Value} (r:RelO o u):o.isSome = u.isSome:=by
 cases o with
 | none => cases u with
   | none => rfl
   | some _ => exact (show False from r).elim
 | some _ => cases u with
   | none => exact (show False from r).elim
   | some _ => rfl
theorem RelO.getD {o:Option V} {u:Option Value} {d:V} {d':Value} (r:RelO o u) (rd:RelV d d'):RelV (o.getD d) (u.getD d'):=by
 cases o with
 | none => cases u with
   | none => exact rd
   | some _ => exact (show False from r).elim
 | some _ => cases u with
   | none => exact (show False from r).elim
   | some _ => exact r
theorem KV.val {kvs:List (κ × V)} {vs:List (κ × Value)} (r:KV kvs vs) (k:κ):RelO (bH kvs k) (valueAt vs k):=by
 unfold KV at r
 induction r with
 | nil => exact True.intro
 | @cons p q ps qs h t ih =>
   obtain ⟨h1,h2⟩:=h
   by_cases e:p.1 = k
   · have e':q.1 = k:=h1.symm.trans e
     have b:valueAt (q :: qs) k = some q.2:=by simp [valueAt,List.find?_cons,e']
     rw [bM e,b]; exact h2
   · have e':¬ q.1 = k:=fun z => e (h1.trans z)
     have b:valueAt (q :: qs) k = valueAt qs k:=by simp [valueAt,List.find?_cons,e']
     rw [bF e,b]; exact ih
theorem KV.any {kvs:List (κ × V)} {vs:List (κ × Value)} (r:KV kvs vs) (k:κ):(kvs.any fun kv => decide (kv.1 = k)) = vs.any fun kv => decide (kv.1 = k):=by
 unfold KV at r
 induction r with
 | nil => rfl
 | cons h t ih => rw [Hm,Hm,ih,h.1]
theorem KV.repl {kvs:List (κ × V)} {vs:List (κ × Value)} (r:KV kvs vs) (k:κ) {y:V} {u:Value} (ry:RelV y u) :
   KV (kvs.map fun kv => if kv.1 = k then (kv.1,y) else kv) (vs.map fun kv => if kv.1 = k then (kv.1,u) else kv):=by
 unfold KV at r ⊢
 induction r with
 | nil => exact .nil
 | @cons p q ps qs h t ih =>
   rw [Ay,Ay]
   refine .cons ?_ ih
   obtain ⟨h1,h2⟩:=h
   by_cases e:p.1 = k
   · rw [if_pos e,if_pos (h1.symm.trans e)]; exact ⟨h1,ry⟩
   · rw [if_neg e,if_neg (fun z => e (h1.trans z))]; exact ⟨h1,h2⟩
theorem KV.put {kvs:List (κ × V)} {vs:List (κ × Value)} (r:KV kvs vs) (k:κ) {y:V} {u:Value} (ry:RelV y u):KV (bY kvs k y) (stored vs k u):=by
 unfold bY stored
 rw [r.any k]
 by_cases e:(vs.any fun kv => decide (kv.1 = k)) = true
 · rw [if_pos e,if_pos e]; exact r.repl k ry
 · rw [if_neg e,if_neg e]; exact Paired.snoc r ⟨rfl,ry⟩
theorem KV.drop {kvs:List (κ × V)} {vs:List (κ × Value)} (r:KV kvs vs) (k:κ):KV (bZP kvs k) (without vs k):=by
 unfold KV at r ⊢
 unfold bZP without
 induction r with
 | nil => exact .nil
 | @cons p q ps qs h t ih =>
   obtain ⟨h1,h2⟩:=h
   rw [Gh,Gh]
   by_cases e:p.1 = k
   · have a:¬ decide (p.1 ≠ k) = true:=by simp [e]
     have b:¬ decide (q.1 ≠ k) = true:=by simp [h1.symm.trans e]
     rw [if_neg a,if_neg b]; exact ih
   · have e':¬ q.1 = k:=fun z => e (h1.trans z)
     have a:decide (p.1 ≠ k) = true:=by simp [e]
     have b:decide (q.1 ≠ k) = true:=by simp [e']
     rw [if_pos a,if_pos b]; exact .cons ⟨h1,h2⟩ ih
theorem KV.keys {kvs:List (κ × V)} {vs:List (κ × Value)} (r:KV kvs vs):kvs.map (·.1) = vs.map (·.1):=by
 unfold KV at r
 induction r with
 | nil => rfl
 | cons h t ih => rw [Ay,Ay,ih,h.1]
theorem KV.length {kvs:List (κ × V)} {vs:List (κ × Value)} (r:KV kvs vs):kvs.length = vs.length:=Paired.length r
end
theorem lF {P:Program} {w:World} {k:Key} {u:Value} (r:RelV (kV k) u):(aM P w).is k u = true:=by
 cases k with
 | inl i => obtain ⟨t,e⟩:=(show ∃ t,u = Value.int i t from r); subst e; exact sC P w i t
 | inr x => obtain ⟨t,e⟩:=(show ∃ t,u = Value.str x t from r); subst e; exact rF P w x t
theorem oB {P:Program} {w:World}:∀ {ks:List Key} {us:List Value},Vals (ks.map kV) us → ItemsAre (aM P w) ks us
 | [],_,r => by rw [List.map_nil] at r; cases r; exact .nil
 | k :: ks,_,r => by
   rw [Ay] at r
   cases r with
   | cons h t => exact .cons (lF h) (oB t)
abbrev KT (H:Hp):List (List Key × V) → List (List Key × Addr × Value) → Prop:=Paired fun p q => p.1 = q.1 ∧ H q.2.1 = some (.tup (p.1.map kV)) ∧ RelV p.2 q.2.2
theorem KT.val {H:Hp} {kvs:List (List Key × V)} {xs:List (List Key × Addr × Value)} (r:KT H kvs xs) (k:List Key):RelO (bH kvs k) ((atKey xs k).map (·.2)):=by
 induction r with
 | nil => exact True.intro
 | @cons p q ps qs h t ih =>
   obtain ⟨h1,_,h2⟩:=h
   by_cases e:p.1 = k
   · have e':q.1 = k:=h1.symm.trans e
     have b:atKey (q :: qs) k = some q.2:=by simp [atKey,List.find?_cons,e']
     rw [bM e,b]; exact h2
   · have e':¬ q.1 = k:=fun z => e (h1.trans z)
     have b:atKey (q :: qs) k = atKey qs k:=by simp [atKey,List.find?_cons,e']
     rw [bF e,b]; exact ih
theorem KT.repl {H:Hp} {kvs:List (List Key × V)} {xs:List (List Key × Addr × Value)} (r:KT H kvs xs) (k:List Key) {y:V} {u:Value} (ry:RelV y u) :
   KT H (kvs.map fun kv => if kv.1 = k then (kv.1,y) else kv) (xs.map (putAt k u)):=by
 induction r with
 | nil => exact .nil
 | @cons p q ps qs h t ih =>
   rw [Ay,Ay]
   refine .cons ?_ ih
   obtain ⟨h1,h2,h3⟩:=h
   unfold putAt
   by_cases e:p.1 = k
   · rw [if_pos e,if_pos (h1.symm.trans e)]; exact ⟨h1,h2,ry⟩
   · rw [if_neg e,if_neg (fun z => e (h1.trans z))]; exact ⟨h1,h2,h3⟩
theorem KT.put {H:Hp} {kvs:List (List Key × V)} {xs:List (List Key × Addr × Value)} (r:KT H kvs xs) (k:List Key) {b:Addr} {y:V} {u:Value} (hb:H b = some (.tup (k.map kV))) (ry:RelV y u) :
   KT H (bY kvs k y) (storedH xs k b u):=by
 have e:(kvs.any fun kv => decide (kv.1 = k)) = (atKey xs k).isSome:=by
   rw [cI,(r.val k).isSome_eq,Hg]
 unfold bY storedH
 rw [e]
 by_cases q:(atKey xs k).isSome = true
 · rw [if_pos q,if_pos q]; exact r.repl k ry
 · rw [if_neg q,if_neg q]; exact Paired.snoc r ⟨rfl,hb,ry⟩
theorem KT.keeps {H H':Hp} {kvs:List (List Key × V)} {xs:List (List Key × Addr × Value)} (r:KT H kvs xs) (ht:∀ b ys,H b = some (.tup ys) → H' b = some (.tup ys)):KT H' kvs xs :=
 Paired.mapP r fun _ _ z => ⟨z.1,ht _ _ z.2.1,z.2.2⟩
section
variable {P:Program} {w:World} {H:Hp} {h:Heap} {a:Addr}
theorem bZK {u:HO} (ok:HOk P w H h) (e:Rd H a u):ObjOk P w H h a u:=e.ok ok
theorem eO {kvs:List (Key × V)} (ok:HOk P w H h) (e:Rd H a (.dK kvs)):kvs.length ≤ sizeLine ∧ (a == sysModules) = false ∧ ∃ vs,KV kvs vs ∧ h.DictOf (aM P w) a vs :=
 show ObjOk P w H h a (.dK kvs) from bZK ok e
theorem bZY {kvs:List (Key × V)} (ok:HOk P w H h) (e:H a = some (.dK kvs)):kvs.length ≤ sizeLine ∧ (a == sysModules) = false ∧ ∃ vs,KV kvs vs ∧ h.DictOf (aM P w) a vs:=eO ok (.inl e)
theorem iD {ks:List Key} (ok:HOk P w H h) (e:H a = some (.tup (ks.map kV))):(tupleKind (aM P w)).is h ks a:=by
 obtain ⟨_,its,r,o,h1,h2,n,h3⟩:=(show ObjOk P w H h a (.tup (ks.map kV)) from ok a _ e)
 exact ⟨o,its.toArray,n,h1,h2,h3,by simpa using oB r⟩
theorem kM {kvs:List (List Key × V)} (ok:HOk P w H h) (e:Rd H a (.dT kvs)):kvs.length ≤ sizeLine ∧ (a == sysModules) = false ∧
   ∃ xs,KT H kvs xs ∧ h.DictOfH (tupleKind (aM P w)) a xs:=by
 obtain ⟨z,y,xs,r,o,es,ep,h1,h2,h3,h4,h5⟩:=(show ObjOk P w H h a (.dT kvs) from bZK ok e)
 refine ⟨z,y,xs,r,o,es,ep,h1,h2,h3,h4,fun x hx => ?_,h5⟩
 have all:∀ {l:List (List Key × V)} {m:List (List Key × Addr × Value)},KT H l m → ∀ x ∈ m,(tupleKind (aM P w)).is h x.1 x.2.1:=by
   intro l m q
   induction q with
   | nil => intro x hx; exact nomatch hx
   | @cons p q ps qs hq t ih =>
     intro x hx
     rcases Be.mp hx with e | hx
     · subst e
       exact iD ok (by rw [← hq.1]; exact hq.2.1)
     · exact ih x hx
 exact all r x hx
theorem bZS {kvs:List (List Key × V)} (ok:HOk P w H h) (e:H a = some (.dT kvs)):kvs.length ≤ sizeLine ∧ (a == sysModules) = false ∧
   ∃ xs,KT H kvs xs ∧ h.DictOfH (tupleKind (aM P w)) a xs:=kM ok (.inl e)
end
def DGet (H:Hp) (a:Addr) (y:V) (r:Option V):Prop :=
 (∃ kvs k,Rd H a (.dK kvs) ∧ y = kV k ∧ r = bH kvs k) ∨ ∃ kvs k b,Rd H a (.dT kvs) ∧ y = .ref b ∧ H b = some (.tup (k.map kV)) ∧ r = bH kvs k
def DPut (H:Hp) (a:Addr) (y v:V) (H':Hp):Prop :=
 (∃ kvs k,H a = some (.dK kvs) ∧ y = kV k ∧ kvs.length < sizeLine ∧ H' = upd H a (.dK (bY kvs k v))) ∨
 ∃ kvs k b,H a = some (.dT kvs) ∧ y = .ref b ∧ H b = some (.tup (k.map kV)) ∧ kvs.length < sizeLine ∧ H' = upd H a (.dT (bY kvs k v))
theorem DGet.k {H:Hp} {a:Addr} {kvs:List (Key × V)} {k:Key} (e:H a = some (.dK kvs)):DGet H a (kV k) (bH kvs k):=.inl ⟨kvs,k,.inl e,rfl,rfl⟩
theorem DGet.t {H:Hp} {a b:Addr} {kvs:List (List Key × V)} {k:List Key} (e:H a = some (.dT kvs)) (eb:H b = some (.tup (k.map kV))):DGet H a (.ref b) (bH kvs k):=.inr ⟨kvs,k,b,.inl e,rfl,eb,rfl⟩
theorem DPut.k {H:Hp} {a:Addr} {kvs:List (Key × V)} {k:Key} {v:V} (e:H a = some (.dK kvs)) (hl:kvs.length < sizeLine):DPut H a (kV k) v (upd H a (.dK (bY kvs k v))):=.inl ⟨kvs,k,e,rfl,hl,rfl⟩
theorem DPut.t {H:Hp} {a b:Addr} {kvs:List (List Key × V)} {k:List Key} {v:V} (e:H a = some (.dT kvs)) (eb:H b = some (.tup (k.map kV))) (hl:kvs.length < sizeLine) :
   DPut H a (.ref b) v (upd H a (.dT (bY kvs k v))):=.inr ⟨kvs,k,b,e,rfl,eb,hl,rfl⟩
section
variable {X:Cx} {pins:List (Addr × Obj)} {σ:St} {H:Hp} {s:Shared} {a:Addr} {y v:V} {u r:Value} {o:Option V} {A:Around} {E:Value → Shared → Prop}
theorem Inv.big (I:Inv X pins σ H s):sysModules < s.heap.objs.size:=by
 have h:mainGlobals < s.heap.objs.size:=(I.mod.glob.keeps I.bk).lt
 exact Nat.lt_trans (by decide) h
theorem yN {Q:Value → Shared → Prop} (hu:A.units + 1 < cLine) (I:Inv X pins σ H s) (g:DGet H a y (some v)) (ry:RelV y u) (h:∀ w' s',Inv X pins σ H s' → RelV v w' → Q w' s') :
   wpAny (model X.prog X.w) A (getItem (.ref a) u) Q E s:=by
 rcases g with ⟨kvs,k,e,ey,l⟩ | ⟨kvs,k,b,e,ey,eb,l⟩
 · subst ey
   obtain ⟨z,hd,vs,rel,dd⟩:=eO I.hok e
   obtain ⟨w',hw,rw'⟩:=RelO.some_of (v:=v) (o:=valueAt vs k) (by rw [l]; exact rel.val k)
   exact wpAny_getItem_of (lF ry) dd.mapOf hw (h w' _ (I.tok _) rw')
 · subst ey
   cases (show u = Value.ref b from ry)
   obtain ⟨z,hd,xs,rel,dd⟩:=kM I.hok e
   obtain ⟨w',hw,rw'⟩:=RelO.some_of (v:=v) (o:=(atKey xs k).map (·.2)) (by rw [l]; exact rel.val k)
   obtain ⟨p,hp,hp2⟩:=Ck.mp hw
   refine wpAny_getItem_heap (En hu) (iD I.hok eb) dd hp ?_
   rw [hp2]
   exact h w' _ (I.tok _) rw'
theorem cZI {Q:Value → Shared → Prop} (hu:A.units + 1 < cLine) (I:Inv X pins σ H s) (g:DGet H a y o) (ry:RelV y u) (h:∀ s',Inv X pins σ H s' → Q (.bool o.isSome) s') :
   wpAny (model X.prog X.w) A (compareOp .In u (.ref a)) Q E s:=by
 rcases g with ⟨kvs,k,e,ey,l⟩ | ⟨kvs,k,b,e,ey,eb,l⟩
 · subst ey
   obtain ⟨z,hd,vs,rel,dd⟩:=eO I.hok e
   refine wpAny_in_of (lF ry) hd dd.mapOf ?_
   rw [← (rel.val k).isSome_eq,← l]
   exact h _ (I.tok _)
 · subst ey
   cases (show u = Value.ref b from ry)
   obtain ⟨z,hd,xs,rel,dd⟩:=kM I.hok e
   refine wpAny_in_heap (En hu) (iD I.hok eb) hd dd ?_
   have q:=(rel.val k).isSome_eq
   rw [Hg] at q
   rw [← q,← l]
   exact h _ (I.tok _)
theorem bXE {Q:Value → Shared → Prop} (hu:A.units + 1 < cLine) (I:Inv X pins σ H s) (g:DGet H a y o) (ry:RelV y u) (h:∀ s',Inv X pins σ H s' → Q (.bool (!o.isSome)) s') :
   wpAny (model X.prog X.w) A (compareOp .NotIn u (.ref a)) Q E s:=by
 rcases g with ⟨kvs,k,e,ey,l⟩ | ⟨kvs,k,b,e,ey,eb,l⟩
 · subst ey
   obtain ⟨z,hd,vs,rel,dd⟩:=eO I.hok e
   refine wpAny_notIn_of (lF ry) hd dd.mapOf ?_
   rw [← (rel.val k).isSome_eq,← l]
   exact h _ (I.tok _)
 · subst ey
   cases (show u = Value.ref b from ry)
   obtain ⟨z,hd,xs,rel,dd⟩:=kM I.hok e
   refine wpAny_notIn_heap (En hu) (iD I.hok eb) hd dd ?_
   have q:=(rel.val k).isSome_eq
   rw [Hg] at q
   rw [← q,← l]
   exact h _ (I.tok _)
theorem xC {h':Heap} {t':Nat} {ob:HO} (I:Inv X pins σ H s) (mu:Mut (H a)) (hs:Heap.SameBut a s.heap h') (he:∃ q,h'.get? a = some q) (new:ObjOk X.prog X.w (upd H a ob) h' a ob) :
   Inv X pins σ (upd H a ob) { s with heap:=h',toks:=t' } :=
 I.write (x:=a) (e:=a) mu (.inl rfl) (fun b q hb z => (hs.2 b hb).trans z) he new
theorem aXQ {P:Program} {w:World} {H':Hp} {h':Heap} {kvs:List (Key × V)} {vs:List (Key × Value)} (z:kvs.length ≤ sizeLine) (hd:(a == sysModules) = false) (rel:KV kvs vs) (dd:h'.DictOf (aM P w) a vs) :
   ObjOk P w H' h' a (.dK kvs):=⟨z,hd,vs,rel,dd⟩
theorem zZ {H':Hp} {Q:Unit → Shared → Prop} (hu:A.units + 1 < cLine) (I:Inv X pins σ H s) (g:DPut H a y v H') (ry:RelV y u) (rv:RelV v r) (h:∀ s',Inv X pins σ H' s' → Q () s') :
   wpAny (model X.prog X.w) A (setItem (.ref a) u r) Q E s:=by
 rcases g with ⟨kvs,k,e,ey,l,eH⟩ | ⟨kvs,k,b,e,ey,eb,l,eH⟩
 · subst ey eH
   obtain ⟨z,hd,vs,rel,dd⟩:=bZY I.hok e
   have hz:vs.length ≤ sizeLine:=by rw [← rel.length]; exact z
   have hl:(bY kvs k v).length ≤ sizeLine:=by have:=dJ kvs k v; omega
   refine wpAny_setItem_pairs (hsz:=hz) (lF ry) dd fun h' dd' hs => h _ ?_
   have he:∃ q,h'.get? a = some q:=let ⟨q,_,_,hq,_⟩:=dd'; ⟨q,hq⟩
   exact xC I (by rw [e]; exact True.intro) hs he (aXQ hl hd (rel.put k rv) dd')
 · subst ey eH
   cases (show u = Value.ref b from ry)
   obtain ⟨z,hd,xs,rel,dd⟩:=bZS I.hok e
   have hz:xs.length ≤ sizeLine:=by rw [← Paired.length rel]; exact z
   have hl:(bY kvs k v).length ≤ sizeLine:=by have:=dJ kvs k v; omega
   refine wpAny_setItem_heap (hsz:=hz) (En hu) (iD I.hok eb) dd fun h' dd' hs => h _ ?_
   obtain ⟨q,es,ep,hq,h2,h3,h4,_,h5⟩:=dd'
   refine xC I (by rw [e]; exact True.intro) hs ⟨q,hq⟩ ⟨hl,hd,_,(rel.put k eb rv).keeps fun c ys ec => ?_,q,es,ep,hq,h2,h3,h4,h5⟩
   rw [aH (cZS ec e (fun z => nomatch z))]
   exact ec
end
section
variable {X:Cx} {pins:List (Addr × Obj)} {σ:St} {H:Hp} {s:Shared} {a:Addr} {kvs:List (Key × V)} {k:Key} {u:Value} {A:Around} {E:Value → Shared → Prop}
end
def cZR (i:Expr):Prop:=∀ ov iv,subscripted i false ov iv = operate [ov,iv] (getItem ov iv)
theorem bQT {prog:Program} {w:World} {A:Around} {E:Value → Shared → Prop} {s:Shared} {env:Env} {value slice:Expr} {pos:Pos} {T id:String} {Q:Value → Shared → Prop}
   (hl:typeLookup (.type T) "__getitem__" = pure (some (.builtin id))) (hs:cZR slice)
   (h:wpAny (model prog w) A (eval value env) (fun o s₁ => wpAny (model prog w) A (eval slice env) (fun i s₂ => s₂.TypeIs o T ∧ wpAny (model prog w) A (getItem o i) Q E s₂) E s₁) E s) :
   wpAny (model prog w) A (eval (.Subscript value slice pos) env) Q E s:=by
 refine Subscript_ (Bw h (fun o s₁ h₁ => Bw h₁ (fun i s₂ h₂ => ?_) fun _ _ x => x) fun _ _ x => x)
 obtain ⟨hT,h₂⟩:=h₂
 unfold subscriptTail
 refine Aa ?_
 rw [getitemInPython_of_ne hT.not_modules]
 refine Aa (Eu hT hl ?_)
 have fin:wpAny (model prog w) A (subscripted slice false o i) (fun r s₃ => wpAny (model prog w) A (letTemporaryGo value o r >>= fun _ => pure r) Q E s₃) E s₂:=by
   rw [hs o i]
   exact wpAny_operating (Bw h₂ (fun r s₃ h₃ => Aa (wpAny_letTemporaryGo (Ae h₃))) fun _ _ x => x)
 first
   | exact Ae (Aa fin)
   | exact Aa (Ae (Aa fin))
   | exact Aa fin
theorem rO {X:Cx} {pins:List (Addr × Obj)} {σ:St} {H:Hp} {s:Shared} {a:Addr} {y:V} {o:Option V} (I:Inv X pins σ H s) (g:DGet H a y o):s.TypeIs (.ref a) "dict" := by
 rcases g with ⟨kvs,k,e,_,_⟩ | ⟨kvs,k,b,e,_,_,_⟩
 · obtain ⟨_,_,vs,_,dd⟩:=eO I.hok e
   exact dd.typeIs
 · obtain ⟨_,_,xs,_,dd⟩:=kM I.hok e
   exact dd.typeIs
def bJB (td ty:TE):TE:=fun σ H Q => td σ H fun x H1 => ty σ H1 fun y H2 => ∃ a v,x = .ref a ∧ DGet H2 a y (some v) ∧ Q v H2
def bJE (td ty tv:TE):TS:=fun D σ H => tv σ H fun v H1 => td σ H1 fun x H2 => ty σ H2 fun y H3 => ∃ a H4,x = .ref a ∧ DPut H3 a y v H4 ∧ D.nx σ H4
section
variable {X:Cx} {o i e value:Expr} {pos pos' tpos:Pos} {td ty tv:TE}
theorem eF (hu:X.A.units + 1 < cLine) (ho:PE X o td) (hi:PE X i ty) (hs:cZR i):PE X (.Subscript o i pos) (bJB td ty):=by
 intro pins s σ H Q I h
 refine bQT PySem.F.slot_dict_getitem.lookup hs (thn (ho pins s σ H _ I h) fun u s1 ⟨x,H1,I1,rx,q1⟩ => thn (hi pins s1 σ H1 _ I1 q1) fun iv s2 ⟨y,H2,I2,ry,a,v,ex,g,q2⟩ => ?_)
 subst ex
 obtain rfl:u = Value.ref a:=rx
 exact ⟨rO I2 g,yN hu I2 g ry fun w' s3 I3 rw' => ⟨v,H2,I3,rw',q2⟩⟩
theorem eB (hu:X.A.units + 1 < cLine) (ho:PE X o td) (hi:PE X i ty) (hv:PE X value tv) (hs:swapsWith value (some (.Subscript o i pos')) pos.line X.env = pure false) :
   PS X (.Assign [.Subscript o i pos'] value pos) (bJE td ty tv):=by
 intro pins s σ H D I h
 refine wpAny_Assign_Subscript (thn (hv pins s σ H _ I h) fun r s1 ⟨v,H1,I1,rv,q1⟩ => thn (ho pins s1 σ H1 _ I1 q1) fun u s2 ⟨x,H2,I2,rx,q2⟩ => thn (hi pins s2 σ H2 _ I2 q2) fun iv s3 ⟨y,H3,I3,ry,a,H4,ex,g,q3⟩ => ?_) hs
 subst ex
 obtain rfl:u = Value.ref a:=rx
 exact zZ hu I3 g ry rv fun s4 I4 => ⟨σ,H4,I4,q3⟩
end
theorem aZE {P:Program} {w:World} {H:Hp} (h:Heap) (hb:sysModules < h.objs.size):ObjOk P w H (h.push { cls:=.type "dict",data:=.dict #[] }) h.objs.size (.dK []) :=
 ⟨Cq _,Dh.mpr (Ne.symm (Av hb)),[],.nil,Heap.DictOf.new h⟩
theorem aJQ {P:Program} {w:World} {H:Hp} (h:Heap) (hb:sysModules < h.objs.size):ObjOk P w H (h.push { cls:=.type "dict",data:=.dict #[] }) h.objs.size (.dT []) :=
 ⟨Cq _,Dh.mpr (Ne.symm (Av hb)),[],.nil,_,#[],0,Ap _ rfl,⟨rfl,rfl,rfl⟩,rfl,rfl,List.nodup_nil⟩
def aJR:TE:=fun _ H Q => ∀ p,H p = none → Q (.ref p) (upd H p (.dK []))
def aZG:TE:=fun _ H Q => ∀ p,H p = none → Q (.ref p) (upd H p (.dT []))
section
variable {X:Cx} {pos:Pos}
theorem jJ:PE X (.Dict [] [] pos) aJR:=fun pins s σ H Q I h =>
 wpAny_Dict_empty ⟨.ref s.heap.objs.size,_,I.laid (a:=s.heap.objs.size) (o:=.dK []) (t':=s.toks) (fun _ _ q => Ad _ q) (Ai _) (aZE s.heap I.big),rfl,h _ (I.hok.fresh (Ai _))⟩
theorem sJ:PE X (.Dict [] [] pos) aZG:=fun pins s σ H Q I h =>
 wpAny_Dict_empty ⟨.ref s.heap.objs.size,_,I.laid (a:=s.heap.objs.size) (o:=.dT []) (t':=s.toks) (fun _ _ q => Ad _ q) (Ai _) (aJQ s.heap I.big),rfl,h _ (I.hok.fresh (Ai _))⟩
end
def IsD (H:Hp) (a:Addr):Prop:=(∃ kvs,Rd H a (.dK kvs)) ∨ ∃ kvs,Rd H a (.dT kvs)
theorem bJI {X:Cx} {pins:List (Addr × Obj)} {σ:St} {H:Hp} {s:Shared} {a:Addr} (I:Inv X pins σ H s) (d:IsD H a) :
   s.TypeIs (.ref a) "dict" ∧ (∀ b,Value.ref a = .ref b → ∃ ob,s.heap.get? b = some ob ∧ ob.dict = none) ∧ (a == sysModules) = false:=by
 rcases d with ⟨kvs,e⟩ | ⟨kvs,e⟩
 · obtain ⟨_,hd,vs,_,dd⟩:=eO I.hok e
   refine ⟨dd.typeIs,fun b q => ?_,hd⟩
   cases q
   obtain ⟨ob,_,_,h1,h2,_⟩:=dd
   exact ⟨ob,h1,h2.2.1⟩
 · obtain ⟨_,hd,xs,_,dd⟩:=kM I.hok e
   refine ⟨dd.typeIs,fun b q => ?_,hd⟩
   cases q
   obtain ⟨ob,_,_,h1,h2,_⟩:=dd
   exact ⟨ob,h1,h2.2.1⟩
section
variable {X:Cx} {pins:List (Addr × Obj)} {σ:St} {H:Hp} {s:Shared} {a:Addr} {y d:V} {u r:Value} {o:Option V} {A:Around} {E:Value → Shared → Prop}
theorem cXE {Q:Value → Shared → Prop} (hu:A.units + 1 < cLine) (I:Inv X pins σ H s) (g:DGet H a y o) (ry:RelV y u) (h:∀ w' s',Inv X pins σ H s' → RelV (o.getD .non) w' → Q w' s') :
   wpAny (model X.prog X.w) A (call (.builtin "dict.get") [.ref a,u]) Q E s:=by
 rcases g with ⟨kvs,k,e,ey,l⟩ | ⟨kvs,k,b,e,ey,eb,l⟩
 · subst ey
   obtain ⟨z,hd,vs,rel,dd⟩:=eO I.hok e
   refine Hh Bt dd.typeIs Fo (PySem.F.args_dict_get_2 _ _) (meets_dict_get (aM X.prog X.w) a (lF ry) hd) ⟨_,dd.mapOf,h _ _ (I.tok _) ?_⟩
   rw [l]
   exact (rel.val k).getD rfl
 · subst ey
   cases (show u = Value.ref b from ry)
   obtain ⟨z,hd,xs,rel,dd⟩:=kM I.hok e
   refine Hh Bt dd.typeIs Fo (PySem.F.args_dict_get_2 _ _) (meetsH_dict_get (tupleKind (aM X.prog X.w)) a b hd) ⟨En hu,k,xs,iD I.hok eb,dd,h _ _ (I.tok _) ?_⟩
   rw [l]
   exact (rel.val k).getD rfl
theorem cQW {Q:Value → Shared → Prop} (hu:A.units + 1 < cLine) (I:Inv X pins σ H s) (g:DGet H a y o) (ry:RelV y u) (rd:RelV d r) (h:∀ w' s',Inv X pins σ H s' → RelV (o.getD d) w' → Q w' s') :
   wpAny (model X.prog X.w) A (call (.builtin "dict.get") [.ref a,u,r]) Q E s:=by
 rcases g with ⟨kvs,k,e,ey,l⟩ | ⟨kvs,k,b,e,ey,eb,l⟩
 · subst ey
   obtain ⟨z,hd,vs,rel,dd⟩:=eO I.hok e
   refine Hh Bt dd.typeIs Fo (PySem.F.args_dict_get_3 _ _ _) (meets_dict_get_default (aM X.prog X.w) a (lF ry) hd r) ⟨_,dd.mapOf,h _ _ (I.tok _) ?_⟩
   rw [l]
   exact (rel.val k).getD rd
 · subst ey
   cases (show u = Value.ref b from ry)
   obtain ⟨z,hd,xs,rel,dd⟩:=kM I.hok e
   refine Hh Bt dd.typeIs Fo (PySem.F.args_dict_get_3 _ _ _) (meetsH_dict_get_default (tupleKind (aM X.prog X.w)) a b hd r) ⟨En hu,k,xs,iD I.hok eb,dd,h _ _ (I.tok _) ?_⟩
   rw [l]
   exact (rel.val k).getD rd
end
section
variable {X:Cx} {o e f:Expr} {apos cpos:Pos} {td ty tx:TE}
end
section
variable {X:Cx} {pins:List (Addr × Obj)} {σ:St} {H:Hp} {s:Shared} {a:Addr} {kvs:List (Key × V)} {A:Around} {E:Value → Shared → Prop}
theorem aZC {Q:Value → Shared → Prop} (I:Inv X pins σ H s) (e:Rd H a (.dK kvs)) (h:∀ p s',H p = none → Inv X pins σ (upd H p (.dK kvs)) s' → Q (.ref p) s'):wpAny (model X.prog X.w) A (call (.type "dict") [.ref a]) Q E s:=by
 obtain ⟨z,hd,vs,rel,dd⟩:=eO I.hok e
 refine kt_call_dict hd dd (by rw [← rel.length]; exact z) fun h' dd' hs => ?_
 refine h _ _ (I.hok.fresh (Ai _)) (I.laid (a:=s.heap.objs.size) (o:=.dK kvs) (t':=s.toks) (fun b q hq => ?_) (Ai _) (aXQ z (Dh.mpr (Ne.symm (Av I.big))) rel dd'))
 exact (hs.2 b (Av (Ak hq))).trans (Ad _ hq)
end
section
variable {X:Cx} {pins:List (Addr × Obj)} {σ:St} {H:Hp} {s:Shared} {a:Addr} {y:V} {u:Value} {A:Around} {E:Value → Shared → Prop}
end
end L2
set_option maxHeartbeats 4000000
namespace L2
open PySem PySem.Spec PyProof.Rows
section
variable {X:Cx} {pins:List (Addr × Obj)} {σ:St} {H:Hp} {s:Shared}
theorem Inv.re {H':Hp} (I:Inv X pins σ H s) (hn:∀ b,H b = none → H' b = none) (tups:∀ b xs,X.H₀ b = some (.tup xs) → H' b = some (.tup xs)) (frzs:∀ b o u,X.H₀ b = some (.frz o u) → H' b = some (.frz o u))
   (tbls:∀ b ps,X.H₀ b = some (.tbl ps) → ∃ more,H' b = some (.tbl (ps ++ more))) (hok:HOk X.prog X.w H' s.heap):Inv X pins σ H' s :=
 ⟨I.ok,I.os,I.bare,⟨I.base.keep,I.base.slot,fun b o e n hx => hn b (I.base.free b o e n hx),I.base.there,tups,frzs,tbls⟩,I.loc,I.cell,hn _ I.free,fun x c e => hn c (I.freeC x c e),fun p hp => by
   obtain ⟨a,b,c,d,e⟩:=I.pin p hp
   exact ⟨a,hn _ b,c,d,e⟩,hok,I.len⟩
def cZ8:HO → Bool
 | .dK _ => true
 | .dT _ => true
 | _ => false
theorem Inv.freeze {a:Addr} {u:HO} {o:Obj} (I:Inv X pins σ H s) (ha:H a = some u) (hu:cZ8 u = true) (ho:s.heap.get? a = some o):Inv X pins σ (upd H a (.frz o u)) s:=by
 have ne:∀ c v,H c = some v → cZ8 v = false → c ≠ a:=fun c v q n z => by rw [z,ha] at q; cases q; rw [n] at hu; cases hu
 have own:∀ c y,H c = some (.own y) → upd H a (.frz o u) c = some (.own y):=fun c y q => by rw [aH (ne c _ q rfl)]; exact q
 have tup:∀ c xs,H c = some (.tup xs) → upd H a (.frz o u) c = some (.tup xs):=fun c xs q => by rw [aH (ne c _ q rfl)]; exact q
 refine I.re (fun b q => by rw [aH (fun z => by rw [z,ha] at q; cases q)]; exact q) (fun b xs q => tup b xs (I.base.tups b xs q)) (fun b o' v q => ?_) (fun b ps q => ?_) (fun b v q => ?_)
 · have:=I.base.frzs b o' v q
   rw [aH (ne b _ this rfl)]
   exact this
 · obtain ⟨m,e⟩:=I.base.tbls b ps q
   exact ⟨m,by rw [aH (ne b _ e rfl)]; exact e⟩
 · by_cases hb:b = a
   · subst hb
     rw [aB] at q
     cases q
     exact (show s.heap.get? b = some o ∧ ObjOk X.prog X.w (upd H b (.frz o u)) s.heap b u from ⟨ho,(I.hok b _ ha).stay (fun _ _ _ q => q) (fun c => own c b) tup⟩)
   · rw [aH hb] at q
     exact (I.hok b v q).stay (fun _ _ _ q => q) (fun c => own c b) tup
def unf (Hs H:Hp):Hp:=fun b => match H b with
 | some (.frz o u) => (match Hs b with | some (.frz _ _) => some (.frz o u) | _ => some u)
 | x => x
theorem dA {Hs H:Hp} {b:Addr} {u:HO} (h:H b = some u) (n:∀ o v,u ≠ .frz o v):unf Hs H b = some u:=by
 unfold unf
 rw [h]
 cases u <;> first | rfl | exact absurd rfl (n _ _)
theorem tJ {Hs H:Hp} {b:Addr} (h:H b = none):unf Hs H b = none:=by unfold unf; rw [h]
theorem qO {Hs H:Hp} {b:Addr} {o:Obj} {u:HO} (h:H b = some (.frz o u)) (n:∀ o v,Hs b ≠ some (.frz o v)):unf Hs H b = some u:=by
 unfold unf
 rw [h]
 dsimp only
 split
 · rename_i e
   exact absurd e (n _ _)
 · rfl
theorem jI {Hs H:Hp} {b:Addr} {o o':Obj} {u u':HO} (h:H b = some (.frz o u)) (n:Hs b = some (.frz o' u')):unf Hs H b = some (.frz o u):=by
 unfold unf
 rw [h]
 dsimp only
 rw [n]
theorem Inv.unfreeze {Hs:Hp} (I:Inv X pins σ H s) (h0:∀ b o u,X.H₀ b = some (.frz o u) → Hs b = some (.frz o u)):Inv X pins σ (unf Hs H) s:=by
 have own:∀ c y,H c = some (.own y) → unf Hs H c = some (.own y):=fun c y q => dA q fun _ _ z => by cases z
 have tup:∀ c xs,H c = some (.tup xs) → unf Hs H c = some (.tup xs):=fun c xs q => dA q fun _ _ z => by cases z
 refine I.re (fun b q => tJ q) (fun b xs q => tup b xs (I.base.tups b xs q)) (fun b o u q => jI (I.base.frzs b o u q) (h0 b o u q)) (fun b ps q => ?_) (fun b u q => ?_)
 · obtain ⟨m,e⟩:=I.base.tbls b ps q
   exact ⟨m,dA e fun _ _ z => by cases z⟩
 · cases e:H b with
   | none => rw [tJ e] at q; cases q
   | some v =>
     have ok:=I.hok b v e
     by_cases hf:∃ o v',v = .frz o v'
     · obtain ⟨o,v',rfl⟩:=hf
       have ok2:s.heap.get? b = some o ∧ ObjOk X.prog X.w H s.heap b v':=ok
       by_cases hs:∃ o' u',Hs b = some (.frz o' u')
       · obtain ⟨o',u',hs⟩:=hs
         rw [jI e hs] at q
         cases q
         exact ok.stay (fun _ _ _ q => q) (fun c => own c b) tup
       · rw [qO e fun o v z => hs ⟨o,v,z⟩] at q
         cases q
         exact ok2.2.stay (fun _ _ _ q => q) (fun c => own c b) tup
     · rw [dA e fun o v' z => hf ⟨o,v',z⟩] at q
       cases q
       exact ok.stay (fun _ _ _ q => q) (fun c => own c b) tup
def zV (Hs:Hp) (D:Ends):Ends:=⟨fun σ H => D.nx σ (unf Hs H),fun v H => D.rt v (unf Hs H),fun σ H => D.bk σ (unf Hs H),fun σ H => D.ct σ (unf Hs H)⟩
end
section
variable {X:Cx} {e:Expr} {st:Stmt}
def cJ4 (t:TE):TE:=fun σ H Q => t σ H fun v H' => Q v (unf H H')
def bZT (t:TS):TS:=fun D σ H => t (zV H D) σ H
theorem aJP {t:TE} (h:PE X e t):PE X e (cJ4 t):=fun pins s σ H Q I q => thn (h pins s σ H _ I q) fun v s' ⟨x,H',I',r,q'⟩ => ⟨x,unf H H',I'.unfreeze fun b o u e => I.base.frzs b o u e,r,q'⟩
theorem pX {t:TS} (h:PS X st t):PS X st (bZT t):=fun pins s σ H D I q => thn (h pins s σ H _ I q) fun f s' q' => by
 cases f with
 | next => obtain ⟨σ',H',I',r⟩:=q'; exact ⟨σ',unf H H',I'.unfreeze fun b o u e => I.base.frzs b o u e,r⟩
 | brk => obtain ⟨σ',H',I',r⟩:=q'; exact ⟨σ',unf H H',I'.unfreeze fun b o u e => I.base.frzs b o u e,r⟩
 | cont => obtain ⟨σ',H',I',r⟩:=q'; exact ⟨σ',unf H H',I'.unfreeze fun b o u e => I.base.frzs b o u e,r⟩
 | ret u => obtain ⟨v,σ',H',I',rv,r⟩:=q'; exact ⟨v,σ',unf H H',I'.unfreeze fun b o u e => I.base.frzs b o u e,rv,r⟩
theorem cZ0 {t:TE} {σ:St} {H:Hp} {Q:VK} (h:t σ H fun v H' => Q v (unf H H')):cJ4 t σ H Q:=h
theorem cQ9 {t:TS} {D:Ends} {σ:St} {H:Hp} (h:t (zV H D) σ H):bZT t D σ H:=h
end
theorem iL {Hs H:Hp} {a:Addr} {o:Obj} {u:HO} (ha:Hs a = some u) (hu:∀ o v,u ≠ .frz o v) (h:Same (upd Hs a (.frz o u)) H):Same Hs (unf Hs H):=fun b v q => by
 by_cases e:b = a
 · subst e
   rw [ha] at q
   cases q
   exact qO (h _ _ aB) fun o v z => by rw [ha] at z; cases z; exact hu _ _ rfl
 · have:=h b v (by rw [aH e]; exact q)
   by_cases hf:∃ o v',v = .frz o v'
   · obtain ⟨o',v',rfl⟩:=hf
     exact jI this q
   · exact dA this fun o v' z => hf ⟨o,v',z⟩
theorem zU {Hs H:Hp} (h:Same Hs H):Same Hs (unf Hs H):=fun b v q => by
 have:=h b v q
 by_cases hf:∃ o v',v = .frz o v'
 · obtain ⟨o',v',rfl⟩:=hf
   exact jI this q
 · exact dA this fun o v' z => hf ⟨o,v',z⟩
theorem lO {α β:Type} {R:α → β → Prop} {xs:List α} {ys:List β} (r:Paired R xs ys):∀ {i:Nat} {x:α},xs[i]? = some x → ∃ y,ys[i]? = some y ∧ R x y:=by
 induction r with
 | nil => intro i x h; cases h
 | cons h t ih =>
   intro i x hx
   cases i with
   | zero => cases hx; exact ⟨_,rfl,h⟩
   | succ i => exact ih (i:=i) hx
theorem bZ8 {P:Program} {w:World} {k:Key} {u:Value} (h:(aM P w).is k u = true):RelV (kV k) u:=by
 rcases bB h with ⟨i,t,rfl,rfl⟩ | ⟨x,t,rfl,rfl⟩
 · exact ⟨t,rfl⟩
 · exact ⟨t,rfl⟩
def Itd (a:Addr) (o:Obj) (kvs:List (Key × V)):It:=⟨fun i H => H a = some (.frz o (.dK kvs)) ∧ i < kvs.length,fun i H x H' => H' = H ∧ ∃ kv,kvs[i]? = some kv ∧ x = kV kv.1,fun i H => H a = some (.frz o (.dK kvs)) ∧ kvs.length = i⟩
def dQY (a:Addr) (o:Obj) (kvs:List (Key × V)):It:=⟨fun i H => H a = some (.frz o (.dK kvs)) ∧ i < kvs.length,fun i H x H' => ∃ p kv,H p = none ∧ x = .ref p ∧ H' = upd H p (.tup [kV kv.1,kv.2]) ∧ kvs[i]? = some kv,fun i H => H a = some (.frz o (.dK kvs)) ∧ kvs.length = i⟩
theorem uA {X:Cx} {pins:List (Addr × Obj)} {σ:St} {H:Hp} {s:Shared} {a:Addr} {o:Obj} {kvs:List (Key × V)} {ep:Nat} (I:Inv X pins σ H s) (ha:H a = some (.frz o (.dK kvs))) (hep:∃ es,o.data = .dict es ep) :
   kvs.length ≤ sizeLine ∧ (a == sysModules) = false ∧ ∃ vs,KV kvs vs ∧ s.heap.DictAt (aM X.prog X.w) a vs ep:=by
 have ok:s.heap.get? a = some o ∧ (kvs.length ≤ sizeLine ∧ (a == sysModules) = false ∧ ∃ vs,KV kvs vs ∧ s.heap.DictOf (aM X.prog X.w) a vs):=I.hok a _ ha
 obtain ⟨e,z,hd,vs,rel,o',es',ep',ho',hx,hdat,r⟩:=ok
 rw [e] at ho'
 cases ho'
 obtain ⟨es,hes⟩:=hep
 have q:=hdat
 rw [hes] at q
 cases q
 exact ⟨z,hd,vs,rel,o,_,e,hx,hdat,r⟩
theorem aQF {P:Program} {w:World} {K:PySem.W.Frag} {tg:Expr} (a it:Addr) (o:Obj) (kvs:List (Key × V)) (ep:Nat) (hep:∃ es,o.data = .dict es ep):Turn P w K tg (Itd a o kvs) [it] it (fun i h => h.IsKeyIter it a i kvs.length ep) where
 mem:=by simp
 obj:=fun i h st b hb => by
   have e:b = it:=by simpa using hb
   subst e
   obtain ⟨o,e,c,d⟩:=st
   exact ⟨o,e,fun v z => by rw [d] at z; cases z⟩
 keep:=fun i h h' st k => let ⟨o,ho,r⟩:=st; ⟨o,k it (by simp) o ho,r⟩
 item:=by
   intro X hP hw hK hc i pins s σ H E I hf st hg
   subst hP hw hK
   obtain ⟨ha,hi⟩:=hg
   obtain ⟨z,hd,vs,rel,dd⟩:=uA I ha hep
   have hlv:=rel.length
   obtain ⟨f0,f1,f2,f3,f4,f5⟩:=hf it (by simp)
   obtain ⟨⟨k,v⟩,hx,hk1,_⟩:=lO rel (Ab hi)
   refine wpAny_pyNext_dict_item (knd:=aM X.prog X.w) (by rw [← hlv]; exact st) dd hx fun key h' hk st' sb => ?_
   have I1:Inv X pins σ H { s with heap:=h' }:=I.turned (t':=s.toks) (fun b o hb e => (sb.2 b hb).trans e) f0 f1 f3 f4 f5
   obtain ⟨oi,e,c,d⟩:=id st'
   refine ⟨key,rfl,kL (s:={ s with heap:=h' }) e c d (by decide) ⟨kV k,H,I1,bZ8 hk,⟨rfl,kvs[i],Ab hi,by rw [hk1]⟩,?_,fun b hb => (hf b hb).1⟩⟩
   rw [hlv]
   exact st'
 done:=by
   intro X hP hw hK hc i pins s σ H E I hf st hg
   subst hP hw hK
   obtain ⟨ha,hi⟩:=hg
   obtain ⟨z,hd,vs,rel,dd⟩:=uA I ha hep
   have hlv:=rel.length
   obtain ⟨f0,f1,f2,f3,f4,f5⟩:=hf it (by simp)
   exact wpAny_pyNext_dict_end (knd:=aM X.prog X.w) (I.ok.hd hc) (by rw [← hlv]; exact st) dd (List.getElem?_eq_none (by omega)) fun h' eb => ⟨rfl,I.turned (t':=s.toks) (fun b o hb e => eb b o hb e) f0 f1 f3 f4 f5⟩
 self:=fun _ _ _ _ _ st h => wpAny_pyIter_keyiter st h
section
variable {X:Cx} {tg:Expr}
theorem aZ0 {pins:List (Addr × Obj)} {σ:St} {H:Hp} {s:Shared} {a:Addr} {kvs:List (Key × V)} (I:Inv X pins σ H s) (ha:H a = some (.dK kvs)):∃ o es ep,s.heap.get? a = some o ∧ o.data = .dict es ep:=by
 obtain ⟨_,_,vs,_,o,es,ep,ho,_,hd,_⟩:=bZY I.hok ha
 exact ⟨o,es,ep,ho,hd⟩
theorem bZD {pins:List (Addr × Obj)} {σ:St} {H:Hp} {s:Shared} {a:Addr} {o:Obj} {kvs:List (Key × V)} (I:Inv X pins σ H s) (ha:H a = some (.frz o (.dK kvs))):∃ ep,∃ es,o.data = .dict es ep:=by
 have ok:s.heap.get? a = some o ∧ (kvs.length ≤ sizeLine ∧ (a == sysModules) = false ∧ ∃ vs,KV kvs vs ∧ s.heap.DictOf (aM X.prog X.w) a vs):=I.hok a _ ha
 obtain ⟨e,_,_,vs,_,o',es,ep,ho,_,hd,_⟩:=ok
 rw [e] at ho
 cases ho
 exact ⟨ep,es,hd⟩
def qR (H:Hp) (a:Addr) (R:Obj → List (Key × V) → Hp → Prop):Prop:=(∃ kvs,H a = some (.dK kvs) ∧ ∀ o,R o kvs (upd H a (.frz o (.dK kvs)))) ∨ ∃ o kvs,H a = some (.frz o (.dK kvs)) ∧ R o kvs H
theorem walk_at {pins:List (Addr × Obj)} {σ:St} {H:Hp} {s:Shared} {a:Addr} {R:Obj → List (Key × V) → Hp → Prop} (I:Inv X pins σ H s) (h:qR H a R) :
   ∃ o kvs H' ep,Inv X pins σ H' s ∧ H' a = some (.frz o (.dK kvs)) ∧ (∃ es,o.data = .dict es ep) ∧ R o kvs H':=by
 rcases h with ⟨kvs,ha,q⟩ | ⟨o,kvs,ha,q⟩
 · obtain ⟨o,es,ep,ho,hd⟩:=aZ0 I ha
   exact ⟨o,kvs,_,ep,I.freeze ha rfl ho,aB,⟨es,hd⟩,q o⟩
 · obtain ⟨ep,es,hd⟩:=bZD I ha
   exact ⟨o,kvs,H,ep,I,ha,⟨es,hd⟩,q⟩
def bZ6 (tl:TE):TI:=fun σ H R => tl σ H (eG fun a H1 => qR H1 a fun o kvs H2 => R (Itd a o kvs) H2)
theorem wG {l:Expr} {tl:TE} (hl:PE X l tl):PI X tg l (bZ6 tl):=by
 intro pins s σ H R I h
 refine thn (hl pins s σ H _ I h) fun v s1 ⟨x,H1,I1,r1,q1⟩ => ?_
 unfold eG at q1
 split at q1
 · cases r1
   rename_i a0 _
   obtain ⟨o,kvs,H2,ep,I2,ha,hep,q⟩:=walk_at I1 q1
   obtain ⟨z,hd,vs,rel,dd⟩:=uA I2 ha hep
   refine wpAny_pyIter_dict (knd:=aM X.prog X.w) hd dd ?_
   refine ⟨s1.heap.objs.size,[s1.heap.objs.size],_,_,H2,rfl,I2.kept (t':=s1.toks) fun b o e => Ad _ e,aQF a0 _ o kvs ep hep,⟨_,Ap _ rfl,rfl,by rw [rel.length]; rfl⟩,fun b hb => ?_,q⟩
   have e:b = s1.heap.objs.size:=by simpa using hb
   subst e
   exact I2.fpOk (Ai _) (I2.hok.fresh (Ai _))
 · exact q1.elim
def isD (H:Hp) (p:Addr):Bool:=match H p with
 | some (.dK _) => true
 | some (.dT _) => true
 | some (.frz _ (.dK _)) => true
 | some (.frz _ (.dT _)) => true
 | _ => false
theorem bJR {H:Hp} {p:Addr} (h:isD H p = true):IsD H p:=by
 unfold isD at h
 split at h
 · exact .inl ⟨_,.inl (by assumption)⟩
 · exact .inr ⟨_,.inl (by assumption)⟩
 · exact .inl ⟨_,.inr ⟨_,by assumption⟩⟩
 · exact .inr ⟨_,.inr ⟨_,by assumption⟩⟩
 · cases h
theorem dW {H:Hp} {p:Addr} {kvs:List (Key × V)} (h:H p = some (.dK kvs)):isD H p = true:=by unfold isD; rw [h]
theorem uJ {H:Hp} {p:Addr} {o:Obj} {kvs:List (Key × V)} (h:H p = some (.frz o (.dK kvs))):isD H p = true:=by unfold isD; rw [h]
end
section
variable {a:Addr} {o:Obj} {kvs:List (Key × V)} {g:TG} {tb:TS} {D:Ends} {σ:St} {H:Hp} {R:It → Hp → Prop} {tl:TE}
theorem cJS (Pv:Nat → St → Hp → Prop) (h0:Pv 0 σ H) (hl:∀ i σ H,i ≤ kvs.length → Pv i σ H → H a = some (.frz o (.dK kvs)))
   (hs:∀ i kv σ H p,kvs[i]? = some kv → Pv i σ H → H p = none → g (.ref p) σ (upd H p (.tup [kV kv.1,kv.2])) fun σ2 H2 => tb { D with nx:=Pv (i + 1),ct:=Pv (i + 1),bk:=D.nx } σ2 H2) (hd:∀ σ H,Pv kvs.length σ H → D.nx σ H):nH (dQY a o kvs) g tb D σ H:=by
 refine ⟨fun i m σ H => m = kvs.length - i ∧ i ≤ kvs.length ∧ Pv i σ H,⟨kvs.length,by simp,Nat.zero_le _,h0⟩,?_⟩
 rintro i m σ H ⟨rfl,hi,p⟩
 have hr:=hl i σ H hi p
 by_cases hlt:i < kvs.length
 · refine .inr ⟨⟨hr,hlt⟩,Pv (i + 1),fun σ' H' p' => ⟨kvs.length - (i + 1),by omega,rfl,hlt,p'⟩,fun x H' y => ?_⟩
   obtain ⟨q,kv,hq,rfl,rfl,hx⟩:=y
   exact hs i kv σ H q hx p hq
 · have e:i = kvs.length:=by omega
   subst e
   exact .inl ⟨⟨hr,rfl⟩,hd σ H p⟩
theorem aJ9 (Pv:Nat → St → Hp → Prop) (h0:Pv 0 σ H) (hl:∀ i σ H,i ≤ kvs.length → Pv i σ H → H a = some (.frz o (.dK kvs)))
   (hs:∀ i kv σ H,kvs[i]? = some kv → Pv i σ H → g (kV kv.1) σ H fun σ2 H2 => tb { D with nx:=Pv (i + 1),ct:=Pv (i + 1),bk:=D.nx } σ2 H2) (hd:∀ σ H,Pv kvs.length σ H → D.nx σ H):nH (Itd a o kvs) g tb D σ H:=by
 refine ⟨fun i m σ H => m = kvs.length - i ∧ i ≤ kvs.length ∧ Pv i σ H,⟨kvs.length,by simp,Nat.zero_le _,h0⟩,?_⟩
 rintro i m σ H ⟨rfl,hi,p⟩
 have hr:=hl i σ H hi p
 by_cases hlt:i < kvs.length
 · refine .inr ⟨⟨hr,hlt⟩,Pv (i + 1),fun σ' H' p' => ⟨kvs.length - (i + 1),by omega,rfl,hlt,p'⟩,fun x H' y => ?_⟩
   obtain ⟨rfl,kv,hx,rfl⟩:=y
   exact hs i kv σ _ hx p
 · have e:i = kvs.length:=by omega
   subst e
   exact .inl ⟨⟨hr,rfl⟩,hd σ H p⟩
theorem aJW (h:tl σ H (eG fun a H1 => qR H1 a fun o kvs H2 => R (Itd a o kvs) H2)):bZ6 tl σ H R:=h
theorem aJK {Rw:Obj → List (Key × V) → Hp → Prop} (e:H a = some (.dK kvs)) (h:∀ o,Rw o kvs (upd H a (.frz o (.dK kvs)))):qR H a Rw:=.inl ⟨kvs,e,h⟩
end
section
variable {X:Cx} {o e:Expr} {es:List Expr} {to:TE} {t:TA} {name:Str} {apos cpos:Pos} {id:String} {r:V → List V → Hp → VK → Prop}
def aZ2 (r:V → List V → Hp → VK → Prop) (to:TE) (t:TA):TE:=fun σ H Q => to σ H (eG fun p H1 => isD H1 p = true ∧ t σ H1 fun xs H2 => r (.ref p) xs H2 Q)
theorem dI (slot:Slot "dict" name id) (hty:typeOf (.builtin id) = pure (.type "method_descriptor")) (hm:MtR X id r) (ho:PE X o to) (ha:PA X (e :: es) t)
   (hbase:attributeBase o name X.env (eval o X.env) = eval o X.env:=by rfl)
   (hfew:((backTo cpos (starEach (e :: es) X.env)).all (fun x => !x.1) && (backToKw cpos (keywordEach [] X.env)).all (fun x => x.1.isSome)
     && decide ((e :: es).length + ([]:List Keyword).length + (if ([]:List Keyword).isEmpty then 0 else 1) < 30)) = true:=by rfl)
   (hline:(apos.endLine == cpos.line) = true:=by rfl) (hs:starEach (e :: es) X.env = (false,eval e X.env) :: starEach es X.env:=by rfl) (hplain:(backTo cpos (starEach es X.env)).any (·.1) = false:=by rfl) :
   PE X (.Call (.Attribute o name apos) (e :: es) [] cpos) (aZ2 r to t):=by
 intro pins s σ H Q I h
 refine wpAny_Call_method_late hbase hfew hline rfl (thn (ho pins s σ H _ I h) fun v s1 ⟨x,H1,I1,r1,q⟩ => ?_)
 unfold eG at q
 split at q
 · obtain ⟨hd,q1⟩:=q
   obtain ⟨h1,h2,_⟩:=bJI I1 (bJR hd)
   cases _root_.id r1
   refine ⟨"dict",_,PySem.F.plainAttrs_dict,slot,hty,h1,h2,?_⟩
   have hA:=ha cpos pins s1 σ H1 _ I1 q1
   rw [hs] at hA ⊢
   refine Calls.callWith_builtin (by show (false || (backTo cpos (starEach es X.env)).any (·.1)) = false; rw [hplain] <;> rfl) (Calls.evalArgs_plain ?_)
   exact thn hA fun us s2 ⟨vs,H2,I2,r2,q2⟩ => hm pins s2 σ H2 _ vs _ us Q I2 r1 r2 q2
 · exact q.elim
def cX6:V → List V → Hp → VK → Prop:=fun x vs H Q => ∃ a y z o,x = .ref a ∧ vs = [y,z] ∧ DGet H a y o ∧ Q (o.getD z) H
theorem nQ (hu:X.A.units + 1 < cLine):MtR X "dict.get" cX6:=by
 intro pins s σ H x vs v us Q I rx rv h
 obtain ⟨a,y,z,ov,rfl,rfl,g,q⟩:=h
 cases rx
 obtain ⟨u,w',rfl,ru,rw'⟩:=kE rv
 exact cQW hu I g ru rw' fun w1 s1 I1 r1 => ⟨_,H,I1,r1,q⟩
def vX:List V → Hp → VK → Prop:=fun xs H Q => ∃ a kvs,xs = [.ref a] ∧ Rd H a (.dK kvs) ∧ ∀ p,H p = none → Q (.ref p) (upd H p (.dK kvs))
theorem lQ:CallR X (.type "dict") vX:=by
 intro pins s σ H xs us Q I r h
 obtain ⟨a,kvs,rfl,ha,q⟩:=h
 obtain ⟨u,rfl,ru⟩:=dQ r
 cases ru
 exact aZC I ha fun p s1 hp I1 => ⟨.ref p,_,I1,rfl,q p hp⟩
def cQ0 (x y:V) (H:Hp) (Q:VK):Prop:=∃ a v,x = .ref a ∧ DGet H a y (some v) ∧ Q v H
def aZY (D:Ends) (σ:St) (x y v:V) (H:Hp):Prop:=∃ a H4,x = .ref a ∧ DPut H a y v H4 ∧ D.nx σ H4
end
section
variable {σ:St} {H:Hp} {Q:VK} {D:Ends} {a:Addr} {kvs:List (Key × V)} {z:Str} {v w:V} {to td ty tv:TE} {t:TA} {r:V → List V → Hp → VK → Prop}
theorem bZA (h:to σ H (eG fun p H1 => isD H1 p = true ∧ t σ H1 fun xs H2 => r (.ref p) xs H2 Q)):aZ2 r to t σ H Q:=h
theorem cZG {P:Prop} (e:isD H a = true) (h:P):isD H a = true ∧ P:=⟨e,h⟩
theorem nV (e:Rd H a (.dK kvs)) (h:Q ((bH kvs (Sum.inr z)).getD w) H):cX6 (.ref a) [.str z,w] H Q:=⟨a,.str z,w,_,rfl,rfl,.inl ⟨kvs,.inr z,e,rfl,rfl⟩,h⟩
theorem lX (e:Rd H a (.dK kvs)) (h:∀ p,H p = none → Q (.ref p) (upd H p (.dK kvs))):vX [.ref a] H Q:=⟨a,kvs,rfl,e,h⟩
theorem cXY (h:∀ p,H p = none → Q (.ref p) (upd H p (.dK []))):aJR σ H Q:=h
theorem cZM (h:td σ H fun x H1 => ty σ H1 fun y H2 => cQ0 x y H2 Q):bJB td ty σ H Q:=h
theorem lH (e:Rd H a (.dK kvs)) (l:bH kvs (Sum.inr z) = some v) (h:Q v H):cQ0 (.ref a) (.str z) H Q:=⟨a,v,rfl,.inl ⟨kvs,.inr z,e,rfl,l.symm⟩,h⟩
theorem cQ2 (h:tv σ H fun v H1 => td σ H1 fun x H2 => ty σ H2 fun y H3 => aZY D σ x y v H3):bJE td ty tv D σ H:=h
theorem gF (e:H a = some (.dK kvs)) (l:kvs.length < sizeLine) (h:D.nx σ (upd H a (.dK (bY kvs (Sum.inr z) v)))):aZY D σ (.ref a) (.str z) v H:=⟨a,_,rfl,.inl ⟨kvs,.inr z,e,rfl,l,rfl⟩,h⟩
end
end L2
set_option maxHeartbeats 4000000
namespace L2
open PySem PySem.Spec PyProof.Rows
open PySem.AutoSeq1 (wpAny_loadPart')
open PySem.MeetsSeq PySem.MeetsSeq2 PySem.MeetsSeq3
def EqW (P:Program) (w:World) (A:Around) (s:Shared) (u v:Value):Prop:=∀ (E:Value → Shared → Prop) (Q:Bool → Shared → Prop),Q true s → wpAny (model P w) A (eqBool u v) Q E s
theorem xX {P:Program} {w:World} (l b:Addr) (xs ys:Array Value) (n n2:Nat) (dd dd2:Option Addr) (sl sl2:Array (Option Value)) (hsz:xs.size = ys.size) (k:Nat) :
   ∀ i:Nat,xs.size - i = k → MeetsIn P w (Builtin.«list.__eq__.loop» ⟨[.ref l,.ref b,rawInt i,rawInt 2],[]⟩)
     (fun A R s => s.heap.get? l = some ⟨.type "list",dd,.seq xs n,sl⟩ ∧ s.heap.get? b = some ⟨.type "list",dd2,.seq ys n2,sl2⟩ ∧ (∀ j (h1:j < xs.size) (h2:j < ys.size),EqW P w A.in1 s xs[j] ys[j]) ∧ R (.ok (.ret (.bool true))) s):=by
 induction k with
 | zero =>
   intro i hk A R s h
   obtain ⟨hp,g,d,tk,os⟩:=s
   obtain ⟨ha,hq,he,h⟩:=h
   wp_walk using (Cb ha),(Cb hq)
   have n1:xs[((i:Nat):Int).toNat]? = none:=by simp; omega
   have n2':ys[((i:Nat):Int).toNat]? = none:=by simp; omega
   rw [n1,n2']
   wp_walk using (Cb ha),(Cb hq)
   show R (.ok (.ret (.bool (xs.size == ys.size)))) _
   rw [hsz,Hk]
   exact h
 | succ k ih =>
   intro i hk A R s h
   obtain ⟨hp,g,d,tk,os⟩:=s
   obtain ⟨ha,hq,he,h⟩:=h
   wp_walk using (Cb ha),(Cb hq)
   have l1:i < xs.size:=by omega
   have l2:i < ys.size:=by omega
   have n1:xs[((i:Nat):Int).toNat]? = some xs[i]:=by simp [l1]
   have n2':ys[((i:Nat):Int).toNat]? = some ys[i]:=by simp [l2]
   have hc:((i:Int) + 1) = ((i + 1:Nat):Int):=by push_cast; rfl
   rw [n1,n2']
   refine Aa (he i l1 l2 _ _ ?_)
   wp_walk
   rw [hc]
   refine ⟨El plain_eq_loop _,Dv entry_eq_loop ?_⟩
   rw [Dd plain_eq_loop _]
   exact ih (i + 1) (by omega) A R _ ⟨ha,hq,he,h⟩
theorem zK {P:Program} {w:World} (l b:Addr) (xs ys:Array Value) (n n2:Nat) (dd dd2:Option Addr) (sl sl2:Array (Option Value)) (hsz:xs.size = ys.size) (k:Nat) :
   ∀ i:Nat,xs.size - i = k → MeetsIn P w (Builtin.«list.__eq__.loop» ⟨[.ref l,.ref b,rawInt i,rawInt 3],[]⟩)
     (fun A R s => s.heap.get? l = some ⟨.type "list",dd,.seq xs n,sl⟩ ∧ s.heap.get? b = some ⟨.type "list",dd2,.seq ys n2,sl2⟩ ∧ (∀ j (h1:j < xs.size) (h2:j < ys.size),EqW P w A.in1 s xs[j] ys[j]) ∧ R (.ok (.ret (.bool false))) s):=by
 induction k with
 | zero =>
   intro i hk A R s h
   obtain ⟨hp,g,d,tk,os⟩:=s
   obtain ⟨ha,hq,he,h⟩:=h
   wp_walk using (Cb ha),(Cb hq)
   have n1:xs[((i:Nat):Int).toNat]? = none:=by simp; omega
   have n2':ys[((i:Nat):Int).toNat]? = none:=by simp; omega
   rw [n1,n2']
   wp_walk using (Cb ha),(Cb hq)
   show R (.ok (.ret (.bool (xs.size != ys.size)))) _
   rw [hsz,bne_self_eq_false]
   exact h
 | succ k ih =>
   intro i hk A R s h
   obtain ⟨hp,g,d,tk,os⟩:=s
   obtain ⟨ha,hq,he,h⟩:=h
   wp_walk using (Cb ha),(Cb hq)
   have l1:i < xs.size:=by omega
   have l2:i < ys.size:=by omega
   have n1:xs[((i:Nat):Int).toNat]? = some xs[i]:=by simp [l1]
   have n2':ys[((i:Nat):Int).toNat]? = some ys[i]:=by simp [l2]
   have hc:((i:Int) + 1) = ((i + 1:Nat):Int):=by push_cast; rfl
   rw [n1,n2']
   refine Aa (he i l1 l2 _ _ ?_)
   wp_walk
   rw [hc]
   refine ⟨El plain_eq_loop _,Dv entry_eq_loop ?_⟩
   rw [Dd plain_eq_loop _]
   exact ih (i + 1) (by omega) A R _ ⟨ha,hq,he,h⟩
section
variable {P:Program} {w:World} {A:Around} {E:Value → Shared → Prop} {s:Shared} {l b:Addr} {xs ys:Array Value}
theorem cQR {Q:Value → Shared → Prop} (hl:s.heap.IsList l xs) (hb:s.heap.IsList b ys) (hsz:xs.size = ys.size) (hu:A.units < cLine) (he:∀ j (h1:j < xs.size) (h2:j < ys.size),EqW P w A.in1 s xs[j] ys[j]) (h:Q (.bool true) s) :
   wpAny (model P w) A (richCompare .Eq (.ref l) (.ref b)) Q E s:=by
 obtain ⟨⟨cls,dd,data,sl⟩,ho,hc,n,hd⟩:=id hl
 obtain ⟨⟨cls2,dd2,data2,sl2⟩,ho2,hc2,n2,hd2⟩:=id hb
 obtain rfl:cls = .type "list" := hc
 obtain rfl:data = .seq xs n:=hd
 obtain rfl:cls2 = .type "list" := hc2
 obtain rfl:data2 = .seq ys n2:=hd2
 have g:MeetsIn P w (Builtin.«list.__eq__» ⟨[.ref l,.ref b],[]⟩) (fun A R s => s.heap.get? l = some ⟨.type "list",dd,.seq xs n,sl⟩ ∧ s.heap.get? b = some ⟨.type "list",dd2,.seq ys n2,sl2⟩ ∧ (∀ j (h1:j < xs.size) (h2:j < ys.size),EqW P w A.in1 s xs[j] ys[j]) ∧ R (.ok (.ret (.bool true))) s):=by
   intro A R s h
   obtain ⟨hp,g,d,tk,os⟩:=s
   obtain ⟨ha,hq,he,h⟩:=h
   have f3:=AutoSeq1.sub_list_list
   have hne:¬ (xs.size != ys.size) = true:=by simp [hsz]
   wp_walk using (Cb ha),(Cb hq)
   refine ⟨El plain_eq_loop _,Dv entry_eq_loop ?_⟩
   rw [Dd plain_eq_loop _]
   exact xX l b xs ys n n2 dd dd2 sl sl2 hsz _ 0 rfl A R _ ⟨ha,hq,he,h⟩
 exact wpAny_richCompare_same_room (op:=.Eq) ⟨_,ho,rfl⟩ ⟨_,ho2,rfl⟩ PySem.F.slot_list_eq (Hh PySem.F.slot_list_eq ⟨_,ho,rfl⟩ PySem.F.entry_list_eq (PySem.F.args_list_eq_2 _ _) g ⟨ho,ho2,he,show Value.bool true ≠ Value.notImplemented ∧ Q (.bool true) s from ⟨(fun x => nomatch x),h⟩⟩) hu
theorem bJ4 {Q:Value → Shared → Prop} (hl:s.heap.IsList l xs) (hb:s.heap.IsList b ys) (hsz:xs.size = ys.size) (hu:A.units < cLine) (he:∀ j (h1:j < xs.size) (h2:j < ys.size),EqW P w A.in1 s xs[j] ys[j]) (h:Q (.bool false) s) :
   wpAny (model P w) A (richCompare .NotEq (.ref l) (.ref b)) Q E s:=by
 obtain ⟨⟨cls,dd,data,sl⟩,ho,hc,n,hd⟩:=id hl
 obtain ⟨⟨cls2,dd2,data2,sl2⟩,ho2,hc2,n2,hd2⟩:=id hb
 obtain rfl:cls = .type "list" := hc
 obtain rfl:data = .seq xs n:=hd
 obtain rfl:cls2 = .type "list" := hc2
 obtain rfl:data2 = .seq ys n2:=hd2
 have g:MeetsIn P w (Builtin.«list.__ne__» ⟨[.ref l,.ref b],[]⟩) (fun A R s => s.heap.get? l = some ⟨.type "list",dd,.seq xs n,sl⟩ ∧ s.heap.get? b = some ⟨.type "list",dd2,.seq ys n2,sl2⟩ ∧ (∀ j (h1:j < xs.size) (h2:j < ys.size),EqW P w A.in1 s xs[j] ys[j]) ∧ R (.ok (.ret (.bool false))) s):=by
   intro A R s h
   obtain ⟨hp,g,d,tk,os⟩:=s
   obtain ⟨ha,hq,he,h⟩:=h
   have f3:=AutoSeq1.sub_list_list
   have hne:¬ (xs.size != ys.size) = true:=by simp [hsz]
   wp_walk using (Cb ha),(Cb hq)
   refine ⟨El plain_eq_loop _,Dv entry_eq_loop ?_⟩
   rw [Dd plain_eq_loop _]
   exact zK l b xs ys n n2 dd dd2 sl sl2 hsz _ 0 rfl A R _ ⟨ha,hq,he,h⟩
 exact wpAny_richCompare_same_room (op:=.NotEq) ⟨_,ho,rfl⟩ ⟨_,ho2,rfl⟩ PySem.F.slot_list_ne (Hh PySem.F.slot_list_ne ⟨_,ho,rfl⟩ PySem.F.entry_list_ne (PySem.F.args_list_ne_2 _ _) g ⟨ho,ho2,he,show Value.bool false ≠ Value.notImplemented ∧ Q (.bool false) s from ⟨(fun x => nomatch x),h⟩⟩) hu
theorem EqW.same (u:Value):EqW P w A s u u:=fun E Q hq => Gq u P w E Q hq
theorem EqW.refs (hne:l ≠ b) (h:∀ (E:Value → Shared → Prop) (Q:Value → Shared → Prop),Q (.bool true) s → wpAny (model P w) A (richCompare .Eq (.ref l) (.ref b)) Q E s):EqW P w A s (.ref l) (.ref b):=fun E Q hq => by
 unfold eqBool
 refine Bv (wpAny_ite_split (fun hab => absurd (by have:=eq_of_beq hab; injection this) hne) (fun _ => ?_))
 exact Aa (h E _ (Ha hq))
end
def DEq (kvs kws:List (Key × V)):Prop:=kvs.length = kws.length ∧ ∀ kv ∈ kvs,aW kv.2 = true ∧ bH kws kv.1 = some kv.2
theorem xJ {A:Around} {s:Shared} {kws:List (Key × V)} {ws:List (Key × Value)} (rw':KV kws ws) {kvs:List (Key × V)} {vs:List (Key × Value)} (r:KV kvs vs) (h:∀ kv ∈ kvs,aW kv.2 = true ∧ bH kws kv.1 = some kv.2):PySem.W.KeqHits A s ws vs true:=by
 unfold KV at r
 induction r with
 | nil => exact .nil
 | @cons kv vv _ _ hk t ih =>
   obtain ⟨k,v⟩:=kv
   obtain ⟨k',u⟩:=vv
   obtain ⟨e,ru⟩:=hk
   cases e
   obtain ⟨f,hv⟩:=h (k,v) (An ..)
   have ro:=rw'.val k
   rw [hv] at ro
   cases ey:valueAt ws k with
   | none => rw [ey] at ro; exact (show False from ro).elim
   | some y =>
     rw [ey] at ro
     have eq:=lU (A:=A) (s:=s) ru (show RelV v y from ro) f f
     rw [mD f] at eq
     exact .hit (e:=true) (b:=true) ey eq (ih fun kv hkv => h kv (Am _ hkv))
theorem bQV {X:Cx} {pins:List (Addr × Obj)} {σ:St} {H:Hp} {s:Shared} (I:Inv X pins σ H s) {A:Around} {p q:Addr} {kvs kws:List (Key × V)} (hp:Rd H p (.dK kvs)) (hq:Rd H q (.dK kws)) (d:DEq kvs kws) (hu:A.units < cLine) (E:Value → Shared → Prop) (Q:Value → Shared → Prop) :
   (Q (.bool true) s → wpAny (model X.prog X.w) A (richCompare .Eq (.ref p) (.ref q)) Q E s) ∧ (Q (.bool false) s → wpAny (model X.prog X.w) A (richCompare .NotEq (.ref p) (.ref q)) Q E s):=by
 obtain ⟨z1,d1,vs,r1,dd1⟩:=eO I.hok hp
 obtain ⟨z2,d2,ws,r2,dd2⟩:=eO I.hok hq
 have hl:(vs.length == ws.length) = true:=Gc.mpr (by rw [← r1.length,← r2.length]; exact d.1)
 refine ⟨fun h => PySem.W.keq_eq (r:=true) d1 d2 dd1 dd2 hu (fun _ => xJ r2 r1 d.2) (by rw [hl]; exact h),fun h => PySem.W.keq_ne (r:=true) d1 d2 dd1 dd2 hu (fun _ => xJ r2 r1 d.2) (by rw [hl]; exact h)⟩
def Alw (H:Hp):Nat → V → V → Prop
 | 0,x,y => x = y ∧ aW x = true
 | n + 1,x,y => (x = y ∧ aW x = true) ∨ ∃ p q,x = .ref p ∧ y = .ref q ∧ ((∃ xs ys,rdL H p = some xs ∧ rdL H q = some ys ∧ xs.length = ys.length ∧ ∀ (j:Nat) x' y',xs[j]? = some x' → ys[j]? = some y' → Alw H n x' y') ∨ ∃ kvs kws,Rd H p (.dK kvs) ∧ Rd H q (.dK kws) ∧ DEq kvs kws)
theorem Alw.flat {H:Hp} {n:Nat} {x:V} (h:aW x = true):Alw H n x x:=by
 cases n with
 | zero => exact ⟨rfl,h⟩
 | succ n => exact .inl ⟨rfl,h⟩
theorem Alw.lst {H:Hp} {n:Nat} {p q:Addr} {xs ys:List V} (hp:rdL H p = some xs) (hq:rdL H q = some ys) (hl:xs.length = ys.length) (h:∀ (j:Nat) x y,xs[j]? = some x → ys[j]? = some y → Alw H n x y):Alw H (n + 1) (.ref p) (.ref q):=.inr ⟨p,q,rfl,rfl,.inl ⟨xs,ys,hp,hq,hl,h⟩⟩
theorem Alw.flats {H:Hp} {n:Nat} {xs:List V} (f:xs.all aW = true):∀ (j:Nat) x y,xs[j]? = some x → xs[j]? = some y → Alw H n x y:=fun j x y hx hy => by
 rw [hx] at hy
 cases hy
 exact .flat (Dz.mp f x (As hx))
section
variable {X:Cx}
end
section
variable {X:Cx} {e:Expr} {te:TE} {p2 pos pu pc:Pos} {j:Nat}
end
theorem Room.u1 {k:Nat} {A:Around} (r:Room k A):A.units + 1 < cLine:=by have:=r.un; omega
section
variable {X:Cx} {pu pc:Pos} {j:Nat}
end
end L2
set_option maxHeartbeats 4000000
namespace L2
open PySem PySem.Spec PyProof.Rows
open PySem.AutoSeq1 (wpAny_loadPart')
section
variable {prog:Program} {w:World} {A:Around} {E:Value → Shared → Prop} {s:Shared}
end
section
variable {X:Cx}
def sT:List V → Hp → VK → Prop:=fun xs H Q => ∃ (a:Addr) (kvs:List (Key × V)) (ss:List Str),xs = [.ref a] ∧ Rd H a (.dK kvs) ∧ kvs.map (·.1) = ss.map Sum.inr ∧ kvs.length < 64 ∧ ∀ r (ss':List Str),H r = none → ss'.Perm ss → Q (.ref r) (upd H r (.lst (ss'.map V.str)))
theorem yS:∀ {vs:List Value} {ss:List Str},StrsAre vs ss → Vals (ss.map V.str) vs:=by
 intro vs ss h
 induction h with
 | nil => exact .nil
 | cons x t _ ih => exact .cons ⟨t,rfl⟩ ih
theorem wN:∀ {vs:List Value} {ss:List Str},vs.length = ss.length → (∀ (j:Nat) v x,vs[j]? = some v → ss[j]? = some x → ∃ t,v = .str x t) → StrsAre vs ss
 | [],[],_,_ => .nil
 | v :: r,x :: y,hl,h => by
   obtain ⟨t,e⟩:=h 0 v x rfl rfl
   subst e
   exact .cons x t (wN (by simpa using hl) fun j v' x' a b => h (j + 1) v' x' (by simpa using a) (by simpa using b))
 | [],_ :: _,hl,_ => absurd hl (by simp)
 | _ :: _,[],hl,_ => absurd hl (by simp)
theorem yI (hc:X.calm = true):CallR X (.builtin "sorted") sT:=by
 intro pins s σ H xs us Q I r h
 obtain ⟨a,kvs,ss,rfl,ha,hk,h64,q⟩:=h
 obtain ⟨u,rfl,ru⟩:=dQ r
 cases ru
 obtain ⟨z,hd,vs,rel,dd⟩:=eO I.hok ha
 obtain ⟨ep,hat⟩:=dd.dictAt
 have hlv:=rel.length
 refine Calls.call_function_entry kind_sorted plain_sorted entry_sorted (args_sorted1 _) ?_
 unfold Builtin.«sorted»
 refine Aa (m:=checkCount "sorted" 1 1 _) (Ae (Aa (PySem.W.kdu_collect (A:=X.A.in1) (PySem.W.kdl_dict (knd:=aM X.prog X.w) (kvs:=vs) (ep:=ep) hd) (I.ok.hd hc) hat (by omega) fun h' tk acc hk' hacc => ?_)))
 have hl:acc.toList.length = vs.length:=by rw [Aw]; exact hacc.1
 have I1:Inv X pins σ H { s with heap:=h',toks:=tk }:=I.kept hk'
 have hsl:ss.length = kvs.length:=by have:=Cr List.length hk; rw [Ac,Ac] at this; exact this.symm
 have hS:StrsAre acc.toList ss:=wN (by omega) fun j v x hv hx => by
   obtain ⟨k,y,e1,e2⟩:=hacc.2 j v (by rw [← Bz]; exact hv)
   have hk2:(kvs.map (·.1))[j]? = some k:=by rw [rel.keys,Al,e1]; rfl
   rw [hk,Al,hx] at hk2
   cases hk2
   exact bZ8 e2
 refine Aa (wpAny_newList ?_ (by rw [hl]; omega))
 have hoL:(h'.push { cls:=.type "list",data:=.seq acc.toList.toArray }).get? h'.objs.size = some (seqObj "list" acc.toList.toArray 0):=Ap _ rfl
 refine Aa (Bv (Cc PyProof.Rows.slot_list_sort ⟨_,hoL,rfl⟩ PyProof.Rows.entry_list_sort (list_sort_treeK strKind_oneLt hoL hS.keysOf (fun v1 v2 rest e => keyKind_strs (by rw [← e]; exact hS)) (by omega) fun st' a1 a2 => ⟨_,rfl,?_⟩) (PyProof.Rows.args_list_sort _)))
 obtain ⟨ss',b1,b2,_⟩:=sorted_out_str hS a1 a2
 obtain ⟨c,hcc⟩:=sortedHeap_at (vs:=acc.toList) (out:=(arrOf st').map (·.2)) hoL
 refine Ae ⟨_,rfl,.ref h'.objs.size,upd H h'.objs.size (.lst (ss'.map V.str)),I1.laid (a:=h'.objs.size) (o:=.lst (ss'.map V.str)) (t':=tk) (fun b o e => ?_) (Ai _) ?_,rfl,q _ ss' (I1.hok.fresh (Ai _)) b2⟩
 · have hlt:=Ak e
   refine (sortedHeap_old (Av hlt) (Ak (Ad _ e))).trans (Ad _ e)
 · have:=b2.length_eq
   refine ⟨by rw [Ac]; exact Fl (bD (by omega)),_,c,yS b1,?_⟩
   rw [hcc]
theorem xW {a:Addr} {kvs:List (Key × V)} {ss:List Str} {H:Hp} {Q:VK} (ha:Rd H a (.dK kvs)) (hk:kvs.map (·.1) = ss.map Sum.inr) (h64:kvs.length < 64) (h:∀ r (ss':List Str),H r = none → ss'.Perm ss → Q (.ref r) (upd H r (.lst (ss'.map V.str)))):sT [.ref a] H Q:=⟨a,kvs,ss,rfl,ha,hk,h64,h⟩
end
end L2
set_option maxHeartbeats 4000000
namespace L2
open PySem PySem.Spec PyProof.Rows PySem.W
section
variable {prog:Program} {w:World} {A:Around} {E:Value → Shared → Prop} {s:Shared} {K:Frag} {x D:Addr} {ox:Obj} {od:Option Obj}
theorem bQN {name:Str} {v:Value} {expr:Bool} {Q:Value → Shared → Prop} (Z:ExK K D) (X:K.In s.heap) (I:InstAt s.heap x ox D od) (hf:findObj K D od name = some (.value v)) (hh:handedIn v = true) (h:Q v { s with toks:=s.toks + 1 }) :
   wpAny (model prog w) A (getAttr (.ref x) name expr) Q E s:=by
 obtain ⟨hp,g,d,t,os⟩:=s
 have L0:=I.type (M:=model prog w)
 have L1:=looks_findIn (M:=model prog w) X Z.ga
 have L2:=looks_findIn (M:=model prog w) X Z.gh
 have L3:=looks_find (M:=model prog w) X I hf
 unfold getAttr getAttrBy
 refine Aa (wpAny_mkText (Bv (Aa (L0.at (Aa (L1.at ?_))))))
 have ne:(Value.builtin "BaseException.__getattribute__" == Value.builtin "object.__getattribute__") = false:=by decide +kernel
 have fb:=F.excAttr_ValueError.ga.bind (.ref x)
 dsimp only
 rw [ne,Bool.and_false,if_neg Ao]
 unfold getAttrByItsOwn hookBefore
 rw [if_pos (show onTheHeap (Value.ref D) = true from rfl)]
 refine Aa (L2.at (Aa (Fd (Bv ?_))))
 unfold callGetattribute boundAndCalled
 rw [if_neg (by rw [show onTheHeap (Value.builtin "BaseException.__getattribute__") = false from rfl,Bool.and_false]; exact Ao)]
 refine Aa (wpAny_of_eq fb ?_)
 refine Gb (Gd F.excAttr_ValueError.ga.plain F.entry_bexc_ga (zG Z X I ?_))
 unfold Builtin.«object.__getattribute__»
 refine Aa (Ae (Aa (Ae (Aa (L0.at (Aa (L3.at ?_)))))))
 refine Ae ?_
 exact handed_on hh h
theorem aZU {e t0:Addr} {oe:Obj} {vs:Array Value} {rest:List Value} {Q:Value → Shared → Prop} (Z:ExK K D) (X:K.In s.heap) (I:InstAt s.heap e oe D od) (hb:PySem.W.subIn K (.ref D) (.type "ValueError") = some true) (hd:oe.data = .fields vs) (h0:vs[0]? = some (.ref t0)) (hr:rest.length ≤ sizeLine)
   (h:Q .none { s with heap:=(s.heap.push { cls:=.type "tuple",data:=.seq rest.toArray }).update e (Obj.mapFields (·.setIfInBounds 0 (.ref s.heap.objs.size))) }) :
   wpAny (model prog w) A (call (.builtin "ValueError.__init__") (.ref e :: rest)) Q E s:=by
 have he:=I.at_
 obtain ⟨cd,hc,_⟩:=any_some Z.cls
 have FB:=PySem.F.excBase_ValueError
 have L0:=I.type (M:=model prog w)
 have L1:=looks_subIn (M:=model prog w) X hb
 refine Gb (Gd FB.init.plain FB.initEntry ?_)
 have ck:∀ (Q:Unit → Shared → Prop) (E:Value → Shared → Prop) (B:Around),Q () s → wpAny (model prog w) B (checkBuiltinCall "ValueError.__init__" ⟨.ref e :: rest,[]⟩) Q E s:=fun Q E B hq => by
   simp only [checkBuiltinCall,FB.initKind,FB.initSplit,FB.initRow]
   refine Aa ((L0.andThen L1).at ?_)
   have hst:=FB.noStar
   have sg:∀ (a b:String) (n:Nat),Bind.check ⟨.positional, "*", "ValueError",.self,[⟨"args",.varPos,false⟩]⟩ a b n (List.map (fun x => x.fst) ({ pos:=Value.ref e :: rest }:Args).kw) = pure ():=fun a b n => check_star_args _ _ _ _ _ _
   repeat (first | wp_step)
   rw [I.cls]
   refine Aa ((looks_clsIn X hc).at (Ae ?_))
   repeat (first | wp_step)
   refine wpAny_onRaise ?_
   rw [sg]
   exact Ae hq
 refine ck _ _ _ ?_
 have hs0:0 < vs.size:=(Bx.mp h0).1
 have hg:=Ad (h:=s.heap) { cls:=.type "tuple",data:=.seq rest.toArray } he
 unfold Builtin.«BaseException.__init__» newTuple Builtin.BaseException.bexcPut
 dsimp only
 rw [if_neg (by simp)]
 refine Aa (Eg (Aa (Aa (Ct hg hd h0 (Aa (Hf hg hd hs0 (wpAny_letGo (Ae h))))))) (by show rest.toArray.size ≤ sizeLine; rw [Bu]; exact hr))
def uW (K:Frag) (D:Addr):Option (List Value):=(clsIn K D).map (·.mro)
theorem sA {T dx:Addr} {name:Str} {v:Value} {h1:Heap} {m:Str → Option Value} {ns:List Str} {Q:Unit → Shared → Prop} (Z:ExK K D) (X:K.In s.heap) (I:InstAt s.heap x ox D od)
   (hs:findIn K (.ref D) "__setattr__" = some (some (.builtin "object.__setattr__"))) (hm:uW K D = some [.ref D,.ref T,.type "ValueError",.type "Exception",.type "BaseException",.type "object"]) (hna:findIn K (.ref D) name = some none)
   (hi:∀ (B:Around) (Q':Option Addr → Shared → Prop) (E':Value → Shared → Prop),Q' (some dx) { s with heap:=h1,toks:=s.toks + 1 } → wpAny (model prog w) B (instanceDict x true) Q' E' { s with toks:=s.toks + 1 })
   (hn:h1.Ns1 dx m) (hw:Within m ns) (hz:ns.length < sizeLine)
   (h:∀ h' tk',h'.Ns1 dx (fun y => if y = name then some v else m y) → Heap.SameBut dx h1 h' → Q () { s with heap:=h',toks:=tk' }) :
   wpAny (model prog w) A (setAttr (.ref x) name v) Q E s:=by
 obtain ⟨cd,hc,hd'⟩:=any_some Z.cls
 have hmr:cd.mro = [.ref D,.ref T,.type "ValueError",.type "Exception",.type "BaseException",.type "object"]:=by
   unfold uW at hm
   rw [hc] at hm
   exact Bo hm
 have SF:=PySem.F.store_ValueError
 have sub:Looks (model prog w) s.heap (isInstance (.ref x) (.type "object")) true:=I.type.andThen (looks_mroIn X Z.mo)
 have hmm:Looks (model prog w) s.heap (mroOf (.ref D)) cd.mro:=(looks_clsIn X hc).andThen .now
 have hx:=I.at_
 refine set_plain X I hs ?_
 refine Gd SF.slot.plain SF.entry (@check_slot (model prog w) _ _ { s with toks:=s.toks + 1 } "object.__setattr__" "object" "__setattr__" (.ref x) [.str name s.toks,v] [] _ SF.kind SF.split sub (SF.args (.ref x) (.str name s.toks) v) ?_)
 rw [osa_eq,refuse_eq]
 refine Aa (Aa (I.type.here (s:={ s with toks:=s.toks + 1 }) (Aa (hmm.here (s:={ s with toks:=s.toks + 1 }) ?_))))
 rw [hmr,refuseLoop_ref,refuseLoop_ref,SF.passes]
 refine Ae (Aa (I.type.here (s:={ s with toks:=s.toks + 1 }) (Aa ((looks_findIn X hna).here (s:={ s with toks:=s.toks + 1 }) (Aa (Ae ?_))))))
 show wpAny (model prog w) A.in1 (Builtin.ObjectAttr.storeInOwnDict (Value.ref x) (Value.ref D) (Value.str name s.toks) name v false) _ _ _
 unfold Builtin.ObjectAttr.storeInOwnDict
 refine Aa (Ae ?_)
 rw [if_neg (show ¬ ((Value.ref D == Value.type "module") = true) by simp)]
 unfold Builtin.ObjectAttr.ownDictForStores
 refine Aa (hi _ _ _ ?_)
 show wpAny (model prog w) A.in1 (Builtin.ObjectAttr.storeInDict dx (Value.str name s.toks) name v) _ _ _
 unfold Builtin.ObjectAttr.storeInDict Builtin.ObjectAttr.newKeyGuard
 refine Aa (Ae (Aa (wpAny_nsSet1 hn fun h' hn' sb => ?_)))
 obtain ⟨oD,esD,epD,hoD,hdD,hcD⟩:=hn'.count (Within.cons name v hw)
 refine Aa (wpAny_lookBehind hoD (by rw [hdD]; exact pastItsLine_dict (Bg hcD (by rw [Bi]; omega))) ?_)
 exact Ae (h h' _ hn' sb)
theorem aJA {T:Addr} {name:Str} {v:Value} {vs:Array Value} {Q:Unit → Shared → Prop} (Z:ExK K D) (X:K.In s.heap) (I:InstAt s.heap x ox D none) (hda:ox.data = .fields vs) (hdn:ox.dict = none)
   (hs:findIn K (.ref D) "__setattr__" = some (some (.builtin "object.__setattr__"))) (hm:uW K D = some [.ref D,.ref T,.type "ValueError",.type "Exception",.type "BaseException",.type "object"]) (hna:findIn K (.ref D) name = some none)
   (h:∀ h' tk',h'.get? x = some { ox with dict:=some s.heap.objs.size } → h'.Ns1 s.heap.objs.size (fun y => if y = name then some v else none) → (∀ b o,b ≠ x → s.heap.get? b = some o → h'.get? b = some o) → Q () { s with heap:=h',toks:=tk' }) :
   wpAny (model prog w) A (setAttr (.ref x) name v) Q E s:=by
 obtain ⟨cd,hc,hd'⟩:=any_some Z.cls
 have hx:=I.at_
 have hx1:(s.heap.push { cls:=.type "dict",data:=.dict #[] }).get? x = some ox:=Ad _ hx
 have hxs:x ≠ s.heap.objs.size:=Av (Ak hx)
 have hgd:((s.heap.push { cls:=.type "dict",data:=.dict #[] }).update x fun o => { o with dict:=some s.heap.objs.size }).get? s.heap.objs.size = some { cls:=.type "dict",data:=.dict #[] } :=
   (Heap.get?_update_ne _ _ _ _ hxs.symm).trans (Heap.get?_push_at rfl rfl)
 have hnd:((s.heap.push { cls:=.type "dict",data:=.dict #[] }).update x fun o => { o with dict:=some s.heap.objs.size }).Ns s.heap.objs.size (fun _ => none) :=
   ⟨_,#[],_,hgd,rfl,fun e he => absurd he (by simp),fun _ => rfl⟩
 have hxu:((s.heap.push { cls:=.type "dict",data:=.dict #[] }).update x fun o => { o with dict:=some s.heap.objs.size }).get? x = some { ox with dict:=some s.heap.objs.size }:=by
   refine Dj _ hx1 ?_
   obtain ⟨a,b,c,d⟩:=ox
   cases hda
   rfl
 refine sA Z X I hs hm hna (fun B Q' E' q => ?_) (Heap.Ns1.of_empty hnd) Within.nil (by rw [List.length_nil,sizeLine_eq]; omega) fun h' tk' n sb => h h' tk' ((sb.2 x hxs).trans hxu) n fun b o hb e =>
   (sb.2 b (Av (Ak e))).trans ((Heap.get?_update_ne _ _ _ _ hb).trans (Ad _ e))
 unfold instanceDict
 refine Aa (wpAny_loadPart hx ?_)
 rw [I.cls]
 refine Aa ((looks_clsIn X hc).here (s:={ s with toks:=s.toks + 1 }) ?_)
 rw [hd',hdn,hda,if_neg (show ¬ ((!true) = true) by decide)]
 dsimp only
 rw [if_neg (show ¬ ((!true || !typeHasDict (Value.ref D)) = true) by simp [typeHasDict])]
 exact Aa (wpAny_alloc' (Aa (wpAny_update' hx1 (Ae q))))
theorem aX7 {T dx:Addr} {name:Str} {v:Value} {m:Str → Option Value} {ns:List Str} {odx:Obj} {Q:Unit → Shared → Prop} (Z:ExK K D) (X:K.In s.heap) (I:InstAt s.heap x ox D (some odx)) (hdn:ox.dict = some dx)
   (hs:findIn K (.ref D) "__setattr__" = some (some (.builtin "object.__setattr__"))) (hm:uW K D = some [.ref D,.ref T,.type "ValueError",.type "Exception",.type "BaseException",.type "object"]) (hna:findIn K (.ref D) name = some none)
   (hn:s.heap.Ns1 dx m) (hw:Within m ns) (hz:ns.length < sizeLine)
   (h:∀ h' tk',h'.Ns1 dx (fun y => if y = name then some v else m y) → Heap.SameBut dx s.heap h' → Q () { s with heap:=h',toks:=tk' }) :
   wpAny (model prog w) A (setAttr (.ref x) name v) Q E s:=by
 obtain ⟨cd,hc,hd'⟩:=any_some Z.cls
 refine sA Z X I hs hm hna (fun B Q' E' q => ?_) hn hw hz h
 unfold instanceDict
 refine Aa (wpAny_loadPart I.at_ ?_)
 rw [I.cls]
 refine Aa ((looks_clsIn X hc).here (s:={ s with toks:=s.toks + 1 }) ?_)
 rw [hd',hdn,if_neg (show ¬ ((!true) = true) by decide)]
 exact Ae q
end
end L2
set_option maxHeartbeats 4000000
namespace L2
open PySem PySem.Spec PyProof.Rows PySem.W
def dM (ea C:Addr) (d:Option Addr):HO:=.ext fun h => ∃ oe vs t0,h.get? ea = some oe ∧ oe.cls = .ref C ∧ oe.dict = d ∧ oe.data = .fields vs ∧ vs[1]? = some .none ∧ vs[0]? = some (.ref t0) ∧ vs[2]? = some .none
def xdO (dx:Addr) (fs:List (Str × V)):HO:=.ext fun h => ∃ mA,h.Ns1 dx mA ∧ (∀ f,RelO (fs.lookup f) (mA f)) ∧ Within mA (fs.map (·.1))
theorem qH {P:Program} {w:World} {H:Hp} {h:Heap} {ea C:Addr} {d:Option Addr} {oe:Obj} {vs:Array Value} {t0:Addr} (g:h.get? ea = some oe) (c:oe.cls = .ref C) (di:oe.dict = d) (da:oe.data = .fields vs) (h1:vs[1]? = some .none) (h0:vs[0]? = some (.ref t0)) (c2:vs[2]? = some .none) :
   ObjOk P w H h ea (dM ea C d):=⟨⟨oe,vs,t0,g,c,di,da,h1,h0,c2⟩,⟨oe,g⟩,fun _ _ ⟨o,ws,t,g,q⟩ k => ⟨o,ws,t,k o g,q⟩⟩
theorem aQ2 {P:Program} {w:World} {H:Hp} {h:Heap} {dx:Addr} {fs:List (Str × V)} {mA:Str → Option Value} (n:h.Ns1 dx mA) (r:∀ f,RelO (fs.lookup f) (mA f)) (wi:Within mA (fs.map (·.1))):ObjOk P w H h dx (xdO dx fs):=by
 refine ⟨⟨mA,n,r,wi⟩,?_,fun _ _ ⟨m,⟨o,es,ep,g,q⟩,r⟩ k => ⟨m,⟨o,es,ep,k o g,q⟩,r⟩⟩
 obtain ⟨o,es,ep,g,_⟩:=n
 exact ⟨o,g⟩
structure XcK (K:Frag) (C T:Addr):Prop where
 ex:ExK K C
 sa:findIn K (.ref C) "__setattr__" = some (some (.builtin "object.__setattr__"))
 mro:uW K C = some [.ref C,.ref T,.type "ValueError",.type "Exception",.type "BaseException",.type "object"]
 vb:PySem.W.subIn K (.ref C) (.type "ValueError") = some true
def cXS (K:Frag) (C T:Addr):Bool:=(clsIn K C).any fun c => match c.mro with
 | [.ref a,.ref b,.type x,.type y,.type z,.type u] => a == C && b == T && x == "ValueError" && y == "Exception" && z == "BaseException" && u == "object"
 | _ => false
theorem bX2 {K:Frag} {C T:Addr} (h:cXS K C T = true):uW K C = some [.ref C,.ref T,.type "ValueError",.type "Exception",.type "BaseException",.type "object"]:=by
 obtain ⟨c,hc,h⟩:=any_some h
 unfold uW
 rw [hc]
 split at h
 · rename_i hm
   simp only [Bool.and_eq_true,beq_iff_eq] at h
   obtain ⟨⟨⟨⟨⟨rfl,rfl⟩,rfl⟩,rfl⟩,rfl⟩,rfl⟩:=h
   exact Cr some hm
 · cases h
theorem gD {P:Program} {w:World} {H:Hp} {h:Heap} {ea D:Addr} {d:Option Addr} {oe:Obj} {vs:Array Value} (hok:HOk P w H h) (g:h.get? ea = some oe) (hc:oe.cls = .ref D) (hdi:oe.dict = d) (hda:oe.data = .fields vs) (hd:∀ dx,d = some dx → ∃ o,H dx = some o) :
   ∃ od,InstAt h ea oe D od:=by
 have no:notCls oe = true:=by
   obtain ⟨c,di,da,sl⟩:=oe
   cases hda
   rfl
 cases d with
 | none => exact ⟨none,g,hc,no,by rw [hdi]; trivial⟩
 | some dx =>
   obtain ⟨o,z⟩:=hd dx rfl
   obtain ⟨ob,g2⟩:=(hok dx o z).get
   exact ⟨some ob,g,hc,no,by rw [hdi]; exact g2⟩
theorem cXV {H:Hp} {a:Addr} {o:HO} (e:H a = some o):upd H a o = H:=by
 funext b
 unfold upd
 split
 · rename_i z; rw [z,e]
 · rfl
def tX (K:Frag):List V → Hp → VK → Prop:=fun vs H Q => ∃ ea rest C T d,vs = .ref ea :: rest ∧ rest.length ≤ sizeLine ∧ H ea = some (dM ea C d) ∧ (∀ dx,d = some dx → ∃ o,H dx = some o) ∧ XcK K C T ∧ Q .non H
def aQU (K:Frag) (t:TA):TE:=fun σ H Q => t σ H fun vs H1 => tX K vs H1 Q
theorem bQR {X:Cx}:CallR X (.builtin "ValueError.__init__") (tX X.K):=by
 intro pins s σ H xs us Q I r h
 obtain ⟨ea,rest,C,T,d,rfl,hl,he,hd,Z,q⟩:=h
 cases r with
 | @cons _ _ _ l2 r0 rr =>
   cases r0
   obtain ⟨oe,vs,t0,g,hc,hdi,hda,h1,h0,c2⟩:=(I.hok ea _ he).1
   obtain ⟨od,hI⟩:=gD I.hok g hc hdi hda hd
   refine aZU Z.ex I.kIn hI Z.vb hda h0 (by rw [← rr.length]; exact hl) ?_
   have g2:=Ad (h:=s.heap) { cls:=.type "tuple",data:=.seq l2.toArray } g
   have hs0:0 < vs.size:=(Bx.mp h0).1
   have dm:=Dc hda (·.setIfInBounds 0 (Value.ref s.heap.objs.size))
   refine ⟨.non,H,?_,rfl,q⟩
   have I2:=I.write (x:=ea) (e:=ea) (o:=dM ea C d) (t':=s.toks) (by rw [he]; exact True.intro) (.inl rfl) (fun b u hb z => (Bj _ (Obj.mapFields (·.setIfInBounds 0 (Value.ref s.heap.objs.size))) (Ne.symm hb)).trans (Ad _ z))
     ⟨_,Heap.get?_update_self _ g2 (Obj.isFreed_of_fields dm)⟩ (qH (Heap.get?_update_self _ g2 (Obj.isFreed_of_fields dm)) (by rw [Obj.cls_mapFields]; exact hc) (by rw [rD]; exact hdi) dm (by rw [Array.getElem?_setIfInBounds]; simp [h1]) (t0:=s.heap.objs.size) (by simp [hs0]) ((Array.getElem?_setIfInBounds_ne (by decide)).trans c2))
   rw [cXV he] at I2
   exact I2
section
variable {X:Cx} {x:Str} {T:Addr} {mc:Value} {e:Expr} {es:List Expr} {t:TA} {np apos pos:Pos}
theorem aX3 {pl:Sem Bool} (hg:Gl X x) (hm:X.mg x = some (.ref T)) (h1:specialIn X.K (.ref T) "__getattribute__" = some (some (.builtin "type.__getattribute__"))) (h2:readsIn X.K T mc = true)
   (h3:findCls X.K (.ref T) mc "__init__" = some (.val (.builtin "ValueError.__init__"))) (ha:PA X (e :: es) t) (hdb:(x == ("__debug__" : Str)) = false:=by decide)
   (hst:starEach (e :: es) X.env = (false,eval e X.env) :: starEach es X.env:=by rfl) (hpl:(backTo pos (starEach es X.env)).any (·.1) = false:=by rfl)
   (ht:eval (.Call (.Attribute (.Name x np) "__init__" apos) (e :: es) [] pos) X.env = (do
     let ov ← eval (.Name x np) X.env
     standAt apos.atName
     let (f,first) ← holding [ov] (getMethod ov "__init__" pl)
     callWith pos f first (backTo pos (starEach (e :: es) X.env)) (backToKw pos (keywordEach [] X.env))):=by rfl) :
   PE X (.Call (.Attribute (.Name x np) "__init__" apos) (e :: es) [] pos) (aQU X.K t):=by
 intro pins s σ H Q I h
 refine PySem.W.methodCall_KW (pl:=pl) (eC I hg hm ?_ hdb) ht
 refine method_cls I.kIn h1 (cls_value I.kIn h2 h3 rfl ?_)
 exact PyProof.Rows.callWith_builtin1 (thn (ha pos pins _ σ H _ (I.tok _) h) fun us s1 ⟨vs,H1,I1,r1,q1⟩ => bQR pins s1 σ H1 vs us Q I1 r1 q1) hst hpl
end
theorem Inv.freAt {X:Cx} {pins:List (Addr × Obj)} {σ:St} {H:Hp} {s:Shared} {a:Addr} (I:Inv X pins σ H s) (h:s.heap.objs.size ≤ a):Fre X pins a where
 s0:=Fz (Bg I.sz h)
 loc:=fun z => absurd (Bb I.lt h) (by rw [z]; exact Cv _)
 cell:=fun x c e z => by
   obtain ⟨_,o,g,_⟩:=I.cell x c e
   exact absurd (Bb (Ak g) h) (by rw [z]; exact Cv _)
 pin:=fun p hp z => absurd (Bb (Ak (I.pin p hp).1) h) (by rw [z]; exact Cv _)
def bZO (K:Frag) (ta tv:TE) (f:Str):TS:=fun D σ H => tv σ H fun y H1 => ta σ H1 fun x H2 => ∃ ea C T,x = .ref ea ∧ XcK K C T ∧ findIn K (.ref C) f = some none ∧
 ((H2 ea = some (dM ea C none) ∧ ∀ dx,H2 dx = none → D.nx σ (upd (upd H2 ea (dM ea C (some dx))) dx (xdO dx [(f,y)]))) ∨
  (∃ dx fs,H2 ea = some (dM ea C (some dx)) ∧ H2 dx = some (xdO dx fs) ∧ fs.length < 100 ∧ D.nx σ (upd H2 dx (xdO dx ((f,y) :: fs)))))
theorem oP {f g:Str} {y:V} {fs:List (Str × V)}:List.lookup g ((f,y) :: fs) = if g = f then some y else fs.lookup g:=by
 rw [Ea]
 by_cases z:g = f
 · rw [if_pos z,z]; simp
 · rw [if_neg z]
   have:(g == f) = false:=by simpa using z
   rw [this]
theorem vW {X:Cx} {o value:Expr} {f:Str} {pos pos':Pos} {ta tv:TE} (ha:PE X o ta) (hv:PE X value tv) (hs:swapsWith value (some (.Attribute o f pos')) pos.line X.env = pure false):PS X (.Assign [.Attribute o f pos'] value pos) (bZO X.K ta tv f):=by
 intro pins s σ H D I h
 refine plainObj_wpAny_Assign_Attribute (thn (hv pins s σ H _ I h) fun u s1 ⟨y,H1,I1,ry,q⟩ => thn (ha pins s1 σ H1 _ I1 q) fun ov s2 ⟨x,H2,I2,rx,ea,C,T,ex,Z,hn,q2⟩ => ?_) hs
 subst ex
 obtain rfl:ov = Value.ref ea:=rx
 rcases q2 with ⟨he,q3⟩ | ⟨dx,fs,he,hdx,hl,q3⟩
 · obtain ⟨oe,vs,t0,g,hc,hdi,hda,h1,h0,c2⟩:=(I2.hok ea _ he).1
   obtain ⟨od,hI⟩:=gD I2.hok g hc hdi hda (fun _ z => nomatch z)
   have hod:od = none:=by
     have z:=hI.dict
     rw [hdi] at z
     cases od with
     | none => rfl
     | some o => exact z.elim
   subst hod
   refine aJA Z.ex I2.kIn hI hda hdi Z.sa Z.mro hn fun h' tk' gx ns kp => ?_
   have fr:=I2.freAt (Ai _)
   have hfree:H2 s2.heap.objs.size = none:=I2.hok.fresh (Ai _)
   have ne:s2.heap.objs.size ≠ ea:=fun z => by rw [z,he] at hfree; cases hfree
   have I3:=I2.write (x:=ea) (e:=ea) (o:=dM ea C (some s2.heap.objs.size)) (h':=h') (t':=tk') (by rw [he]; exact True.intro) (.inl rfl) kp ⟨_,gx⟩ (qH gx hc rfl hda h1 h0 c2)
   have I4:=I3.adopt (a:=s2.heap.objs.size) (o:=xdO s2.heap.objs.size [(f,y)]) fr (by rw [aH ne]; exact hfree) (aQ2 ns (fun g => by
     rw [oP]
     split
     · exact ry
     · exact True.intro) (fun g hg => by
     by_cases z:g = f
     · rw [z]; exact Aq.mpr rfl
     · exact absurd (show (if g = f then some u else none) = none by rw [if_neg z]) hg))
   exact ⟨σ,_,I4,q3 _ hfree⟩
 · obtain ⟨oe,vs,t0,g,hc,hdi,hda,h1,h0,c2⟩:=(I2.hok ea _ he).1
   obtain ⟨mA,n,r,wi⟩:=(I2.hok dx _ hdx).1
   obtain ⟨od,hI⟩:=gD I2.hok g hc hdi hda (fun z e => by cases e; exact ⟨_,hdx⟩)
   have hod:∃ o,od = some o:=by
     have z:=hI.dict
     rw [hdi] at z
     cases od with
     | none => exact z.elim
     | some o => exact ⟨o,rfl⟩
   obtain ⟨o,rfl⟩:=hod
   refine aX7 Z.ex I2.kIn hI hdi Z.sa Z.mro hn n wi (by rw [Ac,sizeLine_eq]; omega) fun h' tk' ns sb => ?_
   have hd':∃ o,h'.get? dx = some o:=let ⟨o,_,_,e',_⟩:=ns; ⟨o,e'⟩
   have I3:=I2.write (x:=dx) (e:=dx) (o:=xdO dx ((f,y) :: fs)) (h':=h') (t':=tk') (by rw [hdx]; exact True.intro) (.inl rfl) (fun b q hb z => (sb.2 b hb).trans z) hd' (aQ2 ns (fun g => by
     rw [oP]
     split
     · exact ry
     · exact r g) (fun g hg => by
     by_cases z:g = f
     · rw [z]; exact An
     · refine Am _ (wi g fun z2 => hg ?_)
       show (if g = f then some u else mA g) = none
       rw [if_neg z]; exact z2))
   exact ⟨σ,_,I3,q3⟩
theorem aX8 {v:V} {u:Value} (r:RelV v u):handedIn u = true:=by
 cases v <;> first | (obtain ⟨_,rfl⟩:=(show ∃ t,u = _ from r); rfl) | (cases r; rfl)
end L2
set_option maxHeartbeats 4000000
namespace L2
open PySem PySem.Spec PyProof.Rows PySem.W
def uL (K:Frag) (C:Addr) (bmB:List Value) (newId:String):Bool :=
 match K.lookup C with
 | some ⟨.type t,_,.cls c,sl⟩ => t == "type" && !c.hasDel && nsOkIn K c.ns &&
   (match c.mro with | .ref C1 :: bm => C1 == C && tailIn K bmB bm | _ => false) && (match sl.toList with | [_,_,_,_,some (.builtin n),_] => n == newId | _ => false)
 | _ => false
theorem bJ6 {K:Frag} {h:Heap} {C:Addr} {bmB:List Value} {newId:String} (X:K.In h) (q:uL K C bmB newId = true) :
   ∃ bm N nm qn bs hd sn sub ab col dd k0 k1 k2 k3 k5,h.get? C = some (excClassObj nm qn C N bs bm hd sn sub ab col dd k0 k1 k2 k3 k5 newId) ∧ OwnTail h bmB bm:=by
 unfold uL at q
 split at q
 · rename_i t dd c sl ho
   simp only [Bool.and_eq_true,beq_iff_eq,Bool.not_eq_true'] at q
   obtain ⟨⟨⟨⟨rfl,q1⟩,q2⟩,q3⟩,q4⟩:=q
   split at q3
   · rename_i C1 bm hm
     obtain ⟨rfl,q5⟩:C1 = C ∧ tailIn K bmB bm = true:=by simpa only [Bool.and_eq_true,beq_iff_eq] using q3
     split at q4
     · rename_i k0 k1 k2 k3 n k5 hs
       obtain rfl:n = newId:=by simpa using q4
       obtain ⟨nm,bs,mro,ns,qn,hd,sn,sub,ab,col,del⟩:=c
       dsimp only at hm q1 q2
       subst hm q1
       obtain ⟨l⟩:=sl
       cases (show l = _ from hs)
       exact ⟨bm,ns,nm,qn,bs,hd,sn,sub,ab,col,dd,k0,k1,k2,k3,k5,X _ _ ho,tail_of_in X q5⟩
     · cases q4
   · cases q3
 · cases q
section
variable {prog:Program} {w:World} {A:Around} {E:Value → Shared → Prop} {s:Shared} {K:Frag} {C f:Addr} {bmB:List Value} {B newId initId:String}
theorem aQH {rest:List Value} {Q:Fin → Shared → Prop} (FB:ExcBaseFacts B newId initId bmB) (X:K.In s.heap) (hx:uL K C bmB newId = true) (hi:findIn K (.ref C) "__init__" = some (some (.ref f))) (hf:typeIn K (.ref f) = some (.type "function")) (hr:rest.length ≤ sizeLine)
   (hq:∀ h' e,Heap.MadeExcOf s.heap h' e (.ref C) rest → wpAny (model prog w) A (call (.ref f) (.ref e :: rest)) (fun r s' => r = .none ∧ Q (.done (.ret (.ref e))) s') E { s with heap:=h' }) :
   wpAny (model prog w) A (Builtin.«type.__call__» ⟨.ref C :: rest,[]⟩) Q E s:=by
 obtain ⟨h,g,d,t,os⟩:=s
 obtain ⟨bm,N,nm,qn,bs,hd,sn,sub,ab,col,dd,k0,k1,k2,k3,k5,hC,Tl⟩:=bJ6 X hx
 repeat (first | with_reducible refine wpAny_madeBy_exc hC ?_ | with_reducible refine Fx hC ?_ | wp_step)
 refine codeAny_call_builtin_code (Code.quiet_builtin _ FB.quiet) (wpAny_check_new_subT FB Tl hC (codeAny_exc_new_subT FB Tl hC ?_ hr))
 show wpAny _ _ _ _ _ _
 generalize hh1:(h.push { cls:=.type "tuple",data:=.seq rest.toArray }).push { cls:=.ref C,data:=.fields #[.ref h.objs.size,.none,.none,.none,.bool false,.none] } = h1
 have kp:∀ b o,h.get? b = some o → h1.get? b = some o:=fun b o e => by rw [← hh1]; exact Ad _ (Ad _ e)
 have bX:h1.get? (h.objs.size + 1) = some { cls:=.ref C,data:=.fields #[.ref h.objs.size,.none,.none,.none,.bool false,.none] }:=by rw [← hh1]; heap_get
 have X1:=X.keeps kp
 have hC1:=kp _ _ hC
 have hcC:(Value.ref C :: bm).contains (.ref C) = true:=by simp
 unfold isInstance
 repeat (first | (with_reducible refine wpAny_isSubtype_exc hC1 ?_; rw [hcC]) | with_reducible refine Fx bX ?_ | wp_step)
 show wpAny _ _ (typeLookup (.ref C) _) _ _ _
 refine (looks_findIn X1 hi).here (s:=⟨h1,g,d,t,os⟩) (Bv (Aa ?_))
 unfold bindSpecial
 refine Aa ((looks_typeIn X1 hf).here (s:=⟨h1,g,d,t,os⟩) ?_)
 rw [if_pos (by decide)]
 refine Ae (Aa (Bw (hq h1 (h.objs.size + 1) ⟨kp,Fz (Nat.le_succ _),h.objs.size,bX,Fz (Ai _),?_⟩) (fun r s' hr => ?_) fun _ _ z => z))
 · rw [← hh1]
   exact Ad _ (Heap.get?_push_at rfl rfl)
 · obtain ⟨rfl,z⟩:=hr
   wp_walk
   exact z
theorem aZA {rest:List Value} {Q:Value → Shared → Prop} (FB:ExcBaseFacts B newId initId bmB) (X:K.In s.heap) (hx:uL K C bmB newId = true) (hi:findIn K (.ref C) "__init__" = some (some (.ref f))) (hf:typeIn K (.ref f) = some (.type "function")) (hr:rest.length ≤ sizeLine)
   (hq:∀ h' e,Heap.MadeExcOf s.heap h' e (.ref C) rest → wpAny (model prog w) (A.under (.builtin "type.__call__" ⟨.ref C :: rest,[]⟩)) (call (.ref f) (.ref e :: rest)) (fun r s' => r = .none ∧ Q (.ref e) s') E { s with heap:=h' }) :
   wpAny (model prog w) A (call (.ref C) rest) Q E s:=by
 have X0:=X
 obtain ⟨h,g,d,t,os⟩:=s
 obtain ⟨bm,N,nm,qn,bs,hd,sn,sub,ab,col,dd,k0,k1,k2,k3,k5,hC,Tl⟩:=bJ6 X hx
 have c1:=tc_lookup
 have c2:=tc_bind (.ref C)
 have c3:(⟨h,g,d,t,os⟩:Shared).TypeIs (.ref C) "type" := ⟨_,hC,rfl⟩
 refine Gb (codeAny_of_tree ?_)
 show wpAny _ _ (callAny (.ref C) _) _ _ _
 repeat (any_goals (first | with_reducible refine Fx hC ?_ | assumption | wp_step))
 exact ⟨rfl,codeAny_call_builtin_at (Code.quiet_builtin _ (by decide +kernel)) entry_typeCall (wpAny_check_type_call_sub hC (aQH FB X0 hx hi hf hr fun h' e hm => hq h' e hm))⟩
theorem zT {env:Env} {x:Sem Value} {Q:Flow → Shared → Prop} (hh:A.handled = none)
   (h:wpAny (model prog w) A x (fun v s1 => ∃ e oe vs bm N nm qn bs hd sn sub ab col dd k0 k1 k2 k3 k5,v = .ref e ∧ s1.heap.get? C = some (excClassObj nm qn C N bs bm hd sn sub ab col dd k0 k1 k2 k3 k5 newId) ∧ bm.contains (.type "BaseException") = true ∧
     s1.heap.get? e = some oe ∧ oe.cls = .ref C ∧ oe.data = .fields vs ∧ vs[1]? = some .none ∧ E (.ref e) s1) E s):wpAny (model prog w) A (raiseStmt env (some x) none) Q E s:=by
 unfold raiseStmt
 refine Aa (Bw h (fun v s1 q => ?_) fun _ _ z => z)
 obtain ⟨e,oe,vs,bm,N,nm,qn,bs,hd,sn,sub,ab,col,dd,k0,k1,k2,k3,k5,rfl,hC,hb,he,hc,hda,h1,hE⟩:=q
 obtain ⟨hp,g,d,tk,os⟩:=s1
 obtain ⟨oc,odi,oda,osl⟩:=oe
 dsimp only at hc hda
 subst hc hda
 have hcB:(Value.ref C :: bm).contains (.type "BaseException") = true:=by rw [List.contains_cons,hb,Bool.or_true]
 repeat (first | with_reducible refine Fx hC ?_ | with_reducible refine Fx he ?_ | (with_reducible refine wpAny_isSubtype_exc hC ?_; rw [hcB]) | wp_step)
 rw [h1]
 refine Ae ?_
 rw [if_neg (show ¬ ((Value.none != Value.none) = true) by decide)]
 exact Ae (wpAny_raiseNew_none hh hE)
end
def del (H:Hp) (a:Addr):Hp:=fun b => if b = a then none else H b
theorem eM {H:Hp} {a b:Addr} (h:b ≠ a):del H a b = H b:=if_neg h
theorem tR {H:Hp} {a:Addr}:del H a a = none:=if_pos rfl
section
variable {X:Cx} {pins:List (Addr × Obj)} {σ:St} {H:Hp} {s:Shared}
theorem Inv.drop {ea:Addr} {φ:Heap → Prop} (I:Inv X pins σ H s) (e:H ea = some (.ext φ)):Inv X pins σ (del H ea) s:=by
 have ne:∀ b u,H b = some u → (∀ ψ,u ≠ .ext ψ) → b ≠ ea:=fun b u q n z => by
   rw [z,e] at q
   cases q
   exact n φ rfl
 refine I.re (fun b n => ?_) (fun b xs q => ?_) (fun b o u q => ?_) (fun b ps q => ?_) fun b o q => ?_
 · unfold del
   split
   · rfl
   · exact n
 · have q1:=I.base.tups b xs q
   rw [eM (ne b _ q1 fun _ z => nomatch z)]
   exact q1
 · have q1:=I.base.frzs b o u q
   rw [eM (ne b _ q1 fun _ z => nomatch z)]
   exact q1
 · obtain ⟨m,q1⟩:=I.base.tbls b ps q
   exact ⟨m,by rw [eM (ne b _ q1 fun _ z => nomatch z)]; exact q1⟩
 · have hb:b ≠ ea:=fun z => by rw [z,tR] at q; cases q
   rw [eM hb] at q
   exact (I.hok b o q).stay (fun _ _ _ z => z) (fun c z => by rw [eM (ne c _ z fun _ z => nomatch z)]; exact z) fun c xs z => by rw [eM (ne c _ z fun _ z => nomatch z)]; exact z
theorem Inv.freNew {a:Addr} (I:Inv X pins σ H s) (hex:X.ex = []) (h:s.heap.get? a = none):Fre X pins a where
 s0:=by
   cases z:X.s₀.heap.get? a with
   | none => rfl
   | some o =>
     obtain ⟨o',z'⟩:=I.base.there a o z (by rw [hex]; simp)
     rw [h] at z'
     cases z'
 loc:=fun z => by
   obtain ⟨m,⟨o,_,_,g,_⟩,_⟩:=I.loc
   rw [← z,h] at g
   cases g
 cell:=fun x c e z => by
   obtain ⟨_,o,g,_⟩:=I.cell x c e
   rw [z,h] at g
   cases g
 pin:=fun p hp z => by
   have g:=(I.pin p hp).1
   rw [z,h] at g
   cases g
end
def bQ0 (P:Program) (w:World) (K:PySem.W.Frag) (mg:Str → Option Value) (base:Heap) (k:Nat) (C:Addr) (ps:List Str) (sp:Sp):Prop :=
 ∃ (f:Addr) (fd:FuncData),FnOk P w K mg base CX0 k f fd ps sp ∧ findIn K (.ref C) "__init__" = some (some (.ref f)) ∧ typeIn K (.ref f) = some (.type "function") ∧ Binds K fd ps []
structure XmK (K:Frag) (C:Addr):Prop where
 obj:uL K C [.type "ValueError",.type "Exception",.type "BaseException",.type "object"] "ValueError.__new__" = true
 kp:keepIn K (.ref C) = true
def wO (C:Addr) (sp:Sp) (E:XK) (ta:TA):TS:=fun _ σ H => ta σ H fun vs H1 => vs.length ≤ sizeLine ∧ ∀ ea,H1 ea = none → sp (.ref ea :: vs) (upd H1 ea (dM ea C none)) (fun v H2 => v = .non ∧ ∃ d,H2 ea = some (dM ea C d) ∧ E (.ref C) d (del H2 ea)) E0
section
variable {X:Cx} {E:XK} {x:Str} {C:Addr} {e:Expr} {es:List Expr} {ta:TA} {np cpos pos:Pos} {k:Nat} {ps:List Str} {sp:Sp}
theorem zB {pins:List (Addr × Obj)} {σ:St} {H1:Hp} {s1:Shared} {vs:List V} {us:List Value} {G:Addr → VK} {R:Value → Shared → Prop} (hex:X.ex = []) (M:XmK X.K C) (c:bQ0 X.prog X.w X.K X.mg X.base k C ps sp) (hr:Room (k + 1) X.A) (I1:Inv X pins σ H1 s1) (r:Vals vs us)
   (hl:vs.length ≤ sizeLine) (q:∀ ea,H1 ea = none → sp (.ref ea :: vs) (upd H1 ea (dM ea C none)) (G ea) E0)
   (hR:∀ ea H2 s2,X.s₀.heap.get? ea = none → Inv X pins σ H2 s2 → (G ea) .non H2 → R (.ref ea) s2) (hG:∀ ea v H2,G ea v H2 → v = .non):wpAny (model X.prog X.w) X.A (call (.ref C) us) R X.xe s1:=by
 obtain ⟨f,fd,F,hi,hf,hb⟩:=c
 refine aZA PySem.F.excBase_ValueError I1.kIn M.obj hi hf (by rw [← r.length]; exact hl) fun h' ea hm => ?_
 obtain ⟨t,g,_,_⟩:=hm.there
 have hole:H1 ea = none:=I1.hok.hole hm.new
 have fr:=I1.freNew hex hm.new
 have I2:=(I1.kept (t':=s1.toks) hm.keeps).adopt (o:=dM ea C none) fr hole (qH g rfl rfl rfl rfl rfl rfl)
 have r2:Vals (V.ref ea :: vs) (Value.ref ea :: us):=.cons rfl r
 have hq:=q ea hole
 have hl2:((Value.ref ea :: us) ++ []).length = ps.length:=by rw [Bs,← r2.length]; exact F.len _ _ _ _ hq
 have hbb:=hb { s1 with heap:=h' } (Value.ref ea :: us) I2.kIn hl2
 rw [Bs] at hbb
 refine Gb (Ek (F.run _ X.stack { s1 with heap:=h' } _ ⟨Value.ref ea :: us,[]⟩ (Value.ref ea :: us) (V.ref ea :: vs) _ E0 (hr.make C us []) (I2.env0.make C us []) hbb r2 hq) fun rr s' hq' => ?_)
 cases rr with
 | error e => exact False.elim hq'
 | ok fl =>
   cases fl with
   | ret u =>
     obtain ⟨v,H',I3,rv,q3⟩:=I2.after hq'
     have ev:=hG ea v H' q3
     subst ev
     exact ⟨rv,hR ea H' s' fr.s0 I3 q3⟩
   | next => exact False.elim hq'
   | brk => exact False.elim hq'
   | cont => exact False.elim hq'
theorem xZ {k':Nat} (hR:cJX X E) (hex:X.ex = []) (hc:X.calm = true) (hg:Gl X x) (hm:X.mg x = some (.ref C)) (M:XmK X.K C) (c:bQ0 X.prog X.w X.K X.mg X.base k C ps sp) (hr:Room k' X.A) (hkk:k + 1 ≤ k') (ha:PA X (e :: es) ta)
   (hd:(x == ("__debug__" : Str)) = false:=by decide) (he:starEach (e :: es) X.env = (false,eval e X.env) :: starEach es X.env:=by rfl) (hpl:(backTo cpos (starEach es X.env)).any (·.1) = false:=by rfl) :
   PS X (.Raise (some (.Call (.Name x np) (e :: es) [] cpos)) none pos) (wO C sp E ta):=by
 intro pins s σ H D I h
 rw [arm_exec_Raise]
 simp only [evalOpt,Option.map]
 refine Aa (Hn (zT (C:=C) (newId := "ValueError.__new__") (I.ok.hd hc) ?_))
 refine Aa (Bw (Q:=fun v s1 => ∃ e oe vs bm N nm qn bs hd sn sub ab col dd k0 k1 k2 k3 k5,v = .ref e ∧ s1.heap.get? C = some (excClassObj nm qn C N bs bm hd sn sub ab col dd k0 k1 k2 k3 k5 "ValueError.__new__") ∧ bm.contains (.type "BaseException") = true ∧
     s1.heap.get? e = some oe ∧ oe.cls = .ref C ∧ oe.data = .fields vs ∧ vs[1]? = some .none ∧ X.xe (.ref e) s1) ?_ (fun v s3 h3 => Aa (Hn (Ae h3))) fun _ _ z => z)
 refine Dy (eC I hg hm ?_ hd)
 refine Fn (h₀:=X.base) I.ok.mod.kin M.kp (thn (ha cpos pins s σ H _ I h) fun us s1 ⟨vs,H1,I1,r,hl,q⟩ => ⟨I1.kIn,?_⟩) he hpl
 refine zB hex M c (hr.mono hkk) I1 r hl q (fun ea H' s' s0 I3 q3 => ?_) fun ea v H2 z => z.1
 obtain ⟨_,d,e2,q3⟩:=q3
 obtain ⟨oe,ws,t0,g2,hc2,hdi,hda,h1,h0,c2⟩:=(I3.hok ea _ e2).1
 obtain ⟨bm,N,nm,qn,bs,hdct,sn,sub,ab,col,dd,k0,k1,k2,k3,k5,hC,Tl⟩:=bJ6 I3.kIn M.obj
 refine ⟨ea,oe,ws,bm,N,nm,qn,bs,hdct,sn,sub,ab,col,dd,k0,k1,k2,k3,k5,rfl,hC,Tl.hasType PySem.F.excBase_ValueError.hasBase,g2,hc2,hda,h1,?_⟩
 exact hR pins σ (del H' ea) s' ea oe ws (I3.drop e2) g2 hda h1 c2 tR s0 (by rw [hc2,hdi]; exact q3)
end
def cJ8 (st:Stmt) (j:Nat):Stmt :=
 match st with
 | .ClassDef _ _ _ body _ _ _ _ _ _ _ => body.getD j (.Pass ⟨0,0,0,0⟩)
 | s => s
section
variable {g:TG} {tests:TT} {te:TE} {σ0:St} {Q:VK} {H1:Hp}
end
section
variable {K:PySem.W.Frag} {H:Hp} {Q:VK} {ea C D T dx tp:Addr} {c:V} {cs:List V} {cv:Value} {cvs:List Value} {b:Bool} {d:Option Addr} {σ:St} {D':Ends} {sp:Sp} {E:XK} {ta:TA} {te tv:TE} {f:Str}
theorem aJ0 (h:ta σ H fun vs H1 => tX K vs H1 Q):aQU K ta σ H Q:=h
theorem aXX (h:ta σ H fun vs H1 => vs.length ≤ sizeLine ∧ ∀ ea,H1 ea = none → sp (.ref ea :: vs) (upd H1 ea (dM ea C none)) (fun v H2 => v = .non ∧ ∃ d,H2 ea = some (dM ea C d) ∧ E (.ref C) d (del H2 ea)) E0):wO C sp E ta D' σ H:=h
theorem cQ5 (h:tv σ H fun y H1 => te σ H1 fun x H2 => ∃ ea C T,x = .ref ea ∧ XcK K C T ∧ PySem.W.findIn K (.ref C) f = some none ∧
 ((H2 ea = some (dM ea C none) ∧ ∀ dx,H2 dx = none → D'.nx σ (upd (upd H2 ea (dM ea C (some dx))) dx (xdO dx [(f,y)]))) ∨
  (∃ dx fs,H2 ea = some (dM ea C (some dx)) ∧ H2 dx = some (xdO dx fs) ∧ fs.length < 100 ∧ D'.nx σ (upd H2 dx (xdO dx ((f,y) :: fs)))))):bZO K te tv f D' σ H:=h
end
end L2
set_option maxHeartbeats 4000000
namespace L2
open PySem PySem.Spec PyProof.Rows
section
variable {P:Program} {w:World} {K:PySem.W.Frag} {mg:Str → Option Value} {base:Heap}
end
section
variable {X:Cx} {pn:List (Addr × Obj)} {ea:Addr} {k k':Nat} {ps:List Str} {sp:Sp} {x:Str} {p pos:Pos} {e:Expr} {es:List Expr} {t:TA}
end
end L2
set_option maxHeartbeats 4000000
namespace L2
open PySem PySem.Spec PyProof.Rows
section
variable {prog:Program} {w:World} {A:Around} {E:Value → Shared → Prop}
end
def hid (H:Hp) (ps:List Addr):Hp:=fun b => if b ∈ ps then none else H b
end L2
set_option maxHeartbeats 4000000
namespace L2
open PySem PySem.Spec PyProof.Rows
open PySem.AutoSeq1 (wpAny_loadPart')
section
variable {prog:Program} {w:World} {A:Around} {E:Value → Shared → Prop} {s:Shared}
end
section
variable {X:Cx} {l:Expr} {ta tk:TA} {kws:List Keyword} {elts:List Expr} {x1:Nat} {tp p pos kp:Pos}
end
section
variable {K:PySem.W.Frag} {a:Addr} {k:Nat} {xs:List V} {g:TG} {tb:TS} {D:Ends} {σ σ0:St} {H H1:Hp} {tests:TT} {te:TE} {Q:VK} {z:Str} {ta tk:TA}
theorem dQH {i:Int} (h:Q (.int (-i)) H):cQM (.int i) H Q:=h
end
end L2
set_option maxHeartbeats 4000000
namespace L2
open PySem PySem.Spec PyProof.Rows
section
variable {X:Cx} {a b:Expr} {ta tb:TE} {pos:Pos} {rest:List Expr}
section
variable {σ:St} {H:Hp} {Q:VK} {p:Addr} {xs:List V} {z:Str} {j:Nat}
theorem aJ4 {g:TG} {tests:TT} {te:TE} {σ0:St} {H1:Hp} (f:Nat → Option V) (hl:z.length < sizeLine)
   (hs:∀ (i:Nat) c Hc (A:VK) (B:Hp → Prop),z.cps.toList[i]? = some c → Same H1 Hc → (∀ Hd,Same Hc Hd → match f c with | some y => A y Hd | none => B Hd) →
     g (.str ⟨#[c]⟩) σ0 Hc fun σ2 H2 => Wk σ0 σ2 ∧ tests σ2 H2 fun b H3 => if b = true then te σ2 H3 A else B H3)
   (fin:∀ D Hd,H1 D = none → Same H1 Hd → Hd D = some (.lst (z.cps.toList.filterMap f)) → Q (.ref D) Hd):eL g tests te σ0 Q (Its z) H1:=by
 intro D hD
 have hzz:z.cps.size = z.length:=rfl
 have hz2:z.cps.toList.length = z.length:=by simp [Str.length]
 refine ⟨fun i m Hc => m = z.length - i ∧ i ≤ z.length ∧ Same H1 Hc ∧ Hc D = some (.lst ((z.cps.toList.take i).filterMap f)),⟨z.length,by simp,Nat.zero_le _,aF hD _,by rw [aB]; rfl⟩,?_⟩
 rintro i m Hc ⟨rfl,hi,sm,hDc⟩
 by_cases hlt:i < z.length
 · refine .inr ⟨hlt,fun v H' y => ?_⟩
   obtain ⟨rfl,c,hz,rfl⟩:=y
   have hx:z.cps.toList[i]? = some c:=by rw [Bz]; exact hz
   refine hs i c H' _ _ hx sm fun Hd sd => ?_
   have hDd:Hd D = some (.lst ((z.cps.toList.take i).filterMap f)):=sd _ _ hDc
   have sH:Same H1 Hd:=sm.trans sd
   cases e:f c with
   | some y =>
     refine ⟨_,hDd,?_,z.length - (i + 1),by omega,rfl,hlt,fun b o hb => ?_,?_⟩
     · have:=Dk f (z.cps.toList.take i)
       rw [By] at this
       omega
     · rw [aH (aZ hb hD)]; exact sH b o hb
     · rw [aB,Bq,hx,Cf]
       show some (HO.lst (_ ++ [y])) = some (HO.lst (_ ++ [c].filterMap f))
       rw [Fe e,Eo]
   | none =>
     refine ⟨z.length - (i + 1),by omega,rfl,hlt,sH,?_⟩
     rw [hDd,Bq,hx,Cf]
     show some (HO.lst _) = some (HO.lst (_ ++ [c].filterMap f))
     rw [Gk e,Eo,Bs]
 · have e:i = z.length:=by omega
   subst e
   refine .inl ⟨Ai _,fin D Hc hD sm ?_⟩
   rw [hDc,Ds (by omega)]
end
end
end L2
set_option maxHeartbeats 4000000
namespace L2
open PySem PySem.Spec PyProof.Rows
section
variable {X:Cx}
def bJ0 (neg:Bool):R2:=fun x y H Q => ∃ a ov,y = .ref a ∧ DGet H a x ov ∧ Q (.bl (if neg then !ov.isSome else ov.isSome)) H
theorem cJ5 (hu:X.A.units + 1 < cLine):OpR X (compareOp .In) (bJ0 false):=by
 intro pins s σ H x y v u Q I rx ry h
 obtain ⟨a,ov,rfl,g,q⟩:=h
 cases ry
 exact cZI hu I g rx fun s3 I3 => ⟨.bl ov.isSome,H,I3,rfl,q⟩
theorem aX9 (hu:X.A.units + 1 < cLine):OpR X (compareOp .NotIn) (bJ0 true):=by
 intro pins s σ H x y v u Q I rx ry h
 obtain ⟨a,ov,rfl,g,q⟩:=h
 cases ry
 exact bXE hu I g rx fun s3 I3 => ⟨.bl (!ov.isSome),H,I3,rfl,q⟩
section
variable {H:Hp} {Q:VK} {a:Addr} {kvs:List (Key × V)} {z:Str}
theorem bZ1 {neg:Bool} (e:Rd H a (.dK kvs)) (h:Q (.bl (if neg then !(bH kvs (Sum.inr z)).isSome else (bH kvs (Sum.inr z)).isSome)) H):bJ0 neg (.str z) (.ref a) H Q:=⟨a,_,rfl,.inl ⟨kvs,.inr z,e,rfl,rfl⟩,h⟩
end
end
end L2
set_option maxHeartbeats 4000000
namespace L2
open PySem PySem.Spec PyProof.Rows PySem.Builtin PySem.Builtin.Str
section
variable {X:Cx}
end
end L2
set_option maxHeartbeats 1000000
namespace L2
open PySem PySem.Spec PyProof.Rows
section
variable {X:Cx}
end
end L2
namespace L2
open PySem PySem.Spec PyProof.Rows
section
variable {prog:Program} {w:World} {A:Around} {R:Result → Shared → Prop} {J:Addr} {us ws:List Addr} {n:Nat} {P:Nat → Value → Prop} {St:Nat → Heap → Prop} {d:Value}
end
section
variable {prog:Program} {w:World} {A:Around} {E:Value → Shared → Prop} {s:Shared}
end
section
variable {X:Cx} {l:Expr} {ta:TA} {tk:TA} {p pos kp:Pos}
end
end L2
namespace L2
open PySem PySem.Spec PyProof.Rows
section
variable {X:Cx} {tg a b c:Expr} {p pos:Pos}
end
end L2
set_option maxHeartbeats 4000000
namespace L2
open PySem PySem.Spec PyProof.Rows
section
variable {g:TG} {tests:TT} {te:TE} {σ0:St} {Q:VK} {H1:Hp}
theorem nF {f:Nat → Option V} {i:Nat} {y:V} (h:f i = some y):(List.range (i + 1)).filterMap f = (List.range i).filterMap f ++ [y]:=by
 rw [Dp,Cf,Fe h,Eo]
theorem nK {f:Nat → Option V} {i:Nat} (h:f i = none):(List.range (i + 1)).filterMap f = (List.range i).filterMap f:=by
 rw [Dp,Cf,Gk h,Eo,Bs]
theorem rX {K:PySem.W.Frag} {a:Addr} {xs:List V} (f:Nat → Option V) (ha:rdL H1 a = some xs) (hl:xs.length < sizeLine)
   (hs:∀ (i:Nat) x Hc (A:VK) (B:Hp → Prop),xs[i]? = some x → Same H1 Hc → (∀ y,f i = some y → ∀ Hd,Same Hc Hd → A y Hd) → (f i = none → ∀ Hd,Same Hc Hd → B Hd) →
     g x σ0 Hc fun σ2 H2 => Wk σ0 σ2 ∧ tests σ2 H2 fun b H3 => if b = true then te σ2 H3 A else B H3)
   (fin:∀ D Hd,H1 D = none → Same H1 Hd → Hd D = some (.lst ((List.range xs.length).filterMap f)) → Q (.ref D) Hd):eL g tests te σ0 Q (Itl K a) H1:=by
 refine jN (n:=xs.length) (fun D i ys Hc => Same H1 Hc ∧ ys = (List.range i).filterMap f) hl (fun D hD => ⟨aF hD _,rfl⟩)
   (fun D i ys Hc _ r h => ⟨xs,xs[i],aU (aK r.1 ha),by simp [h]⟩) (fun D ys Hc _ r => ⟨xs,aU (aK r.1 ha),Nat.le_refl _⟩) ?_ ?_
 · rintro D i ys Hc x H' A B hD hi ⟨sm,rfl⟩ hDc ⟨rfl,hz⟩ ha' hb
   refine hs i x H' A B (hz xs (aU (aK sm ha))) sm (fun y hy Hd sd => ?_) (fun hn Hd sd => ?_)
   · exact ha' _ _ (sd _ _ hDc) ⟨bG hD (sm.trans sd),(nF hy).symm⟩
   · exact hb _ (sd _ _ hDc) ⟨sm.trans sd,(nK hn).symm⟩
 · rintro D ys Hc hD ⟨sm,rfl⟩ hDc _
   exact fin D Hc hD sm hDc
end
section
variable {X:Cx} {e:Expr} {te:TE} {p2 pos pu pc:Pos} {j:Nat}
end
end L2
set_option maxHeartbeats 4000000
namespace L2
open PySem PySem.Spec PyProof.Rows
section
variable {X:Cx}
end
end L2
set_option maxHeartbeats 4000000
namespace L2
open PySem PySem.Spec PyProof.Rows PySem.Builtin PySem.Builtin.Str
section
variable {X:Cx}
end
end L2
set_option maxHeartbeats 4000000
namespace L2
open PySem PySem.Spec PyProof.Rows
section
variable {prog:Program} {w:World} {A:Around} {E:Value → Shared → Prop} {s:Shared} {jt dq:Addr} {n0 ep:Nat} {en:Array DictEntry} {od:Obj}
theorem aZQ {Q:Option Value → Shared → Prop} (hit:s.heap.IsKeyIter jt dq n0 en.size ep) (hod:s.heap.get? dq = some od) (hdd:od.data = .dict en ep) (hi:n0 < en.size)
   (hq:∀ h',h'.IsKeyIter jt dq (n0 + 1) en.size ep → Heap.SameBut jt s.heap h' → Q (some en[n0].key) { s with heap:=h' }):wpAny (model prog w) A (pyNext (.ref jt)) Q E s:=by
 obtain ⟨oi,hoi,ci,di⟩:=id hit
 have ow:Builtin.Dict_items.ownsTuple "dict_keyiterator" = false:=by decide
 have tI:=hit.typeIs
 unfold pyNext
 refine Aa (Fd (wpAny_callSpecial?_slot (name:=Str.ofString "__next__") tI Ei (Cc Ei tI F.entry_dict_keyiterator_next ?_ (F.args_dict_keyiterator_next_1 _))))
 refine Aa (Ae (Aa (Aa ?_)))
 refine Aa (Ef tI (Ae (Aa (wpAny_fieldsOf hoi di ?_))))
 simp only [ow,Bool.false_eq_true,if_false]
 show wpAny _ _ (if (Value.ref dq == Value.none) = true then _ else _) _ _ s
 rw [if_neg (by exact Ao)]
 refine Aa (Ae (Aa (wpAny_dictEntries hod hdd ?_)))
 rw [if_neg (by simp)]
 refine Aa (Ae (Aa (wpAny_dictEpoch hod hdd ?_)))
 rw [if_neg (by simp)]
 refine Ae ?_
 simp only [show ¬ ((n0:Int) < 0) by omega,if_false,Int.toNat_natCast,Array.getElem?_eq_getElem hi]
 refine Aa (Aa (Ef tI (Ae ?_)))
 refine Aa (wpAny_isOneOf_keyiter tI ?_)
 show wpAny _ _ (setField (.ref jt) 1 (rawInt ((n0:Int) + 1)) >>= _) _ _ s
 have nx:(s.heap.update jt (Obj.mapFields (·.setIfInBounds 1 (rawInt ((n0:Int) + 1))))).IsKeyIter jt dq (n0 + 1) en.size ep :=
   ⟨_,Heap.get?_update_self _ hoi (Obj.isFreed_of_fields (Obj.data_mapFields di _)),(Obj.cls_mapFields ..).trans ci,by rw [Obj.data_mapFields di]; simp [rawInt]⟩
 refine wpAny_bind (wpAny_setField hoi di (by simp) (wpAny_bind (wpAny_holding (wpAny_bind (wpAny_isOneOf_keyiter (s:={ s with heap:=s.heap.update jt (Obj.mapFields (·.setIfInBounds 1 (rawInt ((n0:Int) + 1)))) }) nx.typeIs ?_)))))
 show wpAny _ _ (pure en[n0].key) _ _ _
 exact Ae (Ae ⟨_,rfl,Ae (hq _ nx (Cw ..))⟩)
theorem xV {Q:Option Value → Shared → Prop} (hh:A.handled = none) (hit:s.heap.IsKeyIter jt dq en.size en.size ep) (hod:s.heap.get? dq = some od) (hdd:od.data = .dict en ep)
   (hq:∀ h',Heap.ExtBut jt s.heap h' → Q none { s with heap:=h' }):wpAny (model prog w) A (pyNext (.ref jt)) Q E s:=by
 obtain ⟨oi,hoi,ci,di⟩:=id hit
 have ow:Builtin.Dict_items.ownsTuple "dict_keyiterator" = false:=by decide
 have tI:=hit.typeIs
 unfold pyNext
 refine Aa (Fd (wpAny_callSpecial?_slot (name:=Str.ofString "__next__") tI Ei (Cc Ei tI F.entry_dict_keyiterator_next ?_ (F.args_dict_keyiterator_next_1 _))))
 refine Aa (Ae (Aa (Aa ?_)))
 refine Aa (Ef tI (Ae (Aa (wpAny_fieldsOf hoi di ?_))))
 simp only [ow,Bool.false_eq_true,if_false]
 show wpAny _ _ (if (Value.ref dq == Value.none) = true then _ else _) _ _ s
 rw [if_neg (by exact Ao)]
 refine Aa (Ae (Aa (wpAny_dictEntries hod hdd ?_)))
 rw [if_neg (by simp)]
 refine Aa (Ae (Aa (wpAny_dictEpoch hod hdd ?_)))
 rw [if_neg (by simp)]
 refine Ae ?_
 simp only [show ¬ ((en.size:Int) < 0) by omega,if_false,Int.toNat_natCast,Array.getElem?_eq_none (Nat.le_refl en.size)]
 refine Aa (Aa (Ef tI (Ae ?_)))
 show wpAny _ _ (setField (.ref jt) 0 .none >>= _) _ _ s
 refine wpAny_bind (wpAny_setField hoi di (by simp) ?_)
 show wpAny _ _ (newExc (Value.type "StopIteration") [] >>= _) _ _ _
 refine Aa ?_
 simp only [newTuple,newExc]
 refine wpAny_bind (wpAny_newObj_type (wpAny_bind (m:=firstArgMember _ _) (wpAny_of_eq (a:=Value.none) (by first | rfl | (simp only [firstArgMember]; rfl)) (wpAny_newObj_type ?_ (by size_fits)))) (by size_fits))
 simp only [raiseNew]
 refine Aa (wpAny_handled (?_:_))
 rw [show A.in1.handled = none by exact hh]
 refine Aa (Ae (wpAny_throw ?thr))
 case thr =>
  refine Aa (wpAny_isInstance (b:=true) (T := "StopIteration") ⟨_,Ap _ rfl,rfl⟩ isSubtype_stop ?_)
  exact Ae (hq _ (((Cw ..).extBut.push _).push _))
end
def ItT (a:Addr) (o:Obj) (kvs:List (List Key × V)):It:=⟨fun i H => H a = some (.frz o (.dT kvs)) ∧ i < kvs.length,fun i H x H' => H' = H ∧ ∃ kv b,kvs[i]? = some kv ∧ x = .ref b ∧ H b = some (.tup (kv.1.map kV)),fun i H => H a = some (.frz o (.dT kvs)) ∧ kvs.length = i⟩
theorem pR {X:Cx} {pins:List (Addr × Obj)} {σ:St} {H:Hp} {s:Shared} {a:Addr} {o:Obj} {kvs:List (List Key × V)} {ep:Nat} (I:Inv X pins σ H s) (ha:H a = some (.frz o (.dT kvs))) (hep:∃ es,o.data = .dict es ep) :
   kvs.length ≤ sizeLine ∧ (a == sysModules) = false ∧ ∃ xs es,KT H kvs xs ∧ s.heap.get? a = some o ∧ o.data = .dict es ep ∧ o.ExactDict ∧ es.toList = xs.map (entryOfKey (tupleKind (aM X.prog X.w))):=by
 have ok:s.heap.get? a = some o ∧ ObjOk X.prog X.w H s.heap a (.dT kvs):=I.hok a _ ha
 obtain ⟨e,z,hd,xs,rel,o',es',ep',ho',hx,hdat,he,_⟩:=ok
 rw [e] at ho'
 cases ho'
 obtain ⟨es,hes⟩:=hep
 have q:=hdat
 rw [hes] at q
 cases q
 exact ⟨z,hd,xs,_,rel,e,hdat,hx,he⟩
theorem uU {P:Program} {w:World} {K:PySem.W.Frag} {tg:Expr} (a it:Addr) (o:Obj) (kvs:List (List Key × V)) (ep:Nat) (hep:∃ es,o.data = .dict es ep):Turn P w K tg (ItT a o kvs) [it] it (fun i h => h.IsKeyIter it a i kvs.length ep) where
 mem:=by simp
 obj:=fun i h st b hb => by
   obtain ⟨o,e,c,d⟩:=st
   rw [Aq.mp hb]
   exact ⟨o,e,fun v z => by rw [d] at z; cases z⟩
 keep:=fun i h h' st k => let ⟨o,ho,r⟩:=st; ⟨o,k it (by simp) o ho,r⟩
 item:=by
   intro X hP hw hK hc i pins s σ H E I hf st hg
   subst hP hw hK
   obtain ⟨ha,hi⟩:=hg
   obtain ⟨z,hd,xs,es,rel,ho,hdat,hx,he⟩:=pR I ha hep
   have hlv:=rel.length
   have hsz:es.size = xs.length:=by rw [← Aw,he,Ac]
   obtain ⟨f0,f1,f2,f3,f4,f5⟩:=hf it (by simp)
   obtain ⟨⟨k,b,v⟩,hxi,hk1,hk2,_⟩:=lO rel (Ab hi)
   have hie:i < es.size:=by omega
   have hkey:es[i].key = .ref b:=by
     have q:es[i]? = some (entryOfKey (tupleKind (aM X.prog X.w)) (k,b,v)):=by rw [← Bz,he,Al,hxi]; rfl
     rw [Aj hie] at q
     rw [Bo q]
     rfl
   refine aZQ (en:=es) (by rw [hsz,← hlv]; exact st) ho hdat hie fun h' st' sb => ?_
   rw [hkey]
   have I1:Inv X pins σ H { s with heap:=h' }:=I.turned (t':=s.toks) (fun b o hb e => (sb.2 b hb).trans e) f0 f1 f3 f4 f5
   obtain ⟨oi,e,c,d⟩:=id st'
   refine ⟨.ref b,rfl,kL (s:={ s with heap:=h' }) e c d (by decide) ⟨.ref b,H,I1,rfl,⟨rfl,kvs[i],b,Ab hi,rfl,hk2⟩,?_,fun b hb => (hf b hb).1⟩⟩
   rw [hlv,← hsz]
   exact st'
 done:=by
   intro X hP hw hK hc i pins s σ H E I hf st hg
   subst hP hw hK
   obtain ⟨ha,hi⟩:=hg
   obtain ⟨z,hd,xs,es,rel,ho,hdat,hx,he⟩:=pR I ha hep
   have hlv:=rel.length
   have hsz:es.size = xs.length:=by rw [← Aw,he,Ac]
   obtain ⟨f0,f1,f2,f3,f4,f5⟩:=hf it (by simp)
   exact xV (en:=es) (I.ok.hd hc) (by rw [hsz,← hlv]; rw [← hi] at st; exact st) ho hdat fun h' eb => ⟨rfl,I.turned (t':=s.toks) (fun b o hb e => eb b o hb e) f0 f1 f3 f4 f5⟩
 self:=fun _ _ _ _ _ st h => wpAny_pyIter_keyiter st h
section
variable {prog:Program} {w:World} {A:Around} {E:Value → Shared → Prop} {s:Shared} {dq:Addr} {en:Array DictEntry} {ep:Nat} {od:Obj}
theorem aQC {Q:Value → Shared → Prop} (hs:(dq == sysModules) = false) (hod:s.heap.get? dq = some od) (hx:od.ExactDict) (hdd:od.data = .dict en ep)
   (hq:Q (.ref s.heap.objs.size) { s with heap:=s.heap.push { cls:=.type "dict_keyiterator",data:=.fields #[.ref dq,.int 0 0,.int en.size 0,.int ep 0] } }):wpAny (model prog w) A (pyIter (.ref dq)) Q E s:=by
 have tD:s.TypeIs (.ref dq) "dict" := ⟨od,hod,hx.1⟩
 refine wpAny_pyIter_slot tD F.slot_dict_iter (Cc F.slot_dict_iter tD F.entry_dict_iter ?_ (F.args_dict_iter_1 _))
 unfold Builtin.«dict.__iter__» ; refine Aa ?_
 unfold Builtin.Dict.dictSlotNone ; refine Aa (wpAny_notOrdered_dict tD ?_)
 show wpAny _ _ (pure (Value.ref dq)) _ _ s
 refine Ae ?_
 show wpAny _ _ (Builtin.Dict.showsAll dq >>= _) _ _ s
 unfold Builtin.Dict.showsAll
 rw [if_neg (by rw [hs]; decide)]
 refine Aa (Ae (Aa (wpAny_dictEntries hod hdd (Aa (wpAny_dictEpoch hod hdd ?_)))))
 refine Aa (Eg (Ae ⟨_,rfl, "dict_keyiterator",_,⟨_,Ap _ rfl,rfl⟩,F.slot_dict_keyiterator_next.lookup,(?_:_)⟩))
 simpa [rawInt] using hq
end
section
variable {X:Cx} {tg:Expr} {pins:List (Addr × Obj)} {σ:St} {H:Hp} {s:Shared} {a:Addr}
theorem yW {kvs:List (List Key × V)} (I:Inv X pins σ H s) (ha:H a = some (.dT kvs)):∃ o es ep,s.heap.get? a = some o ∧ o.data = .dict es ep:=by
 obtain ⟨_,_,xs,_,o,es,ep,ho,_,hd,_⟩:=bZS I.hok ha
 exact ⟨o,es,ep,ho,hd⟩
theorem aJN {o:Obj} {kvs:List (List Key × V)} (I:Inv X pins σ H s) (ha:H a = some (.frz o (.dT kvs))):∃ ep,∃ es,o.data = .dict es ep:=by
 have ok:s.heap.get? a = some o ∧ ObjOk X.prog X.w H s.heap a (.dT kvs):=I.hok a _ ha
 obtain ⟨e,_,_,xs,_,o',es,ep,ho,_,hd,_⟩:=ok
 rw [e] at ho
 cases ho
 exact ⟨ep,es,hd⟩
def iQ (H:Hp) (a:Addr) (R:Obj → List (List Key × V) → Hp → Prop):Prop:=(∃ kvs,H a = some (.dT kvs) ∧ ∀ o,R o kvs (upd H a (.frz o (.dT kvs)))) ∨ ∃ o kvs,H a = some (.frz o (.dT kvs)) ∧ R o kvs H
theorem aJJ {R:Obj → List (List Key × V) → Hp → Prop} (I:Inv X pins σ H s) (h:iQ H a R) :
   ∃ o kvs H' ep,Inv X pins σ H' s ∧ H' a = some (.frz o (.dT kvs)) ∧ (∃ es,o.data = .dict es ep) ∧ R o kvs H':=by
 rcases h with ⟨kvs,ha,q⟩ | ⟨o,kvs,ha,q⟩
 · obtain ⟨o,es,ep,ho,hd⟩:=yW I ha
   exact ⟨o,kvs,_,ep,I.freeze ha rfl ho,aB,⟨es,hd⟩,q o⟩
 · obtain ⟨ep,es,hd⟩:=aJN I ha
   exact ⟨o,kvs,H,ep,I,ha,⟨es,hd⟩,q⟩
def aQW (tl:TE):TI:=fun σ H R => tl σ H (eG fun a H1 => iQ H1 a fun o kvs H2 => R (ItT a o kvs) H2)
theorem iM {l:Expr} {tl:TE} (hl:PE X l tl):PI X tg l (aQW tl):=by
 intro pins s σ H R I h
 refine thn (hl pins s σ H _ I h) fun v s1 ⟨x,H1,I1,r1,q1⟩ => ?_
 unfold eG at q1
 split at q1
 · cases r1
   rename_i a0 _
   obtain ⟨o,kvs,H2,ep,I2,ha,hep,q⟩:=aJJ I1 q1
   obtain ⟨z,hd,xs,es,rel,ho,hdat,hx,he⟩:=pR I2 ha hep
   have hsz:es.size = kvs.length:=by rw [← Aw,he,Ac,rel.length]
   refine aQC hd ho hx hdat ?_
   refine ⟨s1.heap.objs.size,[s1.heap.objs.size],_,_,H2,rfl,I2.kept (t':=s1.toks) fun b o e => Ad _ e,uU a0 _ o kvs ep hep,⟨_,Ap _ rfl,rfl,by rw [hsz]; rfl⟩,fun b hb => ?_,q⟩
   rw [Aq.mp hb]
   exact I2.fpOk (Ai _) (I2.hok.fresh (Ai _))
 · exact q1.elim
def bZ7:V → List V → Hp → VK → Prop:=fun x vs H Q => ∃ a y ov,x = .ref a ∧ vs = [y] ∧ DGet H a y ov ∧ Q (ov.getD .non) H
end
section
variable {σ:St} {H:Hp} {Q:VK} {D:Ends} {a b:Addr} {kvs:List (List Key × V)} {k:List Key} {v w:V} {tl:TE} {R:It → Hp → Prop} {g:TG} {tb:TS} {o:Obj}
theorem aQV (Pv:Nat → St → Hp → Prop) (h0:Pv 0 σ H) (hl:∀ i σ H,i ≤ kvs.length → Pv i σ H → H a = some (.frz o (.dT kvs)))
   (hs:∀ i kv b σ H,kvs[i]? = some kv → H b = some (.tup (kv.1.map kV)) → Pv i σ H → g (.ref b) σ H fun σ2 H2 => tb { D with nx:=Pv (i + 1),ct:=Pv (i + 1),bk:=D.nx } σ2 H2) (hd:∀ σ H,Pv kvs.length σ H → D.nx σ H):nH (ItT a o kvs) g tb D σ H:=by
 refine ⟨fun i m σ H => m = kvs.length - i ∧ i ≤ kvs.length ∧ Pv i σ H,⟨kvs.length,by simp,Nat.zero_le _,h0⟩,?_⟩
 rintro i m σ H ⟨rfl,hi,p⟩
 have hr:=hl i σ H hi p
 by_cases hlt:i < kvs.length
 · refine .inr ⟨⟨hr,hlt⟩,Pv (i + 1),fun σ' H' p' => ⟨kvs.length - (i + 1),by omega,rfl,hlt,p'⟩,fun x H' y => ?_⟩
   obtain ⟨rfl,kv,b,hx,rfl,hb⟩:=y
   exact hs i kv b σ _ hx hb p
 · have e:i = kvs.length:=by omega
   subst e
   exact .inl ⟨⟨hr,rfl⟩,hd σ H p⟩
theorem aQX (h:tl σ H (eG fun a H1 => iQ H1 a fun o kvs H2 => R (ItT a o kvs) H2)):aQW tl σ H R:=h
theorem pP {Rw:Obj → List (List Key × V) → Hp → Prop} (e:H a = some (.dT kvs)) (h:∀ o,Rw o kvs (upd H a (.frz o (.dT kvs)))):iQ H a Rw:=.inl ⟨kvs,e,h⟩
theorem aXT {Rw:Obj → List (List Key × V) → Hp → Prop} (e:H a = some (.frz o (.dT kvs))) (h:Rw o kvs H):iQ H a Rw:=.inr ⟨o,kvs,e,h⟩
theorem bXI (h:∀ p,H p = none → Q (.ref p) (upd H p (.dT []))):aZG σ H Q:=h
theorem uZ (e:Rd H a (.dT kvs)) (eb:H b = some (.tup (k.map kV))) (l:bH kvs k = some v) (h:Q v H):cQ0 (.ref a) (.ref b) H Q:=⟨a,v,rfl,.inr ⟨kvs,k,b,e,rfl,eb,l.symm⟩,h⟩
theorem pL (e:H a = some (.dT kvs)) (eb:H b = some (.tup (k.map kV))) (l:kvs.length < sizeLine) (h:D.nx σ (upd H a (.dT (bY kvs k v)))):aZY D σ (.ref a) (.ref b) v H:=⟨a,_,rfl,.inr ⟨kvs,k,b,e,rfl,eb,l,rfl⟩,h⟩
theorem wL (e:Rd H a (.dT kvs)) (eb:H b = some (.tup (k.map kV))) (h:Q ((bH kvs k).getD .non) H):bZ7 (.ref a) [.ref b] H Q:=⟨a,_,_,rfl,rfl,.inr ⟨kvs,k,b,e,rfl,eb,rfl⟩,h⟩
end
theorem yO {prog:Program} {w:World} {A:Around} {E:Value → Shared → Prop} {s:Shared} {Q:Int → Shared → Prop} (h:Q 0xFCA86420 { s with toks:=s.toks + 1 }):wpAny (model prog w) A (pyHash .none) Q E s:=by
 have tN:s.TypeIs .none "NoneType" := rfl
 unfold pyHash pyHashByItsType
 refine Aa ?_
 rw [cRoomFor,if_neg (by decide)]
 refine Ae (Aa (Eu tN F.slot_NoneType_hash.lookup ?_))
 show wpAny _ _ (if (some (Value.builtin "NoneType.__hash__") == some Value.none) = true then _ else _) Q E s
 rw [if_neg (by rw [beq_builtin_none]; decide)]
 refine Aa (Eu tN F.slot_NoneType_hash.lookup ?_)
 show wpAny _ _ (callSpecialIfBoundUnlessNone? .none "__hash__" _ >>= _) Q E s
 refine Aa (wpAny_callSpecialIfBoundUnlessNone?_slot tN F.slot_NoneType_hash (Cc F.slot_NoneType_hash tN F.entry_NoneType_hash (show wpAny _ _ (do ret (← mkInt 0xFCA86420)) _ _ s from wpAny_ret_mkInt ?_) (F.args_NoneType_hash_1 _)))
 show wpAny _ _ (if (decide (-(2:Int) ^ 63 ≤ 0xFCA86420) && decide ((0xFCA86420:Int) < 2 ^ 63)) = true then _ else _) Q E _
 rw [if_pos (by decide)]
 exact Ae h
def aQO:Option Key → Value → Bool
 | none,.none => true
 | none,_ => false
 | some k,v => gW k v
theorem bR {v:Value} (h:aQO none v = true):v = .none:=by
 cases v <;> first | rfl | (exact absurd h (by decide)) | cases h
theorem hZ {k:Key} {v:Value} (h:gW k v = true):v ≠ .none:=fun z => by
 rcases bB h with ⟨i,t,_,e⟩ | ⟨x,t,_,e⟩ <;> rw [z] at e <;> cases e
def dQM (w:World):Option Key → Int
 | none => 0xFCA86420
 | some k => cZU w k
def wH (prog:Program) (w:World):PySem.KeyKind prog w (Option Key) where
 is:=aQO
 hash:=dQM w
 inj:=fun v a b ha hb => by
   cases a with
   | none =>
     cases b with
     | none => rfl
     | some b => exact absurd (bR ha) (hZ hb)
   | some a =>
     cases b with
     | none => exact absurd (bR hb) (hZ ha)
     | some b => exact Cr some ((aM prog w).inj v a b ha hb)
 byValue:=fun k v h => by
   cases k with
   | none => rw [bR h]; rfl
   | some k => exact (aM prog w).byValue k v h
 pyHash:=fun {A E s k v Q} hv h => by
   cases k with
   | none => rw [bR hv]; exact yO h
   | some k => exact (aM prog w).pyHash hv h
 eqBool:=fun {A E s a b u v Q} hu hv h => by
   cases a with
   | none =>
     rw [bR hu]
     cases b with
     | none => rw [bR hv]; exact SeqAt.EqAt.same _ _ _ _ _ (by simpa using h)
     | some b =>
       have h2:Q false s:=by simpa using h
       rcases bB (show gW b v = true from hv) with ⟨j,t,_,rfl⟩ | ⟨y,t,_,rfl⟩
       · exact SeqAt.EqAt.none_int _ _ _ _ _ _ h2
       · exact SeqAt.EqAt.none_str _ _ _ _ _ _ h2
   | some a =>
     cases b with
     | none =>
       rw [bR hv]
       have h2:Q false s:=by simpa using h
       rcases bB (show gW a u = true from hu) with ⟨j,t,_,rfl⟩ | ⟨y,t,_,rfl⟩
       · exact SeqAt.EqAt.int_none _ _ _ _ _ _ h2
       · exact SeqAt.EqAt.str_none _ _ _ _ _ _ h2
     | some b =>
       refine (aM prog w).eqBool hu hv ?_
       have e:decide (some a = some b) = decide (a = b):=Dg.mpr ⟨Bo,fun z => by rw [z]⟩
       rw [e] at h
       exact h
 «strs» := fun k x t v h => by
   cases k with
   | none => exact absurd (bR h) (fun z => nomatch z)
   | some k => exact (aM prog w).strs k x t v h
theorem cXM {prog:Program} {w:World} {h:Heap} {a:Addr} {f:Key → Option Value} (hm:h.MapOf (aM prog w) a f):h.MapOf (wH prog w) a (fun k => k.bind f):=by
 obtain ⟨o,es,ep,ho,hx,hd,hk,hf⟩:=hm
 refine ⟨o,es,ep,ho,hx,hd,fun e he => ?_,fun k => ?_⟩
 · obtain ⟨k,h1,h2⟩:=hk e he
   exact ⟨some k,h1,h2⟩
 · cases k with
   | some k => exact hf k
   | none =>
     show findBy aQO es none = none
     unfold findBy
     rw [Option.map_eq_none_iff,Array.find?_eq_none]
     intro e he z
     obtain ⟨k,h1,_⟩:=hk e he
     exact hZ h1 (bR z)
section
variable {X:Cx}
def aX1:R2:=fun x y H Q => ∃ a,y = .ref a ∧ ((∃ ov,DGet H a x ov ∧ Q (.bl ov.isSome) H) ∨ (x = .non ∧ ∃ kvs,Rd H a (.dK kvs) ∧ Q (.bl false) H))
theorem bJP (hu:X.A.units + 1 < cLine):OpR X (compareOp .In) aX1:=by
 intro pins s σ H x y v u Q I rx ry h
 obtain ⟨a,rfl,h⟩:=h
 cases ry
 rcases h with ⟨ov,g,q⟩ | ⟨rfl,kvs,e,q⟩
 · exact cZI hu I g rx fun s3 I3 => ⟨.bl ov.isSome,H,I3,rfl,q⟩
 · cases rx
   obtain ⟨z,hd,vs,rel,dd⟩:=eO I.hok e
   exact wpAny_in_of (knd:=wH X.prog X.w) (k:=none) (key:=Value.none) rfl hd (cXM dd.mapOf) ⟨.bl false,H,I.tok _,rfl,q⟩
theorem aXK (hu:X.A.units + 1 < cLine):MtR X "dict.get" bZ7:=by
 intro pins s σ H x vs v us Q I rx rv h
 obtain ⟨a,y,ov,rfl,rfl,g,q⟩:=h
 cases rx
 obtain ⟨u,rfl,ru⟩:=rv.one
 exact cXE hu I g ru fun w1 s1 I1 r1 => ⟨_,H,I1,r1,q⟩
end
section
variable {H:Hp} {Q:VK} {a:Addr} {kvs:List (Key × V)} {z:Str}
theorem cQ1 (e:Rd H a (.dK kvs)) (h:Q (.bl false) H):aX1 .non (.ref a) H Q:=⟨a,rfl,.inr ⟨rfl,kvs,e,h⟩⟩
theorem aJZ (e:Rd H a (.dK kvs)) (h:Q (.bl (bH kvs (Sum.inr z)).isSome) H):aX1 (.str z) (.ref a) H Q:=⟨a,rfl,.inl ⟨_,.inl ⟨kvs,.inr z,e,rfl,rfl⟩,h⟩⟩
end
section
variable {X:Cx}
def cJI:R2:=fun x y H Q => ∃ (p q:Addr) (a b c d:Int),x = .ref p ∧ y = .ref q ∧ H p = some (.tup [.int a,.int b]) ∧ H q = some (.tup [.int c,.int d]) ∧ Q (.bl (decide (a = c ∧ b = d))) H
theorem cZC (hu:X.A.units < cLine):OpR X (compareOp .Eq) cJI:=by
 intro pins s σ H x y v u Q I rx ry h
 obtain ⟨p,q,a,b,c,d,rfl,rfl,hp,hq,k⟩:=h
 cases rx
 cases ry
 obtain ⟨its,r1,l1,_⟩:=I.tuple (SqT.of (K:=X.K) hp)
 obtain ⟨its2,r2,l2,_⟩:=I.tuple (SqT.of (K:=X.K) hq)
 obtain ⟨u1,u2,rfl,⟨t1,rfl⟩,⟨t2,rfl⟩⟩:=r1.two
 obtain ⟨w1,w2,rfl,⟨t3,rfl⟩,⟨t4,rfl⟩⟩:=r2.two
 refine SeqAt.eq_tupleAt (e:=fun j => if j = 0 then a == c else b == d) (show s.heap.IsTuple p _ from l1) (show s.heap.IsTuple q _ from l2) hu (fun j h1 h2 => ?_) ?_
 · match j,h1,h2 with
   | 0,_,_ => exact SeqAt.EqAt.int_int a t1 c t3
   | 1,_,_ => exact SeqAt.EqAt.int_int b t2 d t4
   | j + 2,h1,_ => exact absurd h1 (by show ¬ j + 2 < 2; omega)
 · refine ⟨.bl (decide (a = c ∧ b = d)),H,I,?_,k⟩
   show Value.bool _ = Value.bool _
   congr 1
   show (((if (0:Nat) = 0 then a == c else b == d) && ((if (1:Nat) = 0 then a == c else b == d) && true)) && true) = _
   rw [if_pos rfl,if_neg (by decide),Bool.and_true,Bool.and_true]
   by_cases e1:a = c
   · by_cases e2:b = d
     · simp [e1,e2]
     · simp [e1,e2]
   · simp [e1]
theorem cZK {H:Hp} {Q:VK} {p q:Addr} {a b c d:Int} (hp:H p = some (.tup [.int a,.int b])) (hq:H q = some (.tup [.int c,.int d])) (h:Q (.bl (decide (a = c ∧ b = d))) H):cJI (.ref p) (.ref q) H Q:=⟨p,q,a,b,c,d,rfl,rfl,hp,hq,h⟩
end
end L2
set_option maxHeartbeats 4000000
namespace L2
open PySem PySem.Spec PyProof.Rows
open PySem.AutoSeq1 (wpAny_loadPart')
open PySem.MeetsSeq PySem.MeetsSeq2 PySem.MeetsSeq3
def EqB (P:Program) (w:World) (A:Around) (s:Shared) (u v:Value):Prop:=∃ b:Bool,∀ (E:Value → Shared → Prop) (Q:Bool → Shared → Prop),Q b s → wpAny (model P w) A (eqBool u v) Q E s
section
variable {P:Program} {w:World} {A:Around} {E:Value → Shared → Prop} {s:Shared} {l:Addr} {xs:Array Value}
theorem EqB.same (u:Value):EqB P w A s u u:=⟨true,fun E Q hq => Gq u P w E Q hq⟩
end
section
variable {X:Cx}
end
section
variable {X:Cx} {l:Expr} {ta:TA} {elts:List Expr} {x1:Nat} {tp p pos:Pos}
end
end L2
set_option maxHeartbeats 4000000
namespace L2
open PySem PySem.Spec PyProof.Rows
theorem mU:entryFor table "proto.unchain" = some Builtin.«proto.unchain» := entryFor_of_tree (by kernel_rfl)
section
variable {prog:Program} {w:World} {A:Around} {E:Value → Shared → Prop} {s:Shared}
def CtxNone (h:Heap) (ea:Addr):Prop:=∃ o fs,h.get? ea = some o ∧ o.data = .fields fs ∧ fs[2]? = some .none
theorem qY {α:Type} {Q:α → Shared → Prop} {n ea:Addr} {o:Obj} {gs:Array Value} (hh:A.handled = some (.ref ea)) (hne:ea ≠ n) (hc:CtxNone s.heap ea) (ho:s.heap.get? n = some o) (hd:o.data = .fields gs) (hs:2 < gs.size)
   (h:E (.ref n) { s with heap:=s.heap.update n (Obj.mapFields (·.setIfInBounds 2 (.ref ea))) }):wpAny (model prog w) A (raiseNew (.ref n):Sem α) Q E s:=by
 obtain ⟨oe,fs,he,hde,h2⟩:=hc
 unfold raiseNew
 refine Aa (wpAny_handled (?_:_))
 rw [hh]
 show wpAny _ _ (if ((Value.ref ea) != (Value.ref n)) = true then _ else _) _ _ _
 have hb:((Value.ref ea) != (Value.ref n)) = true:=by
   rw [bne_iff_ne]
   intro z
   injection z with z
   exact hne z
 rw [if_pos hb]
 refine Aa (Bv (runValue_entry mU ?_))
 show wpAny _ _ (field (.ref ea) 2 >>= _) _ _ _
 refine Aa (Ct he hde (x:=.none) h2 ?_)
 rw [if_pos (show (Value.none == Value.none) = true from rfl)]
 refine Ae ⟨_,rfl,Aa ?_⟩
 unfold updateField
 refine Aa (wpAny_load ho ?_)
 simp only [hd]
 rw [if_pos hs]
 exact wpAny_update ho (wpAny_throw h)
theorem CtxNone.ext {h h':Heap} {ea:Addr} (c:CtxNone h ea) (k:∀ o,h.get? ea = some o → h'.get? ea = some o):CtxNone h' ea:=by
 obtain ⟨o,fs,h1,h2,h3⟩:=c
 exact ⟨o,fs,k o h1,h2,h3⟩
theorem gI {α:Type} {Q0:α → Shared → Prop} {B:Around} {h1:Heap} {t x:Obj} {gs:Array Value} {it ea:Addr} {Q:Option Value → Shared → Prop} (hcl:x.cls = .type "StopIteration") (hd:x.data = .fields gs) (hs:2 < gs.size) (hfr:x.isFreed = false) (ext:Heap.ExtBut it s.heap ((h1.push t).push x)) (hz:s.heap.objs.size ≤ (h1.push t).objs.size)
   (hh:B.handled = some (.ref ea)) (hne:ea ≠ it) (hc:CtxNone s.heap ea) (hQ:∀ h',Heap.ExtBut it s.heap h' → Q none { s with heap:=h' }) :
   wpAny (model prog w) B (raiseNew (.ref (h1.push t).objs.size):Sem α) Q0 (fun e s' => wpAny (model prog w) A (do if (← isInstance e (Value.type "StopIteration")) = true then pure none else throw e) Q E s') { s with heap:=(h1.push t).push x }:=by
 have hlt:ea < s.heap.objs.size:=by obtain ⟨o,_,h,_⟩:=hc; exact Ak h
 refine qY (s:={ s with heap:=(h1.push t).push x }) hh (Av (Bb hlt hz)) (hc.ext fun o e => ext ea o hne e) (Ap _ hfr) hd hs ?_
 refine Aa (wpAny_isInstance (b:=true) (T := "StopIteration") ⟨_,Dj _ (Ap _ hfr) (Obj.isFreed_of_fields (Dc hd _)),(Obj.cls_mapFields ..).trans hcl⟩ isSubtype_stop ?_)
 exact Ae (hQ _ fun b o hb e => ((Cw ..).2 b (Av (Bb (Ak e) hz))).trans (ext b o hb e))
theorem jZ {it l ea:Addr} {i:Nat} {items:Array Value} {Q:Option Value → Shared → Prop} (hh:A.handled = some (.ref ea)) (hne:ea ≠ it) (hc:CtxNone s.heap ea) (hit:s.heap.IsListIter it l i) (hl:s.heap.IsList l items) (hx:items[i]? = none)
   (hQ:∀ h',Heap.ExtBut it s.heap h' → Q none { s with heap:=h' }):wpAny (model prog w) A (pyNext (.ref it)) Q E s:=by
 obtain ⟨o,ho,hcl,hd⟩:=id hit
 obtain ⟨ol,hol,_,nl,hdl⟩:=hl
 unfold pyNext
 refine Aa (Fd (wpAny_callSpecial?_slot (name:=Str.ofString "__next__") hit.typeIs slot_listiter_next (Cc slot_listiter_next hit.typeIs entry_listiter_next ?_ (args_listiter_next _))))
 show wpAny _ _ (field (.ref it) 0 >>= _) _ _ s
 refine Aa (Ct (x:=.ref l) ho hd rfl ?_)
 show wpAny _ _ (if (Value.ref l == Value.none) = true then _ else _) _ _ s
 rw [if_neg (by exact Ao)]
 show wpAny _ _ (field (.ref it) 1 >>= _) _ _ s
 refine Aa (Ct (x:=.int i 0) ho hd rfl ?_)
 show wpAny _ _ (seqItems? (.ref l) >>= _) _ _ s
 refine Aa (wpAny_seqItems hol hdl (?_:_))
 simp only [Int.toNat_natCast,hx]
 refine wpAny_bind (wpAny_rule (wpAny_bind (wpAny_setField ho hd (by simp) (?_:_))))
 show wpAny _ _ (newExc (Value.type "StopIteration") [] >>= _) _ _ _
 refine Aa ?_
 simp only [newTuple,newExc]
 refine wpAny_bind (wpAny_newObj_type (wpAny_bind (m:=firstArgMember _ _) (wpAny_of_eq (a:=Value.none) (by first | rfl | (simp only [firstArgMember]; rfl)) (wpAny_newObj_type ?_ (by size_fits)))) (by size_fits))
 have X0:=((Cw (h:=s.heap) (a:=it) (f:=Obj.mapFields fun x => x.setIfInBounds 0 Value.none)).extBut.push { cls:=Value.type "tuple",data:=Data.seq #[] }).push (⟨.type "StopIteration",none,.fields (#[.ref (s.heap.update it (Obj.mapFields fun x => x.setIfInBounds 0 Value.none)).objs.size,.none,.none,.none,.bool false,.none] ++ ownMembersOf (Value.type "StopIteration") []),#[]⟩:Obj)
 exact gI (s:=s) (h1:=s.heap.update it (Obj.mapFields fun x => x.setIfInBounds 0 Value.none)) rfl rfl (by rw [Array.size_append]; exact Nat.lt_of_lt_of_le (show 2 < 6 by decide) (Nat.le_add_right _ _)) rfl X0 (by simp) hh hne hc hQ
theorem tY {it ea:Addr} {x left step:Int} {Q:Option Value → Shared → Prop} (hh:A.handled = some (.ref ea)) (hne:ea ≠ it) (hc:CtxNone s.heap ea) (hit:IsRangeIter s.heap it x left step) (hleft:left ≤ 0)
   (hQ:∀ h',Heap.ExtBut it s.heap h' → Q none { s with heap:=h' }):wpAny (model prog w) A (pyNext (.ref it)) Q E s:=by
 have hT:s.TypeIs (.ref it) "range_iterator" := ⟨_,hit,rfl⟩
 unfold pyNext
 refine Aa (Fd (wpAny_callSpecial?_slot (name:=Str.ofString "__next__") hT F.slot_range_iterator_next (Cc F.slot_range_iterator_next hT F.entry_range_iterator_next ?_ (F.args_range_iterator_next_1 _))))
 show wpAny _ _ (field (.ref it) 0 >>= _) _ _ s
 refine Aa (Ct (x:=rawInt x) hit rfl rfl ?_)
 show wpAny _ _ (field (.ref it) 1 >>= _) _ _ s
 refine Aa (Ct (x:=rawInt left) hit rfl rfl ?_)
 show wpAny _ _ (field (.ref it) 2 >>= _) _ _ s
 refine Aa (Ct (x:=rawInt step) hit rfl rfl ?_)
 show wpAny _ _ (if left ≤ 0 then _ else _) _ _ s
 rw [if_pos hleft]
 refine Aa (wpAny_rule (Aa ?_))
 show wpAny _ _ (newExc (Value.type "StopIteration") [] >>= _) _ _ _
 refine Aa ?_
 simp only [newTuple,newExc]
 refine wpAny_bind (wpAny_newObj_type (wpAny_bind (m:=firstArgMember _ _) (wpAny_of_eq (a:=Value.none) (by first | rfl | (simp only [firstArgMember]; rfl)) (wpAny_newObj_type ?_ (by size_fits)))) (by size_fits))
 have X0:Heap.ExtBut it s.heap ((s.heap.push { cls:=Value.type "tuple",data:=Data.seq #[] }).push (⟨.type "StopIteration",none,.fields (#[.ref s.heap.objs.size,.none,.none,.none,.bool false,.none] ++ ownMembersOf (Value.type "StopIteration") []),#[]⟩:Obj)):=fun b o _ e => Ad _ (Ad _ e)
 exact gI (s:=s) (h1:=s.heap) rfl rfl (by rw [Array.size_append]; exact Nat.lt_of_lt_of_le (show 2 < 6 by decide) (Nat.le_add_right _ _)) rfl X0 (by simp) hh hne hc hQ
end
end L2
set_option maxHeartbeats 4000000
namespace L2
open PySem PySem.Spec PyProof.Rows
def aXE (o:Obj):Prop:=∃ fs,o.data = .fields fs ∧ fs[2]? = some .none
def SoftAt (s:Shared) (H:Hp) (ea:Addr):Prop:=∃ o,s.heap.get? ea = some o ∧ aXE o ∧ (H ea = none ∨ ∃ u,H ea = some (.frz o u))
def cZ (X:Cx):Prop:=∃ ea,X.A.handled = some (.ref ea) ∧ SoftAt X.s₀ X.H₀ ea ∧ ea ∉ X.ex
section
variable {X:Cx} {pins:List (Addr × Obj)} {σ:St} {H:Hp} {s:Shared} {ea:Addr}
theorem Inv.softAt (I:Inv X pins σ H s) (h:SoftAt X.s₀ X.H₀ ea) (hx:ea ∉ X.ex):SoftAt s H ea:=by
 obtain ⟨o,g,⟨fs,hd,h2⟩,h0⟩:=h
 have nf:ea ∉ X.fs:=fun hm => by
   obtain ⟨_,o',g',nf⟩:=I.ok.funs.mem hm
   rw [g] at g'
   cases g'
   exact nf fs hd
 rcases h0 with h0 | ⟨u,h0⟩
 · exact ⟨o,I.base.keep ea o g h0 nf hx,⟨fs,hd,h2⟩,.inl (I.base.free ea o g h0 hx)⟩
 · have e:=I.base.frzs ea o u h0
   exact ⟨o,(I.hok ea _ e).1,⟨fs,hd,h2⟩,.inr ⟨u,e⟩⟩
theorem SoftAt.ctx (h:SoftAt s H ea):CtxNone s.heap ea:=by
 obtain ⟨o,g,⟨fs,hd,h2⟩,_⟩:=h
 exact ⟨o,fs,g,hd,h2⟩
theorem Inv.soft (I:Inv X pins σ H s) (h:cZ X):∃ ea,X.A.handled = some (.ref ea) ∧ CtxNone s.heap ea ∧ ∀ b,(b ∈ X.ex ∨ X.s₀.heap.objs.size ≤ b) → ea ≠ b:=by
 obtain ⟨ea,hh,sa,hx⟩:=h
 refine ⟨ea,hh,(I.softAt sa hx).ctx,fun b hb z => ?_⟩
 subst z
 rcases hb with hb | hb
 · exact hx hb
 · obtain ⟨o,g,_⟩:=sa
   exact absurd (Ak g) (Ht.mpr hb)
end
section
variable {prog:Program} {w:World} {A:Around} {E:Value → Shared → Prop} {s:Shared}
theorem sR {it:Addr} {lo c:Int} {n:Nat} (i:Nat) (s:Shared) (Q:Option Value → Shared → Prop) (E:Value → Shared → Prop) (hi:i < n) (st:IsRangeIter s.heap it (lo + (i:Nat) * c) ((n:Int) - (i:Nat)) c)
   (hQ:∀ v h' tk,(∃ t,v = Value.int (lo + i * c) t) → IsRangeIter h' it (lo + (i + 1:Nat) * c) ((n:Int) - (i + 1:Nat)) c → (∀ b o,b ∉ [it] → s.heap.get? b = some o → h'.get? b = some o) → Q (some v) { s with heap:=h',toks:=tk }) :
   wpAny (model prog w) A (pyNext (.ref it)) Q E s:=by
 refine wpAny_pyNext_range_item st (by omega) fun h' it' sb => ?_
 have e1:lo + (i:Int) * c + c = lo + ((i + 1:Nat):Int) * c:=by push_cast; rw [Int.add_mul,Int.one_mul,Int.add_assoc]
 have e2:(n:Int) - (i:Int) - 1 = (n:Int) - ((i + 1:Nat):Int):=by push_cast; omega
 rw [e1,e2] at it'
 exact hQ _ h' _ ⟨_,rfl⟩ it' fun b o hb e => sb.extBut b o (fun z => hb (by rw [z]; exact Aq.mpr rfl)) e
theorem lY {it t ea:Addr} {i:Nat} {items:Array Value} {Q:Option Value → Shared → Prop} (hh:A.handled = some (.ref ea)) (hne:ea ≠ it) (hc:CtxNone s.heap ea) (hit:s.heap.IsTupleIter it t i) (ht:s.heap.IsTuple t items) (hx:items[i]? = none)
   (hQ:∀ h',Heap.ExtBut it s.heap h' → Q none { s with heap:=h' }):wpAny (model prog w) A (pyNext (.ref it)) Q E s:=by
 obtain ⟨o,ho,hcl,hd⟩:=id hit
 obtain ⟨ol,hol,_,nl,hdl⟩:=ht
 unfold pyNext
 refine Aa (Fd (wpAny_callSpecial?_slot (name:=Str.ofString "__next__") hit.typeIs F.slot_tuple_iterator_next (Cc F.slot_tuple_iterator_next hit.typeIs F.entry_tuple_iterator_next ?_ (F.args_tuple_iterator_next_1 _))))
 show wpAny _ _ (field (.ref it) 0 >>= _) _ _ s
 refine Aa (Ct (x:=.ref t) ho hd rfl ?_)
 show wpAny _ _ (if (Value.ref t == Value.none) = true then _ else _) _ _ s
 rw [if_neg (by exact Ao)]
 show wpAny _ _ (field (.ref it) 1 >>= _) _ _ s
 refine Aa (Ct (x:=.int i 0) ho hd rfl ?_)
 show wpAny _ _ (seqItems? (.ref t) >>= _) _ _ s
 refine Aa (wpAny_seqItems hol hdl (?_:_))
 simp only [Int.toNat_natCast,hx]
 refine wpAny_bind (wpAny_rule (wpAny_bind (wpAny_setField ho hd (by simp) (?_:_))))
 show wpAny _ _ (newExc (Value.type "StopIteration") [] >>= _) _ _ _
 refine Aa ?_
 simp only [newTuple,newExc]
 refine wpAny_bind (wpAny_newObj_type (wpAny_bind (m:=firstArgMember _ _) (wpAny_of_eq (a:=Value.none) (by first | rfl | (simp only [firstArgMember]; rfl)) (wpAny_newObj_type ?_ (by size_fits)))) (by size_fits))
 have X0:=((Cw (h:=s.heap) (a:=it) (f:=Obj.mapFields fun x => x.setIfInBounds 0 Value.none)).extBut.push { cls:=Value.type "tuple",data:=Data.seq #[] }).push (⟨.type "StopIteration",none,.fields (#[.ref (s.heap.update it (Obj.mapFields fun x => x.setIfInBounds 0 Value.none)).objs.size,.none,.none,.none,.bool false,.none] ++ ownMembersOf (Value.type "StopIteration") []),#[]⟩:Obj)
 exact gI (s:=s) (h1:=s.heap.update it (Obj.mapFields fun x => x.setIfInBounds 0 Value.none)) rfl rfl (by rw [Array.size_append]; exact Nat.lt_of_lt_of_le (show 2 < 6 by decide) (Nat.le_add_right _ _)) rfl X0 (by simp) hh hne hc hQ
theorem CtxNone.some {h:Heap} {ea:Addr} (c:CtxNone h ea):∃ o,h.get? ea = Option.some o:=by
 obtain ⟨o,_,e,_⟩:=c
 exact ⟨o,e⟩
theorem qF {it ax ea:Addr} {items:Array Value} (hh:A.handled = some (.ref ea)) (hne:ax ≠ it) (hni:ea ≠ it) :
   Walks prog w A it [it,ax,ea] [it] items.size (fun i v => items[i]? = Option.some v) (fun i h => (h.IsTupleIter it ax i ∧ h.IsTuple ax items) ∧ CtxNone h ea) where
 sub:=fun b hb => by rw [Aq.mp hb]; exact An
 frame:=fun _ _ _ st hk => ⟨⟨st.1.1.at fun o e => hk it (by simp) o e,st.1.2.at fun o e => hk ax (by simp) o e⟩,st.2.ext fun o e => hk ea (by simp) o e⟩
 item:=fun i s Q E hi st hQ => by
   refine wpAny_pyNext_tuple_item st.1.1 st.1.2 (x:=items[i]) (Aj hi) fun h' it' sb => ?_
   exact hQ _ h' s.toks (Aj hi) ⟨⟨it',st.1.2.extBut sb.extBut hne⟩,st.2.ext fun o e => sb.extBut ea o hni e⟩ fun b o hb e => sb.extBut b o (fun z => hb (by rw [z]; exact Aq.mpr rfl)) e
 done:=fun s Q E st hQ => lY hh hni st.2 st.1.1 st.1.2 (Cm (Ai _)) fun h' eb => hQ h' s.toks fun b o hb e => eb b o (fun z => hb (by rw [z]; exact Aq.mpr rfl)) e
 self:=fun _ _ _ _ st hQ => wpAny_pyIter_tupleiter st.1.1 hQ
theorem aX6 {a b:Int} {t u:Tok} {ea:Addr} {Q:Value → Shared → Prop} (hh:A.handled = some (.ref ea)) (hcn:CtxNone s.heap ea)
   (h:∀ h' tk,(∀ c o,s.heap.get? c = Option.some o → h'.get? c = Option.some o) → Q (if b < a then .int b u else .int a t) { s with heap:=h',toks:=tk }) :
   wpAny (model prog w) A (call (.builtin "min") [.int a t,.int b u]) Q E s:=by
 generalize hh0:s.heap.push { cls:=.type "tuple",data:=.seq #[.int a t,.int b u] } = g0
 have hT:g0.IsTuple s.heap.objs.size (intItems #[(a,t),(b,u)]):=by rw [← hh0]; exact ⟨_,Heap.get?_push_size _ rfl,rfl,0,by simp [intItems]⟩
 have z0:g0.objs.size = s.heap.objs.size + 1:=by rw [← hh0]; exact Em ..
 have k0:∀ c o,s.heap.get? c = Option.some o → g0.get? c = Option.some o:=fun c o e => by rw [← hh0]; exact Ad _ e
 obtain ⟨oe,ge⟩:=hcn.some
 have he:=Ak ge
 refine call_min_two ?_
 rw [hh0]
 refine wpAny_pyIter_tuple hT ?_
 refine ⟨g0.objs.size,[g0.objs.size,s.heap.objs.size,ea],[g0.objs.size],_,_,_,_,rfl,qF (A:=A.in1) (ax:=s.heap.objs.size) (items:=intItems #[(a,t),(b,u)]) hh (by rw [z0]; exact Av (Dx _)) (by rw [z0]; exact Av (Dt he)),
   ⟨⟨⟨_,Heap.get?_push_size _ rfl,rfl,rfl⟩,hT.push _⟩,hcn.ext fun o e => Heap.get?_push_of_some _ (k0 _ _ e)⟩,fun c hc => ?_,by simp [intItems],CmpOf.ints_lt (numAt #[(a,t),(b,u)]) (fun _ _ => intItems_at),fun v h' tk hP hk => ?_⟩
 · show c < (g0.push _).objs.size
   rw [Em]
   simp only [List.mem_cons,List.not_mem_nil,or_false] at hc
   rcases hc with rfl | rfl | rfl
   · exact Dx _
   · rw [z0]; exact Dt (Dx _)
   · rw [z0]; exact Dt (Dt he)
 · have keep:∀ c o,s.heap.get? c = Option.some o → h'.get? c = Option.some o:=fun c o e => hk c o (fun hm => by
     have:=Ak e
     rw [Aq.mp hm,z0] at this
     exact absurd this (Ht.mpr (Nat.le_succ _))) (Ad _ (k0 _ _ e))
   have q:=h h' tk keep
   have hv:v = if b < a then Value.int b u else Value.int a t:=by
     have hP':(intItems #[(a,t),(b,u)])[argBest (fun i j => decide (numAt #[(a,t),(b,u)] i < numAt #[(a,t),(b,u)] j)) ((intItems #[(a,t),(b,u)]).size - 1)]? = Option.some v:=hP
     rw [show (intItems #[(a,t),(b,u)]).size - 1 = 1 by simp [intItems]] at hP'
     by_cases hba:b < a
     · rw [show argBest (fun i j => decide (numAt #[(a,t),(b,u)] i < numAt #[(a,t),(b,u)] j)) 1 = 1 by simp [argBest,numAt,hba]] at hP'
       simpa [intItems,hba] using hP'.symm
     · rw [show argBest (fun i j => decide (numAt #[(a,t),(b,u)] i < numAt #[(a,t),(b,u)] j)) 1 = 0 by simp [argBest,numAt,hba]] at hP'
       simpa [intItems,hba] using hP'.symm
   rw [hv]
   exact q
end
end L2
set_option maxHeartbeats 4000000
namespace L2
open PySem PySem.Spec PyProof.Rows
structure TurnM (P:Program) (w:World) (K:PySem.W.Frag) (tg:Expr) (J:It) (fp:List Addr) (it:Addr) (tn:Nat → Heap → Prop):Prop where
 mem:it ∈ fp
 obj:∀ i h,tn i h → ∀ b ∈ fp,∃ o,h.get? b = some o ∧ ∀ v,o.data ≠ .cell v
 keep:∀ i h h',tn i h → (∀ b ∈ fp,∀ o,h.get? b = some o → h'.get? b = some o) → tn i h'
 item:∀ (X:Cx),X.prog = P → X.w = w → X.K = K → cZ X → ∀ (i:Nat) (pins:List (Addr × Obj)) (s:Shared) (σ:St) (H:Hp) (E:Value → Shared → Prop),Inv X pins σ H s → (∀ b ∈ fp,dL X pins H b) → tn i s.heap → J.go i H →
   wpAny (model P w) X.A (pyNext (.ref it)) (fun r s1 => ∃ u,r = some u ∧
     wpAny (model P w) X.A (letOwnedTupleGo tg (.ref it) u) (fun _ s2 => ∃ x H',Inv X pins σ H' s2 ∧ RelV x u ∧ J.yld i H x H' ∧ tn (i + 1) s2.heap ∧ ∀ b ∈ fp,H' b = none) E s1) E s
 done:∀ (X:Cx),X.prog = P → X.w = w → X.K = K → cZ X → ∀ (i:Nat) (pins:List (Addr × Obj)) (s:Shared) (σ:St) (H:Hp) (E:Value → Shared → Prop),Inv X pins σ H s → (∀ b ∈ fp,dL X pins H b) → tn i s.heap → J.stop i H →
   wpAny (model P w) X.A (pyNext (.ref it)) (fun r s1 => r = none ∧ Inv X pins σ H s1) E s
 self:∀ (A:Around) (i:Nat) (s:Shared) (Q:Value → Shared → Prop) (E:Value → Shared → Prop),tn i s.heap → Q (.ref it) s → wpAny (model P w) A (pyIter (.ref it)) Q E s
def cZJ (X:Cx) (pins:List (Addr × Obj)) (σ:St) (tg:Expr) (R:It → Hp → Prop) (itv:Value) (s2:Shared):Prop :=
 ∃ (it:Addr) (fp:List Addr) (tn:Nat → Heap → Prop) (J:It) (H':Hp),itv = .ref it ∧ Inv X pins σ H' s2 ∧ TurnM X.prog X.w X.K tg J fp it tn ∧ tn 0 s2.heap ∧ (∀ b ∈ fp,dL X pins H' b) ∧ R J H'
def PIM (X:Cx) (tg iter:Expr) (wi:TI):Prop :=
 ∀ (pins:List (Addr × Obj)) (s:Shared) (σ:St) (H:Hp) (R:It → Hp → Prop),Inv X pins σ H s → wi σ H R →
   wpAny (model X.prog X.w) X.A (eval iter X.env) (fun v s1 => wpAny (model X.prog X.w) X.A (pyIter v) (cZJ X pins σ tg R) X.xe s1) X.xe s
theorem vJ {P:Program} {w:World} {K:PySem.W.Frag} {tg:Expr} (a it:Addr):TurnM P w K tg (Itl K a) [it] it (fun i h => h.IsListIter it a i) where
 mem:=by simp
 obj:=fun i h st b hb => by
   have e:b = it:=by simpa using hb
   subst e
   obtain ⟨o,e,c,d⟩:=st
   exact ⟨o,e,fun v z => by rw [d] at z; cases z⟩
 keep:=fun i h h' st k => st.at fun o e => k it (by simp) o e
 item:=by
   intro X hP hw hK hc i pins s σ H E I hf st hg
   subst hP hw hK
   obtain ⟨xs,x,hq,hx⟩:=hg
   obtain ⟨its,rv,p,hz⟩:=I.list hq
   obtain ⟨u,hu,ru⟩:=rv.get hx
   obtain ⟨f0,f1,f2,f3,f4,f5⟩:=hf it (by simp)
   refine wpAny_pyNext_list_item st p.isList (x:=u) (by simpa using hu) fun h' st' sb => ?_
   have I1:Inv X pins σ H { s with heap:=h' }:=I.turned (t':=s.toks) (fun b o hb e => (sb.2 b hb).trans e) f0 f1 f3 f4 f5
   obtain ⟨o,e,c,d⟩:=id st'
   exact ⟨u,rfl,kL (s:={ s with heap:=h' }) e c d (by decide) ⟨x,H,I1,ru,⟨rfl,fun ys hy => by rw [I.list_inj hy hq]; exact hx⟩,st',fun b hb => (hf b hb).1⟩⟩
 done:=by
   intro X hP hw hK hc i pins s σ H E I hf st hg
   subst hP hw hK
   obtain ⟨xs,hq,hx⟩:=hg
   obtain ⟨its,rv,p,hz⟩:=I.list hq
   obtain ⟨f0,f1,f2,f3,f4,f5⟩:=hf it (by simp)
   have hl:=rv.length
   obtain ⟨ea,hh,hcn,hnx⟩:=I.soft hc
   exact jZ hh (hnx it f3) hcn st p.isList (by simp; omega) fun h' eb => ⟨rfl,I.turned (t':=s.toks) (fun b o hb e => eb b o hb e) f0 f1 f3 f4 f5⟩
 self:=fun _ _ _ _ _ st h => wpAny_pyIter_listiter st h
theorem rV {P:Program} {w:World} {K:PySem.W.Frag} {tg:Expr} (it:Addr) (lo:Int) (n:Nat):TurnM P w K tg (Itr lo n) [it] it (fun i h => IsRangeIter h it (lo + (i:Nat) * 1) ((n:Int) - (i:Nat)) 1) where
 mem:=by simp
 obj:=fun i h st b hb => by
   have e:b = it:=by simpa using hb
   subst e
   exact ⟨_,st,fun v z => by
     have z':Data.fields _ = Data.cell v:=z
     cases z'⟩
 keep:=fun i h h' st k => k it (by simp) _ st
 item:=by
   intro X hP hw hK hc i pins s σ H E I hf st hg
   subst hP hw hK
   obtain ⟨f0,f1,f2,f3,f4,f5⟩:=hf it (by simp)
   refine sR i s _ _ hg st fun v h' tk hv st' kk => ?_
   obtain ⟨t,rfl⟩:=hv
   have I1:Inv X pins σ H { s with heap:=h',toks:=tk }:=I.turned (fun b o hb e => kk b o (by simpa using hb) e) f0 f1 f3 f4 f5
   refine ⟨_,rfl,kL (s:={ s with heap:=h',toks:=tk }) (n := "range_iterator") st' rfl rfl (by decide) ⟨.int (lo + i),H,I1,⟨t,?_⟩,⟨rfl,rfl⟩,st',fun b hb => (hf b hb).1⟩⟩
   rw [Int.mul_one]
 done:=by
   intro X hP hw hK hc i pins s σ H E I hf st hg
   subst hP hw hK
   obtain ⟨f0,f1,f2,f3,f4,f5⟩:=hf it (by simp)
   obtain ⟨ea,hh,hcn,hnx⟩:=I.soft hc
   exact tY hh (hnx it f3) hcn st (by have:n ≤ i:=hg; omega) fun h' eb => ⟨rfl,I.turned (t':=s.toks) (fun b o hb e => eb b o hb e) f0 f1 f3 f4 f5⟩
 self:=fun _ _ _ _ _ st h => wpAny_pyIter_rangeiter st h
section
variable {X:Cx} {tg:Expr}
theorem aQG {pins:List (Addr × Obj)} {σ:St} {H:Hp} {s:Shared} {R:It → Hp → Prop} {E:Value → Shared → Prop} {lo hi:Int} {t u v:Tok} {tk:Nat} (I:Inv X pins σ H s) (h1:-(2 ^ 62) ≤ lo) (h2:lo < 2 ^ 62) (h3:-(2 ^ 62) ≤ hi) (h4:hi < 2 ^ 62)
   (q:R (Itr lo (hi - lo).toNat) H):wpAny (model X.prog X.w) X.A (pyIter (.ref s.heap.objs.size)) (cZJ X pins σ tg R) E { s with heap:=s.heap.push { cls:=.type "range",data:=.fields #[.int lo t,.int hi u,.int 1 v] },toks:=tk }:=by
 refine wpAny_pyIter_range (IsRange.new ..) (small_one h1 h2 h3 h4) ?_
 have I1:Inv X pins σ H { s with heap:=s.heap.push { cls:=.type "range",data:=.fields #[.int lo t,.int hi u,.int 1 v] },toks:=tk }:=I.kept fun b o e => Ad _ e
 refine ⟨(s.heap.push { cls:=.type "range",data:=.fields #[.int lo t,.int hi u,.int 1 v] }).objs.size,[(s.heap.push { cls:=.type "range",data:=.fields #[.int lo t,.int hi u,.int 1 v] }).objs.size],_,_,H,rfl,
   I1.kept (t':=tk) fun b o e => Ad _ e,rV _ lo (hi - lo).toNat,?_,fun b hb => ?_,q⟩
 · have e1:lo + ((0:Nat):Int) * 1 = lo:=by simp
   have e2:(((hi - lo).toNat:Nat):Int) - ((0:Nat):Int) = Builtin.Range.rangeSize lo hi 1:=by rw [rangeSize_one]; split <;> omega
   show IsRangeIter _ _ (lo + ((0:Nat):Int) * 1) ((((hi - lo).toNat:Nat):Int) - ((0:Nat):Int)) 1
   rw [e1,e2]
   exact Ap _ rfl
 · have e:b = (s.heap.push { cls:=.type "range",data:=.fields #[.int lo t,.int hi u,.int 1 v] }).objs.size:=by simpa using hb
   subst e
   exact I1.fpOk (Ai _) (I1.hok.fresh (Ai _))
theorem bX8 {iter:Expr} {body:List Stmt} {wi:TI} {g:TG} {tb:TS} {pos:Pos} (hp:PassesOwn (model X.prog X.w) X.A X.env X.xe) (hc:cZ X) (hi:PIM X tg iter wi) (hg:PG X tg g) (hb:PSs X body tb)
   (hs:∀ x,foldedSetIterable iter X.env x = pure x:=by intro _; rfl):PS X (.For tg iter body [] pos) (dQE wi g tb):=by
 intro pins s σ H D I h
 refine wpAny_For (thn (hi pins s σ H _ I h) fun v s1 h1 => thn h1 fun itv s2 h2 => ?_) hs
 obtain ⟨it,fp,tn,J,H2,e,I2,T,st2,f2,W,⟨m0,w0⟩,turn⟩:=h2
 subst e
 -- what stays true of the iterator's objects through the loop
 have stat:∀ {H':Hp},(∀ b ∈ fp,H' b = none) → ∀ b ∈ fp,dL X pins H' b:=fun hn b hb => ⟨hn b hb,(f2 b hb).2⟩
 refine codeAny_forLoop_any (fun n s' => ∃ i σ' H',Inv X pins σ' H' s' ∧ tn i s'.heap ∧ (∀ b ∈ fp,H' b = none) ∧ W i n σ' H') ?_ m0 ⟨0,σ,H2,I2,st2,fun b hb => (f2 b hb).1,w0⟩
 rintro n s3 ⟨i,σ3,H3,I3,st3,fr3,w3⟩
 rcases turn i n σ3 H3 w3 with ⟨stop,qn⟩ | ⟨go,N,hN,step⟩
 · refine Cu hp (thn (T.done X rfl rfl rfl hc i pins s3 σ3 H3 X.xe I3 (stat fr3) st3 stop) fun r s4 ⟨hr,I4⟩ => ?_)
   subst hr
   exact Gp ⟨σ3,H3,I4,qn⟩
 · refine Cu hp (thn (T.item X rfl rfl rfl hc i pins s3 σ3 H3 X.xe I3 (stat fr3) st3 go) fun r s4 ⟨u,hr,h4⟩ => ?_)
   subst hr
   refine Cu hp (thn h4 fun _ s5 ⟨x,H5,I5,r5,y5,st5,fr5⟩ => ?_)
   have I5':=I5.pinned (stat fr5) (T.obj _ _ st5)
   refine Cu hp (thn (hg _ s5 σ3 H5 x u _ I5' r5 (step x H5 y5)) fun _ s6 ⟨σ6,H6,I6,q6⟩ => ?_)
   refine Cu hp (thn (hb _ s6 σ6 H6 _ I6 q6) fun f s7 q7 => ?_)
   have again:∀ {σ7:St} {H7:Hp},Inv X (pins ++ eY fp s5.heap) σ7 H7 s7 → N σ7 H7 → ∃ m,m < n ∧ ∃ i σ' H',Inv X pins σ' H' s7 ∧ tn i s7.heap ∧ (∀ b ∈ fp,H' b = none) ∧ W i m σ' H':=fun {σ7 H7} I7 n7 => by
     obtain ⟨m',hm,w7⟩:=hN σ7 H7 n7
     refine ⟨m',hm,i + 1,σ7,H7,I7.unpinned,T.keep _ _ _ st5 fun b hb o e => (I7.pin (b,o) (Az _ (Az _ (cB hb e)))).1,fun b hb => ?_,w7⟩
     obtain ⟨o,e,d⟩:=T.obj _ _ st5 b hb
     exact (I7.pin (b,o) (Az _ (Az _ (cB hb e)))).2.1
   cases f with
   | next => obtain ⟨σ7,H7,I7,n7⟩:=q7; exact again I7 n7
   | cont => obtain ⟨σ7,H7,I7,n7⟩:=q7; exact again I7 n7
   | brk => obtain ⟨σ7,H7,I7,q7⟩:=q7; exact ⟨σ7,H7,I7.unpinned,q7⟩
   | ret v => obtain ⟨x7,σ7,H7,I7,r7,q7⟩:=q7; exact ⟨x7,σ7,H7,I7.unpinned,r7,q7⟩
end
section
variable {X:Cx} {tg l a b:Expr} {tl ta tb:TE} {p pos:Pos}
theorem iN (hl:PE X l tl):PIM X tg l (aZB X.K tl):=by
 intro pins s σ H R I h
 refine thn (hl pins s σ H _ I h) fun v s1 ⟨x,H1,I1,r1,q1⟩ => ?_
 obtain ⟨a,rfl,q⟩:=rH q1
 cases r1
 unfold onL at q
 split at q
 · rename_i xs e
   obtain ⟨its,rv,p,hz⟩:=I1.list (aU e)
   refine He p.isList ?_
   refine ⟨s1.heap.objs.size,[s1.heap.objs.size],_,_,H1,rfl,I1.kept (t':=s1.toks) fun b o e => Ad _ e,vJ a _,⟨_,Ap _ rfl,rfl,rfl⟩,fun b hb => ?_,q⟩
   have e:b = s1.heap.objs.size:=by simpa using hb
   subst e
   exact I1.fpOk (Ai _) (I1.hok.fresh (Ai _))
 · exact q.elim
theorem uI {ta:TA} (hg:Gl X "range") (hm:X.mg "range" = none) (ha:PA X [a,b] ta) (hs:starEach [a,b] X.env = [(false,eval a X.env),(false,eval b X.env)]:=by rfl) (hs2:starEach [b] X.env = [(false,eval b X.env)]:=by rfl) :
   PIM X tg (.Call (.Name "range" p) [a,b] [] pos) (aZN ta):=by
 intro pins s σ H R I h
 refine Call_ (fQ I hg hm boot_range (Cz (thn (ha pos pins s σ H _ I h) fun us s1 ⟨vs,H1,I1,r1,q1⟩ => ?_) (by rw [hs,hs2]) (by rw [hs2]; rfl)))
 obtain ⟨i,j,e,⟨b1,b2,b3,b4⟩,q⟩:=wK q1
 subst e
 cases r1 with
 | cons r rr =>
   cases rr with
   | cons r' rr =>
     cases rr
     obtain ⟨t,rfl⟩:=r
     obtain ⟨t',rfl⟩:=r'
     exact call_range_2 (aQG I1 b1 b2 b3 b4 q)
theorem rA {iter:Expr} {body:List Stmt} {wi:TI} {g:TG} {tb:TS} (hp:PassesOwn (model X.prog X.w) X.A X.env X.xe) (hc:cZ X) (hi:PIM X tg iter wi) (hg:PG X tg g) (hb:PSs X body tb)
   (hs:∀ x,foldedSetIterable iter X.env x = pure x:=by intro _; rfl):PS X (.For tg iter body [] pos) (aJD wi g tb):=bX8 (wi:=wi) hp hc hi hg hb hs
end
end L2
set_option maxHeartbeats 4000000
namespace L2
open PySem PySem.Spec PyProof.Rows
theorem Room.u1M {k:Nat} {A:Around} {v:Option Value} (r:Room k A):(A.mark v).units + 1 < cLine:=r.u1
theorem Room.unitsM {k:Nat} {A:Around} {v:Option Value} (r:Room k A):(A.mark v).units + 64 < cLine:=r.units
theorem Room.units0M {k:Nat} {A:Around} {v:Option Value} (r:Room k A):(A.mark v).units < cLine:=r.units0
theorem cQ3 {X:Cx} (hc:cZ X):CallR X (.builtin "min") aJC:=by
 intro pins s σ H xs us Q I r q
 obtain ⟨ea,hh,hcn,_⟩:=I.soft hc
 unfold aJC at q
 split at q
 · rename_i i j
   obtain ⟨u,w',rfl,⟨t,rfl⟩,⟨t',rfl⟩⟩:=kE r
   refine aX6 hh hcn fun h' tk k => ⟨_,H,I.kept k,?_,q⟩
   by_cases hj:j < i
   · rw [if_pos hj,if_pos hj]; exact ⟨_,rfl⟩
   · rw [if_neg hj,if_neg hj]; exact ⟨_,rfl⟩
 · exact q.elim
structure FnOkS (P:Program) (w:World) (K:PySem.W.Frag) (mg:Str → Option Value) (base:Heap) (k:Nat) (f:Addr) (fd:FuncData) (ps:List Str) (sp:Sp):Prop where
 len:∀ vs H Q E,sp vs H Q E → vs.length = ps.length
 run:∀ (B:Around) (ea:Addr) (outer:List Env) (s:Shared) (H:Hp) (args:Args) (us:List Value) (vs:List V) (Q:VK),Room k B → SoftAt s H ea → Env0 P w K mg base B outer s H → BindsTo s fd args (ps.zip us) → Vals vs us → sp vs H Q E0 →
   codeAny (model P w) (B.mark (some (.ref ea))) (.call (.ref f) args) (CR CX0 outer P w H s Q E0) s
section
variable {P:Program} {w:World} {K:PySem.W.Frag} {mg:Str → Option Value} {base:Heap}
theorem cO {CX:CXT} {N:List Str} {qual:Str} {scope:Scope} {f:Addr} {cd:Value} {B:Around} {outer:List Env} {s:Shared} {H:Hp} {E:XK} {pn:List (Addr × Obj)} {ea:Addr} (h:SoftAt s H ea):cZ ((fF CX P w K mg base N qual scope f cd B outer s H E).hnd pn ea) :=
 ⟨ea,rfl,h,by simp [fF]⟩
theorem Fun.okS {x qual:Str} {st:Stmt} {f:Addr} {fd:FuncData} {N ps:List Str} {k:Nat} {sp:Sp} (F:Fun K x qual st f fd) (S:FnScope N ps (aG st)) (len:∀ vs H Q E,sp vs H Q E → vs.length = ps.length)
   (hbody:∀ (cdv:Value) (B:Around) (ea:Addr) (outer:List Env) (s:Shared) (H:Hp) (vs:List V) (Q:VK),Room k (B.deeper (envOfC qual (aG st) s.heap.objs.size f cdv)) → SoftAt s H ea → sp vs H Q E0 →
     ∃ t,PSs ((fF CX0 P w K mg base N qual (aG st) f cdv B outer s H E0).hnd [] ea) (aS st) t ∧ t { nx:=fun _ H' => Q .non H',rt:=Q } (eN N vs) H):FnOkS P w K mg base (k + 1) f fd ps sp:=by
 obtain ⟨oc,od,kV,doc,pm,an,cdv,ct,osl,rfl,lk,hcd⟩:=F.ex
 refine ⟨len,fun B ea outer s H args us vs Q hr hsf e0 hb r hsp => ?_⟩
 have hl:=len _ _ _ _ hsp
 have KX:K.In s.heap:=e0.mod.kin.keeps fun b o e => (e0.bs b o e).1
 have nl:s.heap.NoLimit:=e0.mod.nolimit.keeps fun b o e => (e0.bs b o e).1
 have kinds:∀ y ∈ ps.zip us,(aG st).names.lookup y.1 = some .local ∨ ((aG st).names.lookup y.1 = some .cell ∧ ((cellsFrom (s.heap.objs.size + 1) (aG st).names []).lookup y.1).isSome = true):=fun ⟨n,v⟩ hy =>
   (S.par n (List.of_mem_zip hy).1).elim .inl fun q => .inr ⟨q,Hb _ _ _ (.inl q)⟩
 refine codeAny_call_function (show (B.mark (some (.ref ea))).depth < recursionLimit from hr.depth) (KX _ _ lk) rfl S.co S.gen rfl (PySem.W.codeRec_of KX hcd) (hb _ _ _ _ ?_)
 refine wpAny_newFunctionEnv_cells S.kind kinds fun env he s1 x => ?_
 subst he
 refine ⟨nl.keeps x.toInCall.keep,codeAny_func ?_⟩
 obtain ⟨t,ht,hq⟩:=hbody cdv B ea outer s H vs Q (hr.deeper _) hsf hsp
 have I:=(oU (CX:=CX0) (E:=E0) S hr.hd e0 hl r x).hnd ea
 refine Bw (ht [] s1 (eN N vs) H _ I hq) (fun fl s' hs => ?_) fun e s' z => False.elim z
 cases fl with
 | ret u =>
   obtain ⟨v,σ',H',J,rv,q⟩:=hs
   exact ⟨v,H',J.os,J.bare,J.base,J.hok,rv,q⟩
 | next =>
   obtain ⟨σ',H',J,q⟩:=hs
   exact ⟨V.non,H',J.os,J.bare,J.base,J.hok,rfl,q⟩
 | brk =>
   obtain ⟨_,_,_,q⟩:=hs
   exact False.elim q
 | cont =>
   obtain ⟨_,_,_,q⟩:=hs
   exact False.elim q
end
def xT (P:Program) (w:World) (K:PySem.W.Frag) (mg:Str → Option Value) (base:Heap) (k:Nat) (x:Str) (ps:List Str) (sp:Sp):Prop :=
 ∃ (f:Addr) (fd:FuncData),FnOkS P w K mg base k f fd ps sp ∧ mg x = some (.ref f) ∧ PySem.W.keepIn K (.ref f) = true ∧ Binds K fd ps []
def cJO (X:Cx) (ea:Addr):Prop:=∀ (pins:List (Addr × Obj)) (σ:St) (H:Hp) (s:Shared),Inv X pins σ H s → SoftAt s H ea
theorem bXA {P:Program} {w:World} {K:PySem.W.Frag} {mg:Str → Option Value} {base:Heap} {CX:CXT} {N:List Str} {qual:Str} {scope:Scope} {f:Addr} {cd:Value} {B:Around} {outer:List Env} {s:Shared} {H:Hp} {E:XK} {pn:List (Addr × Obj)} {ea:Addr} (h:SoftAt s H ea) :
   cJO ((fF CX P w K mg base N qual scope f cd B outer s H E).hnd pn ea) ea:=fun pins σ H' s' I => I.softAt h (by simp [fF])
section
variable {X:Cx} {pn:List (Addr × Obj)} {ea:Addr} {k k':Nat} {ps:List Str} {sp:Sp} {x:Str} {p pos:Pos} {e:Expr} {es:List Expr} {t:TA}
theorem bXZ (c:xT X.prog X.w X.K X.mg X.base k x ps sp) (ht:cJO (X.hnd pn ea) ea) (hr:Room k' X.A) (hk:k ≤ k') (hg:Gl (X.hnd pn ea) x)
   (ha:PA (X.hnd pn ea) (e :: es) t) (hdb:(x == ("__debug__" : Str)) = false:=by decide) (he:starEach (e :: es) (X.hnd pn ea).env = (false,eval e (X.hnd pn ea).env) :: starEach es (X.hnd pn ea).env:=by rfl) (hpl:(backTo pos (starEach es (X.hnd pn ea).env)).any (·.1) = false:=by rfl) :
   PE (X.hnd pn ea) (.Call (.Name x p) (e :: es) [] pos) (sM sp [] E0 t):=by
 obtain ⟨f,fd,F,hm,hkp,hb⟩:=c
 intro pins s σ H Q I h
 refine Dy (eC I hg hm ?_ hdb)
 refine Fn (h₀:=X.base) I.ok.mod.kin hkp (thn (ha pos pins s σ H _ I h) fun us s1 ⟨vs,H1,I1,r,q⟩ => ⟨I1.kIn,?_⟩) he hpl
 have q':sp vs H1 Q E0:=by have q:sp (vs ++ []) H1 Q E0:=q; rw [Bs] at q; exact q
 have hl:(us ++ []).length = ps.length:=by rw [Bs,← r.length]; exact F.len _ _ _ _ q'
 have hbb:=hb s1 us I1.kIn hl
 rw [Bs] at hbb
 have e1:=I1.env0
 have e0:Env0 X.prog X.w X.K X.mg X.base X.A X.stack s1 H1:=⟨e1.frames,e1.mod,e1.bs,e1.bsz,e1.funs,e1.frf,e1.hok,e1.bare⟩
 refine Gb (Ek (F.run X.A ea X.stack s1 H1 ⟨us,[]⟩ us vs Q (hr.mono hk) (ht pins σ H1 s1 I1) e0 hbb r q') fun rr s' hq => ?_)
 cases rr with
 | error e => exact False.elim hq
 | ok fl =>
   cases fl with
   | ret u => exact I1.after hq
   | next => exact False.elim hq
   | brk => exact False.elim hq
   | cont => exact False.elim hq
end
section
variable {X:Cx} {pins:List (Addr × Obj)}
end
end L2
set_option maxHeartbeats 4000000
namespace L2
open PySem PySem.Spec PyProof.Rows
section
variable {M:Model} {A:Around} {E:Value → Shared → Prop} {s:Shared} {B:Heap} {env:Env} {outer l:List Env} {L e:Addr} {cls fl:Value} {d:Option Addr} {Q:Unit → Shared → Prop}
theorem sF {o:Option Addr} (F:Fly B l e cls d fl s.heap) (hQ:∀ h' fl',Fly B l e cls d fl' h' → s.heap.UpToSlots h' → Q () { s with heap:=h' }):wpAny M A (setFlight (.ref e) o) Q E s:=by
 obtain ⟨hB,hn,hl,oe,vs,T,oT,ts,he,hc,hd,h1,hT,hTe,gT,dT,t3,c2⟩:=F
 have z3:3 < ts.size:=(Bx.mp t3).1
 unfold setFlight
 refine Aa (Ct he hd h1 ?_)
 rw [if_pos (show (Value.ref T != Value.none) = true by simp)]
 refine Hf gT dT z3 (hQ _ (o.elim .none fun f => rawInt f) ?_ fun b o q nf => ⟨o.slots,kJ gT dT b o q nf⟩)
 have dm:=Dc dT (·.setIfInBounds 3 (o.elim Value.none fun f => rawInt f))
 refine ⟨fun b u q => ?_,hn,hl.of_keeps fun b u q nf => ⟨u,kJ gT dT b u q nf,rfl⟩,oe,vs,T,_,_,?_,hc,hd,h1,hT,hTe,Heap.get?_update_self _ gT (Obj.isFreed_of_fields dm),dm,by simp [z3],c2⟩
 · rw [Bj _ _ (fun z:T = b => by rw [← z,hT] at q; cases q)]
   exact hB b u q
 · rw [Bj _ _ hTe]
   exact he
theorem vO {α:Type} {what:String} {cenv:Env} {Q:α → Shared → Prop} (F:Fly B l e cls d fl s.heap) (hE:∀ h' fl',Fly B l e cls d fl' h' → s.heap.UpToSlots h' → E (.ref e) { s with heap:=h' }) :
   wpAny M A (passOn what (.ref e) cenv:Sem α) Q E s:=by
 obtain ⟨oe,vs,T,oT,ts,he,hc,hd,h1,_⟩:=id F.on
 unfold PySem.passOn
 refine Aa (Ct he hd h1 ?_)
 rw [if_neg (show ¬ ((Value.ref T == Value.none) = true) by simp)]
 exact Aa (sF F fun h' fl' F' up => wpAny_throw (hE h' fl' F' up))
theorem Fly.hid {h h':Heap} {C:Addr} {oC:Obj} (F:Fly B l e cls d fl h) (hC:B.get? C = some oC) (sb:Heap.SameBut C h h'):Fly (PySem.W.hideAll B [C]) l e cls d fl h':=by
 have nC:∀ b,B.get? b = none → b ≠ C:=fun b hb z => by rw [z,hC] at hb; cases hb
 have gone:∀ b,B.get? b = none → (PySem.W.hideAll B [C]).get? b = none:=fun b hb => by
   cases q:(PySem.W.hideAll B [C]).get? b with
   | none => rfl
   | some o =>
     have:=Gr _ q
     rw [hb] at this
     cases this
 obtain ⟨hB,hn,hl,oe,vs,T,oT,ts,he,hc,hd,h1,hT,hTe,gT,r⟩:=F
 refine ⟨fun b o q => ?_,gone e hn,?_,oe,vs,T,oT,ts,(sb.2 e (nC e hn)).trans he,hc,hd,h1,gone T hT,hTe,(sb.2 T (nC T hT)).trans gT,r⟩
 · have hb:b ≠ C:=fun z => by
     rw [z,PySem.W.hideAll_none _ An] at q
     cases q
   exact (sb.2 b hb).trans (hB b o (Gr _ q))
 · have all:∀ l:List Env,h.FunFrames B l → h'.FunFrames (PySem.W.hideAll B [C]) l:=fun l => by
     induction l with
     | nil => exact fun _ => trivial
     | cons env r ih => exact fun ⟨hk,⟨L,o,hf,hn,ho,hd⟩,hr⟩ => ⟨hk,⟨L,o,hf,gone L hn,(sb.2 L (nC L hn)).trans ho,hd⟩,ih hr⟩
   exact all l hl
end
def LX (X:Cx) (Ex:XK):Value → Shared → Prop:=fun e s' => ∃ ea cls d B H' fl,e = .ref ea ∧ s'.os = X.s₀.os ∧ AllBare s'.gens ∧ Fly B X.stack ea cls d fl s'.heap ∧ HOk X.prog X.w H' B ∧ UnB X.fs X.H₀ H' X.s₀.heap B s'.heap ∧ Ex cls d H'
def dQV (X:Cx) (Ex:XK):Prop:=∀ e s',X.Ok → LX X Ex e s' → X.xe e s'
def CErr (X:Cx) (Ex:XK) (C:Addr) (e:Value) (s':Shared):Prop:=∃ ea cls d B H' fl m,e = .ref ea ∧ s'.os = X.s₀.os ∧ AllBare s'.gens ∧ Fly B X.stack ea cls d fl s'.heap ∧ B.Ns C m ∧ HOk X.prog X.w H' B ∧ H' C = none ∧ UnB X.fs X.H₀ H' X.s₀.heap B s'.heap ∧ X.s₀.heap.objs.size ≤ C ∧ Ex cls d H'
theorem CErr.post {X:Cx} {Ex:XK} {C:Addr} {e:Value} {s':Shared} (h:CErr X Ex C e s') (ok:X.Ok) (hL:dQV X Ex):∃ m,s'.heap.Ns C m ∧ ∀ h',Heap.SameBut C s'.heap h' → ∀ cenv:Env,cenv.locals = C →
   wpAny (model X.prog X.w) X.A (passOn "comprehension.variables-let-go" e cenv:Sem Value) (fun _ _ => False) X.xe { s' with heap:=h' }:=by
 obtain ⟨ea,cls,d,B,H',fl,m,rfl,os,bare,F,nB,hok,hC,un,hz,q⟩:=h
 refine ⟨m,nB.keeps fun b o e => F.stays b o e,fun h' sb cenv _ => ?_⟩
 obtain ⟨oC,_,_,gC,_⟩:=id nB
 refine vO (s:={ s' with heap:=h' }) (F.hid gC sb) fun h2 fl2 F2 up => hL _ _ ok ?_
 have neC:∀ b o,X.s₀.heap.get? b = some o → b ≠ C:=fun b o e z => absurd (Ak e) (Ht.mpr (by rw [z]; exact hz))
 have hid:∀ b o,B.get? b = some o → b ≠ C → (PySem.W.hideAll B [C]).get? b = some o:=fun b o e n => PySem.W.hideAll_get _ e fun hm => n (Aq.mp hm)
 refine ⟨ea,cls,d,_,H',fl2,rfl,os,bare,F2,hok.down fun b o u e g => hid b o g fun z => ?_,⟨fun b o e n hb => hid b o (un.keep b o e n hb) (neC b o e),fun b o e n hb => ?_,un.free,fun b o e hb => ?_,un.tups,un.frzs,un.tbls⟩,q⟩
 · rw [z,hC] at e
   cases e
 · obtain ⟨sl,q1⟩:=un.slot b o e n hb
   obtain ⟨_,o2,g2,nf⟩:=ok.funs.mem hb
   rw [e] at g2
   cases g2
   obtain ⟨sl2,q2⟩:=up b _ ((sb.2 b (neC b o e)).trans q1) nf
   exact ⟨sl2,q2⟩
 · obtain ⟨o',q1⟩:=un.there b o e hb
   exact ⟨o',hid b o' q1 (neC b o e)⟩
section
variable {X:Cx} {Ex:XK} {N:List Str} {scope:Scope} {cl:List (Str × Addr)} {vals:St → St} {tg elt iter:Expr} {ifs:List Expr} {pos spos py:Pos} {wi:TI} {g:TG} {tests:TT} {te:TE}
end
end L2
set_option maxHeartbeats 4000000
namespace L2
open PySem PySem.Spec PyProof.Rows
def bZ3:V → List V → Hp → VK → Prop:=fun x vs H Q => ∃ z y:Str,x = .str z ∧ vs = [.str y] ∧ Q (.int (Txt.find z y)) H
theorem bJM {X:Cx}:MtR X "str.find" bZ3:=by
 intro pins s σ H x vs v us Q I rx rv h
 obtain ⟨z,y,rfl,rfl,q⟩:=h
 obtain ⟨t,rfl⟩:=rx
 obtain ⟨u,rfl,ru⟩:=rv.one
 obtain ⟨t',rfl⟩:=ru
 exact SC.find ⟨.int (Txt.find z y),H,I.tok _,⟨_,rfl⟩,q⟩
theorem cQ4 {H:Hp} {Q:VK} {z y:Str} (h:Q (.int (Txt.find z y)) H):bZ3 (.str z) [.str y] H Q:=⟨z,y,rfl,rfl,h⟩
end L2
set_option maxHeartbeats 4000000
namespace L2
open PySem PySem.Spec PyProof.Rows
def xP (prog:Program) (w:World) (A:Around) (old:Heap) (S:Addr) (vs:List Value) (J:Nat → Obj → Prop):Prop :=
 ∀ (i:Nat) (v:Value) (s:Shared) (o:Obj) (E:Value → Shared → Prop) (Q:Bool → Shared → Prop),vs[i]? = some v → (∀ b u,old.get? b = some u → s.heap.get? b = some u) → s.heap.get? S = some o → J i o →
   (∀ (c:Bool) (h':Heap) (tk:Nat) (o':Obj),Heap.SameBut S s.heap h' → h'.get? S = some o' → J (i + 1) o' → Q c { s with heap:=h',toks:=tk }) → wpAny (model prog w) A (setAdd S v) Q E s
section
variable {prog:Program} {w:World} {A:Around} {E:Value → Shared → Prop} {R:Result → Shared → Prop} {old:Heap} {S l it:Addr} {vs:List Value} {J:Nat → Obj → Prop}
theorem nL {s:Shared} (h:wpAny (model prog w) A.in1 (Builtin.«set.update.loop» ⟨[.ref S,.ref it],[]⟩) (fun fin s' => match fin with | .done f => R (.ok f) s' | .again c => c.quiet = true ∧ codeAny (model prog w) A c R s') (fun e s' => R (.error e) s') s) :
   codeAny (model prog w) A (.builtin "set.update.loop" ⟨[.ref S,.ref it],[]⟩) R s:=by
 refine Dv PyProof.Rows.F.entry_set_update_loop (by rw [Dd PyProof.Rows.F.plain_set_update_loop]; exact h)
end
section
variable {prog:Program} {w:World} {A:Around} {E:Value → Shared → Prop} {s:Shared}
def bare (led:Bool):Obj:={ cls:=.type "set",dict:=none,data:=.set #[] 0 (.fresh 0 0 led) }
end
end L2
set_option maxHeartbeats 4000000
namespace L2
open PySem PySem.Spec PyProof.Rows
def aZL:List V → Hp → VK → Prop:=fun xs H Q => (∃ j:Int,xs = [.int j] ∧ ∀ r,H r = none → Q (.ref r) (upd H r (.rng 0 j))) ∨ (∃ i j:Int,xs = [.int i,.int j] ∧ ∀ r,H r = none → Q (.ref r) (upd H r (.rng i j)))
theorem Inv.rngNew {X:Cx} {pins:List (Addr × Obj)} {σ:St} {H:Hp} {s:Shared} {lo hi:Int} {t u v:Tok} {tk:Nat} (I:Inv X pins σ H s) :
   Inv X pins σ (upd H s.heap.objs.size (.rng lo hi)) { s with heap:=s.heap.push { cls:=.type "range",data:=.fields #[.int lo t,.int hi u,.int 1 v] },toks:=tk } :=
 (I.kept (t':=tk) fun b o e => Ad _ e).adopt (I.freAt (Ai _)) (I.hok.fresh (Ai _)) ⟨t,u,v,Ap _ rfl⟩
theorem aZM {X:Cx}:CallR X (.type "range") aZL:=by
 intro pins s σ H xs us Q I r h
 rcases h with ⟨j,rfl,q⟩ | ⟨i,j,rfl,q⟩
 · obtain ⟨u,rfl,⟨t,rfl⟩⟩:=dQ r
   exact call_range_1 ⟨.ref _,_,I.rngNew,rfl,q _ (I.hok.fresh (Ai _))⟩
 · obtain ⟨u,w',rfl,⟨t,rfl⟩,⟨t',rfl⟩⟩:=kE r
   exact call_range_2 ⟨.ref _,_,I.rngNew,rfl,q _ (I.hok.fresh (Ai _))⟩
theorem bXT {H:Hp} {Q:VK} {j:Int} (h:∀ r,H r = none → Q (.ref r) (upd H r (.rng 0 j))):aZL [.int j] H Q:=.inl ⟨j,rfl,h⟩
theorem bXU {H:Hp} {Q:VK} {i j:Int} (h:∀ r,H r = none → Q (.ref r) (upd H r (.rng i j))):aZL [.int i,.int j] H Q:=.inr ⟨i,j,rfl,h⟩
theorem yU (lo hi i:Int):(Builtin.Range.rangePlace? lo hi 1 i).isSome = decide (lo ≤ i ∧ i < hi):=by
 unfold Builtin.Range.rangePlace?
 simp only [show (1:Int) > 0 by decide,if_true,Int.emod_one]
 by_cases h:lo ≤ i ∧ i < hi
 · rw [Au h]
   simp [h.1,h.2]
 · rw [Bd h]
   have:(decide (lo ≤ i) && decide (i < hi)) = false:=by
     rw [Bool.and_eq_false_iff]
     by_cases h1:lo ≤ i
     · exact .inr (Bd fun h2 => h ⟨h1,h2⟩)
     · exact .inl (Bd h1)
   simp [this]
def wI:V → V → Hp → VK → Prop:=fun x y H Q => ∃ (i:Int) (p:Addr) (lo hi:Int),x = .int i ∧ y = .ref p ∧ H p = some (.rng lo hi) ∧ Q (.bl (!decide (lo ≤ i ∧ i < hi))) H
theorem rJ {X:Cx}:OpR X (compareOp .NotIn) wI:=by
 intro pins s σ H x y v u Q I rx ry h
 obtain ⟨i,p,lo,hi,rfl,rfl,hp,q⟩:=h
 obtain ⟨t,rfl⟩:=rx
 cases ry
 obtain ⟨t0,t1,t2,ho⟩:=I.hok p _ hp
 have hT:s.TypeIs (.ref p) "range" := ⟨_,ho,rfl⟩
 show wpAny _ _ (do return Value.bool (!(← contains (.ref p) (.int i t)))) _ _ s
 refine Aa ?_
 unfold contains
 try with_reducible refine Bv ?_
 refine Aa (Eu hT F.slot_range_contains.lookup ?_)
 show wpAny _ _ (if (some (Value.builtin "range.__contains__") == some Value.none) = true then _ else _) _ _ s
 rw [if_neg (by rw [beq_builtin_none]; exact Ao)]
 refine Aa (wpAny_callSpecialUnlessNone?_slot (name:=Str.ofString "__contains__") hT F.slot_range_contains
   (Cc F.slot_range_contains hT F.entry_range_contains ?_ (F.args_range_contains_2 _ _)))
 unfold Builtin.«range.__contains__»
 show wpAny _ _ (rule _ >>= _) _ _ s
 refine Aa (wpAny_rule (Aa ?_))
 unfold Builtin.Range.rangeFields
 refine Aa (Ct (x:=.int lo t0) ho rfl rfl ?_)
 refine Aa (Ae (Aa (Ct (x:=.int hi t1) ho rfl rfl ?_)))
 refine Aa (Ae (Aa (Ct (x:=.int 1 t2) ho rfl rfl ?_)))
 refine Aa (Ae (Ae ?_))
 show wpAny _ _ (ret (Value.bool (Builtin.Range.rangePlace? lo hi 1 i).isSome)) _ _ s
 rw [yU]
 exact Ae ⟨_,rfl,Ha (Ae ⟨.bl _,H,I,rfl,q⟩)⟩
theorem tH {H:Hp} {Q:VK} {i lo hi:Int} {p:Addr} (e:H p = some (.rng lo hi)) (h:Q (.bl (!decide (lo ≤ i ∧ i < hi))) H):wI (.int i) (.ref p) H Q:=⟨i,p,lo,hi,rfl,rfl,e,h⟩
end L2
set_option maxHeartbeats 4000000
namespace L2
open PySem PySem.Spec PyProof.Rows
theorem Lsts.app {H1 Hc:Hp} {ps qs:List Addr} {fs gs:List (List V)} (t:Lsts H1 Hc ps fs) (u:Lsts H1 Hc qs gs):Lsts H1 Hc (ps ++ qs) (fs ++ gs):=by
 refine ⟨by rw [Ar,Ar,t.1,u.1],fun j p v hp hv => ?_⟩
 by_cases h:j < ps.length
 · rw [Ba h] at hp
   rw [Ba (by rw [← t.1]; exact h)] at hv
   exact t.2 j p v hp hv
 · rw [Bf (by omega)] at hp
   rw [Bf (by rw [← t.1]; omega),← t.1] at hv
   exact u.2 _ p v hp hv
section
variable {g:TG} {tests:TT} {te:TE} {σ0:St} {Q:VK} {H1:Hp}
end
end L2
set_option maxHeartbeats 1000000
namespace L2
open PySem
def adv (t:SetTable) (p:SetTable.Probe):Nat → SetTable.Probe
 | 0 => p
 | n + 1 => adv t (t.advance p) n
theorem kQ (t:SetTable) (m:Nat):∀ (n:Nat) (p:SetTable.Probe),adv t p (n + m) = adv t (adv t p n) m
 | 0,p => by rw [Hr]; rfl
 | n + 1,p => by rw [Nat.succ_add]; exact kQ t m n (t.advance p)
theorem mT (t:SetTable) (p:SetTable.Probe):(t.advance p).dummy = p.dummy:=by
 unfold SetTable.advance
 split <;> rfl
def fP (mask i per:Nat) (d:Option Nat):SetTable.Probe:={ j:=i,more:=SetTable.runEnd mask i - i,i:=i,perturb:=per,dummy:=d }
theorem pN (t:SetTable):∀ (k:Nat) (p:SetTable.Probe),p.more = k → adv t p (k + 1) = fP t.mask (SetTable.leap t.mask p.i p.perturb).1 (SetTable.leap t.mask p.i p.perturb).2 p.dummy
 | 0,p,h => by
   show t.advance p = _
   unfold SetTable.advance
   rw [if_neg (by omega)]
   rfl
 | k + 1,p,h => by
   show adv t (t.advance p) (k + 1) = _
   have e:t.advance p = { p with j:=p.j + 1,more:=p.more - 1 }:=by
     unfold SetTable.advance
     rw [if_pos (by omega)]
   rw [e,pN t k _ (by show p.more - 1 = k; omega)]
theorem vZ (mask i:Nat):SetTable.runEnd mask i - i ≤ 9:=by
 unfold SetTable.runEnd
 split <;> omega
def dB (mask:Nat) (x:Nat × Nat):Nat → Nat × Nat
 | 0 => x
 | n + 1 => dB mask (SetTable.leap mask x.1 x.2) n
theorem oE (mask m:Nat):∀ (n:Nat) (x:Nat × Nat),dB mask x (n + m) = dB mask (dB mask x n) m
 | 0,x => by rw [Hr]; rfl
 | n + 1,x => by rw [Nat.succ_add]; exact oE mask m n _
theorem nW (t:SetTable) (d:Option Nat):∀ (m:Nat) (i per:Nat),∃ c,c ≤ 10 * m ∧ adv t (fP t.mask i per d) c = fP t.mask (dB t.mask (i,per) m).1 (dB t.mask (i,per) m).2 d
 | 0,i,per => ⟨0,Ai _,rfl⟩
 | m + 1,i,per => by
   obtain ⟨c,hc,e⟩:=nW t d m (SetTable.leap t.mask i per).1 (SetTable.leap t.mask i per).2
   refine ⟨(SetTable.runEnd t.mask i - i + 1) + c,?_,?_⟩
   · have:=vZ t.mask i; omega
   · rw [kQ,pN t (SetTable.runEnd t.mask i - i) (fP t.mask i per d) rfl]
     exact e
theorem nM (mask:Nat):∀ (n:Nat) (x:Nat × Nat),(dB mask x n).2 = x.2 / 32 ^ n
 | 0,x => by show x.2 = x.2 / 1; rw [Nat.div_one]
 | n + 1,x => by
   show (dB mask (SetTable.leap mask x.1 x.2) n).2 = _
   rw [nM mask n]
   show x.2 / 32 / 32 ^ n = _
   rw [Nat.div_div_eq_div_mul,Nat.pow_succ,Nat.mul_comm]
def cyc (M:Nat):Nat → Nat
 | 0 => 0
 | n + 1 => (cyc M n * 5 + 1) % M
theorem jV (mask:Nat):∀ (n a:Nat),(dB mask (cyc (mask + 1) a,0) n) = (cyc (mask + 1) (a + n),0)
 | 0,a => rfl
 | n + 1,a => by
   show dB mask (SetTable.leap mask (cyc (mask + 1) a) 0) n = _
   have e:SetTable.leap mask (cyc (mask + 1) a) 0 = (cyc (mask + 1) (a + 1),0):=by
     show ((cyc (mask + 1) a * 5 + 1 + 0 / 32) % (mask + 1),0 / 32) = _
     rw [Nat.zero_div,Nat.add_zero]
     rfl
   rw [e,jV mask n (a + 1),Nat.add_right_comm,Nat.add_assoc]
def Full (M:Nat):Prop:=cyc M M = 0 ∧ ∀ e,e < M → ∃ n,n < M ∧ cyc M n = e
theorem wC (M:Nat) (h:cyc M M = 0):∀ n,cyc M (M + n) = cyc M n
 | 0 => h
 | n + 1 => by
   show (cyc M (M + n) * 5 + 1) % M = _
   rw [wC M h n]
   rfl
theorem Full.reach {mask:Nat} (F:Full (mask + 1)) {x e:Nat} (hx:x < mask + 1) (he:e < mask + 1):∃ m,m ≤ mask ∧ (dB mask (x,0) m).1 = e:=by
 obtain ⟨a,ha,rfl⟩:=F.2 x hx
 obtain ⟨b,hb,rfl⟩:=F.2 e he
 by_cases h:a ≤ b
 · exact ⟨b - a,by omega,by rw [jV,Nat.add_sub_cancel' h]⟩
 · exact ⟨mask + 1 + b - a,by omega,by rw [jV,show a + (mask + 1 + b - a) = mask + 1 + b by omega,wC _ F.1]⟩
theorem qV {M:Nat} (L:List Nat) (h0:cyc M M = 0) (h:(List.range M).all (fun e => decide (L.getD e 0 < M) && cyc M (L.getD e 0) == e) = true):Full M:=by
 refine ⟨h0,fun e he => ⟨L.getD e 0,?_⟩⟩
 have:=Dz.mp h e (Bn.mpr he)
 rw [Fj] at this
 exact ⟨Br this.1,eq_of_beq this.2⟩
theorem cJN:Full 8:=qV [0,1,6,7,4,5,2,3] (by decide +kernel) (by decide +kernel)
theorem cX1:Full 32:=qV [0,1,6,15,28,13,2,27,24,25,30,7,20,5,26,19,16,17,22,31,12,29,18,11,8,9,14,23,4,21,10,3] (by decide +kernel) (by decide +kernel)
theorem aJ2:Full 128:=qV [0,1,70,111,28,109,2,123,120,25,126,71,20,5,58,83,112,49,54,31,12,29,114,43,104,73,110,119,4,53,42,3,96,97,38,79,124,77,98,91,88,121,94,39,116,101,26,51,80,17,22,127,108,125,82,11,72,41,78,87,100,21,10,99,64,65,6,47,92,45,66,59,56,89,62,7,84,69,122,19,48,113,118,95,76,93,50,107,40,9,46,55,68,117,106,67,32,33,102,15,60,13,34,27,24,57,30,103,52,37,90,115,16,81,86,63,44,61,18,75,8,105,14,23,36,85,74,35] (by decide +kernel) (by decide +kernel)
theorem wJ {mask:Nat}:∀ (n:Nat) {x:Nat × Nat},x.1 < mask + 1 → (dB mask x n).1 < mask + 1
 | 0,x,h => h
 | n + 1,x,h => wJ n (x:=SetTable.leap mask x.1 x.2) (Hv _ (Gi _))
theorem cJ2 {mask:Nat} (F:Full (mask + 1)) {i per e:Nat} (hi:i < mask + 1) (hp:per < 2 ^ 64) (he:e < mask + 1):∃ m,m ≤ mask + 13 ∧ (dB mask (i,per) m).1 = e:=by
 obtain ⟨m,hm,e1⟩:=F.reach (x:=(dB mask (i,per) 13).1) (wJ 13 hi) he
 refine ⟨13 + m,by omega,?_⟩
 rw [oE]
 have hz:(dB mask (i,per) 13).2 = 0:=by
   rw [nM]
   exact Nat.div_eq_of_lt (Bb hp (by decide))
 rw [show dB mask (i,per) 13 = ((dB mask (i,per) 13).1,0) from Prod.ext rfl hz]
 exact e1
theorem wM (h:Int):SetTable.bits h < 2 ^ 64:=by
 unfold SetTable.bits
 have h1:=Ew h (show (2 ^ 64:Int) ≠ 0 by decide)
 have h2:=Gv h (show (0:Int) < 2 ^ 64 by decide)
 omega
theorem mL:∀ (n:Nat) (l:List Nat),l.length < n → ∃ e,e < n ∧ e ∉ l
 | 0,l,h => by omega
 | n + 1,l,h => by
   by_cases hm:n ∈ l
   · have hl:=List.length_erase_of_mem hm
     have hp:=List.length_pos_of_mem hm
     obtain ⟨e,h1,h2⟩:=mL n (l.erase n) (by omega)
     exact ⟨e,by omega,fun z => h2 ((List.mem_erase_of_ne (by omega)).mpr z)⟩
   · exact ⟨n,Dx _,hm⟩
theorem uY {t:SetTable} (hd:t.dummies = #[]) {e:Nat} (h:e ∉ t.place.toList):t.slot e = .empty:=by
 unfold SetTable.slot
 have h1:(t.place[SetTable.below t.place e]? == some e) = false:=by
   rw [Dh]
   intro z
   exact h (Ee.mpr (Ep z))
 have h2:SetTable.has t.dummies e = false:=by rw [hd]; rfl
 simp only [h1,h2]
 rfl
theorem jU {t:SetTable} {j i:Nat} (h:t.slot j = .live i):i < t.place.size:=by
 unfold SetTable.slot at h
 simp only at h
 split at h
 · rename_i z
   cases h
   exact (Bx.mp (eq_of_beq z)).1
 · split at h <;> cases h
theorem mH {t:SetTable} (hd:t.dummies = #[]) {j:Nat}:t.slot j ≠ .dummy:=by
 unfold SetTable.slot
 have h2:SetTable.has t.dummies j = false:=by rw [hd]; rfl
 simp only [h2]
 split
 · exact fun z => nomatch z
 · exact fun z => nomatch z
theorem sU {t:SetTable} {f:Nat → Int} {h:Int} (hd:t.dummies = #[]) (hf:∀ i,i < t.place.size → f i ≠ h):∀ (fuel:Nat) (p:SetTable.Probe),p.dummy = none → (∃ n,n < fuel ∧ t.slot (adv t p n).j = .empty) → ∃ j,SetTable.probe.go t f h fuel p = some (.empty j none)
 | 0,p,_,⟨n,hn,_⟩ => by omega
 | fuel + 1,p,hp,⟨n,hn,he⟩ => by
   unfold SetTable.probe.go
   cases hs:t.slot p.j with
   | empty => exact ⟨p.j,by rw [hp]⟩
   | dummy => exact absurd hs (mH hd)
   | live i =>
     have hi:=hf i (jU hs)
     simp only
     rw [if_neg (by rw [Gc]; exact hi)]
     cases n with
     | zero =>
       have:t.slot p.j = .empty:=he
       rw [hs] at this
       cases this
     | succ n => exact sU hd hf fuel (t.advance p) ((mT t p).trans hp) ⟨n,by omega,he⟩
theorem kB {t:SetTable} {f:Nat → Int} {h:Int} (F:Full (t.mask + 1)) (hd:t.dummies = #[]) (hs:t.place.size ≤ t.mask) (hf:∀ i,i < t.place.size → f i ≠ h):∃ j,t.probe f h (t.probeStart h) = some (.empty j none):=by
 obtain ⟨e,he,hne⟩:=mL (t.mask + 1) t.place.toList (by rw [Aw]; omega)
 obtain ⟨m,hm,e1⟩:=cJ2 F (i:=SetTable.bits h % (t.mask + 1)) (Hv _ (Gi _)) (wM h) he
 obtain ⟨c,hc,e2⟩:=nW t none m (SetTable.bits h % (t.mask + 1)) (SetTable.bits h)
 refine sU hd hf (10 * SetTable.turns t.mask) (t.probeStart h) rfl ⟨c,?_,?_⟩
 · unfold SetTable.turns; omega
 · show t.slot (adv t (fP t.mask (SetTable.bits h % (t.mask + 1)) (SetTable.bits h) none) c).j = _
   rw [e2]
   show t.slot (dB t.mask _ m).1 = _
   rw [e1]
   exact uY hd hne
theorem oK {mask:Nat} {owner:Array (Option Nat)}:∀ (fuel i per:Nat),(∃ m,m < fuel ∧ owner.getD (dB mask (i,per) m).1 (some 0) = none) → ∃ j,SetTable.layClean.free mask owner fuel i per = some j ∧ owner.getD j (some 0) = none
 | 0,i,per,⟨m,h,_⟩ => by omega
 | fuel + 1,i,per,⟨m,hm,he⟩ => by
   unfold SetTable.layClean.free
   cases hf:(List.range (SetTable.runEnd mask i + 1 - i)).find? fun k => (owner.getD (i + k) (some 0)).isNone with
   | some k =>
     have:=List.find?_some hf
     exact ⟨i + k,rfl,Er.mp this⟩
   | none =>
     cases m with
     | zero =>
       have h0:=List.find?_eq_none.mp hf 0 (Bn.mpr (by unfold SetTable.runEnd; split <;> omega))
       rw [Nat.add_zero] at h0
       exact absurd (Er.mpr he) h0
     | succ m =>
       exact oK fuel _ _ ⟨m,by omega,he⟩
def gX (owner:Array (Option Nat)):Nat:=owner.toList.countP (·.isSome)
theorem aQJ {owner:Array (Option Nat)} (h:gX owner < owner.size):∃ e,e < owner.size ∧ owner.getD e (some 0) = none:=by
 unfold gX at h
 have h1:¬ ∀ x ∈ owner.toList,(x.isSome) = true:=fun z => by
   rw [Ft.mpr z,Aw] at h
   omega
 have h2:∃ x ∈ owner.toList,¬ x.isSome = true:=by
   exact Classical.byContradiction fun z => h1 fun x hx => Classical.byContradiction fun y => z ⟨x,hx,y⟩
 obtain ⟨x,hx,hn⟩:=h2
 obtain ⟨e,he,ex⟩:=Co.mp hx
 rw [Aw] at he
 refine ⟨e,he,?_⟩
 rw [Ah,Aj he]
 have:owner[e] = x:=ex
 rw [this]
 cases x with
 | none => rfl
 | some _ => exact absurd rfl hn
theorem aXB {owner:Array (Option Nat)} {j k:Nat} (h:owner.getD j (some 0) = none):gX (owner.setIfInBounds j (some k)) = gX owner + 1:=by
 have hj:j < owner.size:=by
   refine Gj fun z => ?_
   rw [Ah,Cm z] at h
   cases h
 have hv:owner[j] = none:=by
   rw [Ah,Aj hj] at h
   exact h
 unfold gX
 rw [Array.toList_setIfInBounds,List.countP_set (by rw [Aw]; exact hj)]
 have e:owner.toList[j]'(by rw [Aw]; exact hj) = none:=hv
 rw [e]
 simp
structure Laid (mask n:Nat) (owner:Array (Option Nat)):Prop where
 size:owner.size = mask + 1
 many:gX owner = n
 low:∀ j k,owner.getD j none = some k → k < n
theorem tM {mask n:Nat} {owner:Array (Option Nat)} (F:Full (mask + 1)) (L:Laid mask n owner) (hn:n ≤ mask) (h:Int):∃ j,SetTable.layClean.free mask owner (SetTable.turns mask) (SetTable.bits h % (mask + 1)) (SetTable.bits h) = some j ∧ Laid mask (n + 1) (owner.setIfInBounds j (some n)):=by
 obtain ⟨e,he,hv⟩:=aQJ (owner:=owner) (by rw [L.many,L.size]; omega)
 rw [L.size] at he
 obtain ⟨m,hm,e1⟩:=cJ2 F (i:=SetTable.bits h % (mask + 1)) (Hv _ (Gi _)) (wM h) he
 obtain ⟨j,h1,h2⟩:=oK (SetTable.turns mask) (SetTable.bits h % (mask + 1)) (SetTable.bits h) ⟨m,by unfold SetTable.turns; omega,by rw [e1]; exact hv⟩
 refine ⟨j,h1,by rw [Array.size_setIfInBounds]; exact L.size,by rw [aXB h2,L.many],fun i k hk => ?_⟩
 rw [Ah,Array.getElem?_setIfInBounds] at hk
 split at hk
 · split at hk
   · cases hk; omega
   · cases hk
 · have:=L.low i k (by rw [Ah]; exact hk)
   omega
theorem zN {mask:Nat} (F:Full (mask + 1)) {hs:Array Int} (hn:hs.size ≤ mask + 1):∃ owner,SetTable.layClean mask hs = some owner ∧ Laid mask hs.size owner:=by
 have key:∀ (l:List Int) (owner:Array (Option Nat)) (k:Nat),Laid mask k owner → k + l.length ≤ mask + 1 → ∃ o,l.foldl (fun (acc:Option (Array (Option Nat) × Nat)) h => do
     let (owner,k) ← acc
     let j ← SetTable.layClean.free mask owner (SetTable.turns mask) (SetTable.bits h % (mask + 1)) (SetTable.bits h)
     pure (owner.setIfInBounds j (some k),k + 1)) (some (owner,k)) = some (o,k + l.length) ∧ Laid mask (k + l.length) o:=by
   intro l
   induction l with
   | nil => intro owner k L _; exact ⟨owner,rfl,L⟩
   | cons h r ih =>
     intro owner k L hk
     rw [Bi] at hk
     obtain ⟨j,h1,h2⟩:=tM F L (by omega) h
     obtain ⟨o,h3,h4⟩:=ih _ _ h2 (by omega)
     refine ⟨o,?_,by rw [Bi,show k + (r.length + 1) = k + 1 + r.length by omega]; exact h4⟩
     rw [List.foldl_cons,Bi,show k + (r.length + 1) = k + 1 + r.length by omega,← h3]
     refine Cr (fun x => r.foldl _ x) ?_
     show (SetTable.layClean.free mask owner (SetTable.turns mask) (SetTable.bits h % (mask + 1)) (SetTable.bits h)).bind _ = _
     rw [h1]
     rfl
 have L0:Laid mask 0 (Array.replicate (mask + 1) none):=by
   refine ⟨Array.size_replicate,?_,fun j k hk => ?_⟩
   · unfold gX
     rw [Array.toList_replicate,List.countP_replicate]
     rfl
   · rw [Ah,Array.getElem?_replicate] at hk
     split at hk <;> cases hk
 obtain ⟨o,h1,h2⟩:=key hs.toList _ 0 L0 (by rw [Aw]; omega)
 rw [Hr,Aw] at h2
 refine ⟨o,?_,h2⟩
 unfold SetTable.layClean
 rw [← Array.foldl_toList,h1]
 rfl
theorem rK (owner:Array (Option Nat)) (n:Nat) (hn:owner.size = n):((List.range n).filterMap fun j => (owner.getD j none).map (j,·)).length = gX owner:=by
 rw [List.length_filterMap_eq_countP]
 unfold gX
 have e:owner.toList = (List.range n).map fun j => owner.getD j none:=by
   refine List.ext_getElem (by rw [Ac,Cs,Aw,hn]) fun i h1 h2 => ?_
   rw [Eb,Gw,Ah,Aj (by rw [Aw] at h1; exact h1)]
   rfl
 rw [e,List.countP_map]
 refine List.countP_congr fun j _ => ?_
 show ((owner.getD j none).map (j,·)).isSome = true ↔ (owner.getD j none).isSome = true
 rw [Hg]
theorem cX3 {t:SetTable} {es:Array (Int × Value)} {wanted:Nat} (F:Full (SetTable.sizeAbove wanted)) (hp:0 < SetTable.sizeAbove wanted) (hs:es.size ≤ SetTable.sizeAbove wanted) :
   ∃ t' order,t.relaid (es.map (·.1)) wanted = some (t',order) ∧ t'.mask = SetTable.sizeAbove wanted - 1 ∧ t'.dummies = #[] ∧ t'.place.size = es.size ∧ (order.filterMap (es[·]?)).size = es.size ∧ ∀ e ∈ (order.filterMap (es[·]?)).toList,e ∈ es.toList:=by
 generalize hM:SetTable.sizeAbove wanted = M at *
 obtain ⟨mask,rfl⟩:∃ mask,M = mask + 1:=⟨M - 1,by omega⟩
 obtain ⟨owner,h1,h2⟩:=zN F (hs:=es.map (·.1)) (by rw [Array.size_map]; exact hs)
 rw [Array.size_map] at h2
 have hlen:=rK owner (mask + 1) h2.size
 rw [h2.many] at hlen
 unfold SetTable.relaid SetTable.laid
 rw [hM,Nat.add_sub_cancel,h1]
 refine ⟨_,_,rfl,rfl,rfl,?_,?_,?_⟩
 · show (List.toArray _).size = _
   rw [Bu,Ac,hlen]
 · rw [← Aw,Fp,List.length_filterMap_eq_countP,Ft.mpr,Fh,Ac,hlen]
   intro k hk
   rw [Fh] at hk
   obtain ⟨⟨j,k'⟩,hm,rfl⟩:=Bc.mp hk
   obtain ⟨i,_,hi⟩:=Ce.mp hm
   obtain ⟨k2,hk2,e⟩:=Ck.mp hi
   cases e
   have:=h2.low _ _ hk2
   show (es[k']?).isSome = true
   rw [Aj this]
   rfl
 · intro e he
   rw [Fp] at he
   obtain ⟨k,_,hk⟩:=Ce.mp he
   exact Ee.mpr (Ep hk)
theorem eJ {α:Type} (xs:Array α) (p:Nat) (x:α):(SetTable.insertAt xs p x).size = xs.size + 1:=by
 unfold SetTable.insertAt
 simp only [Array.size_append,Array.size_push,Array.size_extract]
 omega
theorem lR {α:Type} {xs:Array α} {p:Nat} {x e:α} (h:e ∈ (SetTable.insertAt xs p x).toList):e = x ∨ e ∈ xs.toList:=by
 unfold SetTable.insertAt at h
 rw [Array.toList_append,Array.toList_push,Fy] at h
 rcases Ci.mp h with z | z
 · rw [Ge] at z
   exact .inr (List.mem_of_mem_drop (Ez z))
 · rcases Be.mp z with y | y
   · exact .inl y
   · rw [Ge] at y
     exact .inr (List.mem_of_mem_drop (Ez y))
section
variable {prog:Program} {w:World} {A:Around} {E:Value → Shared → Prop} {s:Shared}
def bJ (i:Nat):Nat:=if i ≤ 4 then 7 else if i ≤ 18 then 31 else 127
theorem jW (i:Nat):Full (bJ i + 1) ∧ bJ i % 2 = 1:=by
 unfold bJ
 split
 · exact ⟨cJN,rfl⟩
 · split
   · exact ⟨cX1,rfl⟩
   · exact ⟨aJ2,rfl⟩
theorem yJ {a:Addr} {o:Obj} {items:Array Value} {n:Nat} {Q:Bool → Shared → Prop} (ho:s.heap.get? a = some o) (hc:o.cls = .type "tuple") (hd:o.data = .seq items n) (hi:∀ v ∈ items.toList,∃ k t,v = .int k t) (q:Q true s):wpAny (model prog w) A (hashByValue 8 (.ref a)) Q E s:=by
 rw [show (8:Nat) = 7 + 1 from rfl]
 unfold hashByValue
 have hT:s.TypeIs (.ref a) "tuple" := ⟨o,ho,hc⟩
 refine Aa (Eu hT PySem.F.slot_tuple_hash.lookup ?_)
 dsimp only
 refine Aa (wpAny_seqItems ho hd ?_)
 rw [Option.getD_some,← Array.forIn_toList]
 refine Aa (wpAny_forIn_list _ (fun rest r s' => r = (none,()) ∧ s' = s ∧ ∀ v ∈ rest,∃ k t,v = .int k t) _ ?_ ?_ _ _ ⟨rfl,rfl,hi⟩)
 · rintro x rest r s' ⟨rfl,rfl,hx⟩
   obtain ⟨k,t,rfl⟩:=hx _ An
   rw [hashByValue_scannable 7 rfl]
   refine Aa (Ae ?_)
   exact Ae ⟨rfl,rfl,fun v hv => hx v (Am _ hv)⟩
 · rintro r s' ⟨rfl,rfl,_⟩
   exact Ae q
theorem gG {t:SetTable} {n:Nat} (h1:t.place.size = n) (h2:t.dummies = #[]) (h3:n ≤ t.mask):t.fits n = true:=by
 unfold SetTable.fits SetTable.fill
 rw [h1,h2]
 simp
 omega
theorem eP {i:Nat} (h:i ≤ 76):i ≤ bJ i:=by
 unfold bJ
 split
 · omega
 · split <;> omega
theorem qQ {h:Heap} {S:Addr} {o:Obj} {es:Array (Int × Value)} {ep:Nat} {t:SetTable} (es':Array (Int × Value)) (t':SetTable) (ho:h.get? S = some o) (hx:o.ExactSet) (hd:o.data = .set es ep t) :
   ∃ o':Obj,(h.update S (Obj.putSet es' t')).get? S = some o' ∧ o'.ExactSet ∧ o'.data = .set es' (ep + 1) t' ∧ Heap.SameBut S h (h.update S (Obj.putSet es' t')):=by
 refine ⟨{ o with data:=.set es' (ep + 1) t' },?_,hx,rfl,?_⟩
 · rw [← putSet_of es' t' hd]
   exact Dj _ ho (by rw [putSet_of es' t' hd]; rfl)
 · exact ⟨Heap.size_update ..,fun b hb => Bj _ _ hb.symm⟩
theorem aZ9 {t:SetTable} {i:Nat} (h:t.mask = bJ i):Full (t.mask + 1) ∧ t.mask % 2 = 1:=by rw [h]; exact jW i
end
def rT (a b:Int):Int:=reduceHash (Builtin.Tuple.tupleHashOf [hashInt a,hashInt b])
theorem zW:∀ a b c d:_root_.Fin 8,rT a.val b.val = rT c.val d.val → a = c ∧ b = d:=by decide +kernel
theorem aXH {a b c d:Nat} (ha:a < 8) (hb:b < 8) (hc:c < 8) (hd:d < 8) (h:(a,b) ≠ (c,d)):rT a b ≠ rT c d:=fun z => by
 obtain ⟨e1,e2⟩:=zW ⟨a,ha⟩ ⟨b,hb⟩ ⟨c,hc⟩ ⟨d,hd⟩ z
 exact h (by rw [show a = c from Cr Fin.val e1,show b = d from Cr Fin.val e2])
theorem tkh {prog:Program} {w:World} (a b:Int):tupleKeyHash (PySem.intKind prog w) [a,b] = rT a b:=rfl
def kI (ws:List (Nat × Nat)):List (List Int):=ws.map fun w => [(w.1:Int),(w.2:Int)]
theorem lM {ws:List (Nat × Nat)} {i:Nat} {w:Nat × Nat} (h:ws[i]? = some w):(kI ws).getD i [] = [(w.1:Int),(w.2:Int)]:=by
 unfold kI
 rw [Ag,Al,h]
 rfl
theorem aZK {prog:Program} {w:World} {ws:List (Nat × Nat)} (h8:∀ w ∈ ws,w.1 < 8 ∧ w.2 < 8) (nd:ws.Nodup) {i j:Nat} (hj:j < i) (hi:i < ws.length):tupleKeyHash (PySem.intKind prog w) ((kI ws).getD j []) ≠ tupleKeyHash (PySem.intKind prog w) ((kI ws).getD i []):=by
 have hj':j < ws.length:=by omega
 rw [lM (Ab hj'),lM (Ab hi),tkh,tkh]
 have hn:ws[j] ≠ ws[i]:=Bm.mp nd j i hj' hi hj
 have a1:=h8 _ (Bh hj')
 have a2:=h8 _ (Bh hi)
 exact aXH a1.1 a1.2 a2.1 a2.2 hn
end L2
set_option maxHeartbeats 4000000
namespace L2
open PySem PySem.Spec PyProof.Rows
section
variable {X:Cx} {a b:Expr} {rest:List Expr} {pos:Pos} {ta tb:TE}
end
end L2
set_option maxHeartbeats 4000000
namespace L2
open PySem PySem.Spec PyProof.Rows
open PySem.AutoSeq1 (wpAny_loadPart')
open PySem.MeetsSeq PySem.MeetsSeq2 PySem.MeetsSeq3
section
variable {P:Program} {w:World} {A:Around} {E:Value → Shared → Prop} {s:Shared} {l b:Addr} {xs ys:Array Value} {as bs:List Int}
end
open PySem.W (KasT kas_sort kas_cmp kas_item kas_item_eq kas_range kas_runs kas_kind kas_st)
def vG {α:Type} (lt:Nat → Nat → Bool):KasT α → α
 | .ret a => a
 | .ask i j k => vG lt (k (lt i j))
def kok {α:Type} (lt:Nat → Nat → Bool) (n:Nat):KasT α → Bool
 | .ret _ => true
 | .ask i j k => decide (i < n) && decide (j < n) && kok lt n (k (lt i j))
theorem sL {α:Type} {cmp:Nat → Nat → (Bool → Shared → Prop) → Shared → Prop} {lt:Nat → Nat → Bool} {n:Nat} {Q:α → Shared → Prop} {s:Shared} (hc:∀ i j C,i < n → j < n → C (lt i j) s → cmp i j C s):∀ t:KasT α,kok lt n t = true → Q (vG lt t) s → t.kasWp cmp Q s
 | .ret _,_,h => h
 | .ask i j k,o,h => by
   simp only [kok,Bool.and_eq_true,decide_eq_true_eq] at o
   exact hc i j _ o.1.1 o.1.2 (sL hc (k (lt i j)) o.2 h)
def dO (lt:Nat → Nat → Bool) (vs:List Value):List Value:=if vs.length < 2 then vs else (vG lt (kas_sort vs.length)).toList.map fun i => vs.getD i .none
def xY (h:Heap) (a:Addr) (vs:List Value):Heap:=((h.update a (Obj.mapSeq fun _ => (#[]:Array Value))).push (seqObj "tuple" vs.toArray 0)).push (seqObj "list" #[] 0)
theorem aQQ {h:Heap} {a b:Addr} {vs:List Value} {o:Obj} (ne:b ≠ a) (e:h.get? b = some o):(xY h a vs).get? b = some o :=
 Ad _ (Ad _ (((Cw h a _).2 b ne).trans e))
theorem bQW {h:Heap} {a:Addr} {vs:List Value} {n:Nat} (e:h.get? a = some (seqObj "list" vs.toArray n)):∃ c,(h.update a (Obj.mapSeq fun _ => (#[]:Array Value))).get? a = some (seqObj "list" #[] c) ∧ (xY h a vs).get? a = some (seqObj "list" #[] c) :=
 ⟨_,get?_update_seq e fun _ => #[],Ad _ (Ad _ (get?_update_seq e fun _ => #[]))⟩
theorem yV {lt:Nat → Nat → Bool} {vs:List Value} {p:Array Nat} (h2:¬ vs.length < 2) (e:p = vG lt (kas_sort vs.length)) (z:p.size = vs.length):(dO lt vs).length = vs.length ∧ dO lt vs = p.toList.map fun i => vs.getD i .none:=by
 unfold dO
 rw [if_neg h2,← e]
 exact ⟨by rw [Ac,Aw,z],rfl⟩
theorem qI (vs:List Value):(vs.toArray.zip vs.toArray).map (·.2) = vs.toArray:=Array.toList_inj.mp (by simp [List.map_snd_zip])
theorem zR (vs:List Value) (p:Array Nat):(p.map (kas_item (pairsOf vs))).map (·.2) = (p.toList.map fun i => vs.getD i .none).toArray:=by
 cases p with
 | mk l => simp only [List.map_toArray,List.map_map]; congr 1; exact List.map_congr_left fun i _ => congrArg Prod.snd (kas_item_eq vs i)
section
variable {prog:Program} {w:World} {A:Around} {E:Value → Shared → Prop} {s:Shared}
end
theorem oO:∀ {ps:List Addr} {us:List Value},Vals (ps.map V.ref) us → us = ps.map Value.ref
 | [],_,.nil => rfl
 | p :: ps,_,.cons r t => by cases r; rw [oO t]; rfl
theorem oY {α:Type} (f:α → Addr):∀ l:List α,Vals (l.map fun i => V.ref (f i)) (l.map fun i => Value.ref (f i))
 | [] => .nil
 | _ :: l => .cons rfl (oY f l)
end L2
set_option maxHeartbeats 4000000
namespace L2
open PySem PySem.Spec PyProof.Rows
end L2
set_option maxHeartbeats 1000000
namespace L2
open PySem
theorem sQ {t u:SetTable} (e:t.mask = u.mask):∀ (n:Nat) (p:SetTable.Probe),adv t p n = adv u p n
 | 0,_ => rfl
 | n + 1,p => by
   show adv t (t.advance p) n = adv u (u.advance p) n
   rw [show t.advance p = u.advance p by unfold SetTable.advance; rw [e]]
   exact sQ e n _
def rM (mask:Nat):SetTable:={ SetTable.fresh 0 0 false with mask:=mask }
def plc (mask:Nat) (h:Int) (n:Nat):Nat:=(adv (rM mask) (fP mask (SetTable.bits h % (mask + 1)) (SetTable.bits h) none) n).j
theorem pM (t:SetTable) (h:Int) (n:Nat):(adv t (t.probeStart h) n).j = plc t.mask h n:=by
 unfold plc
 rw [sQ (show t.mask = (rM t.mask).mask from rfl)]
 rfl
def Rch (mask:Nat) (O:Nat → (Int × Value) → Prop):Prop:=∀ j e,O j e → ∃ n,n < 10 * SetTable.turns mask ∧ plc mask e.1 n = j ∧ ∀ n',n' < n → ∃ e',O (plc mask e.1 n') e'
theorem Rch.add {mask:Nat} {O O':Nat → (Int × Value) → Prop} {e0:Int × Value} {n0:Nat} (R:Rch mask O) (sub:∀ j e,O j e → O' j e) (new:∀ j e,O' j e → O j e ∨ (e = e0 ∧ j = plc mask e0.1 n0)) (hn:n0 < 10 * SetTable.turns mask) (hne:∀ n',n' < n0 → ∃ e',O (plc mask e0.1 n') e'):Rch mask O':=fun j e h => by
 rcases new j e h with z | ⟨rfl,rfl⟩
 · obtain ⟨n,h1,h2,h3⟩:=R j e z
   exact ⟨n,h1,h2,fun n' hn' => (h3 n' hn').elim fun e' z => ⟨e',sub _ _ z⟩⟩
 · exact ⟨n0,hn,rfl,fun n' hn' => (hne n' hn').elim fun e' z => ⟨e',sub _ _ z⟩⟩
def Ris (xs:Array Nat):Prop:=∀ (i k a b:Nat),i < k → xs[i]? = some a → xs[k]? = some b → a < b
def xN (xs:Array Nat) (j p:Nat):Prop:=p ≤ xs.size ∧ (∀ k v,k < p → xs[k]? = some v → v < j) ∧ ∀ k v,p ≤ k → xs[k]? = some v → j ≤ v
theorem lS {xs:Array Nat} {j:Nat} (R:Ris xs):∀ (fuel lo hi:Nat),hi - lo ≤ fuel → lo ≤ hi → hi ≤ xs.size → (∀ k v,k < lo → xs[k]? = some v → v < j) → (∀ k v,hi ≤ k → xs[k]? = some v → j ≤ v) → xN xs j (SetTable.below.go xs j fuel lo hi)
 | 0,lo,hi,h1,h2,h3,h4,h5 => by
   have e:hi = lo:=by omega
   subst e
   exact ⟨h3,h4,h5⟩
 | fuel + 1,lo,hi,h1,h2,h3,h4,h5 => by
   unfold SetTable.below.go
   by_cases h:lo < hi
   · rw [if_pos h]
     have hm:(lo + hi) / 2 < xs.size:=by omega
     have em:xs[(lo + hi) / 2]? = some xs[(lo + hi) / 2]:=Aj hm
     have eg:xs.getD ((lo + hi) / 2) j = xs[(lo + hi) / 2]:=by rw [Ah,em]; rfl
     dsimp only
     rw [eg]
     by_cases hv:xs[(lo + hi) / 2] < j
     · rw [if_pos hv]
       refine lS R fuel _ _ (by omega) (by omega) h3 (fun k v hk ek => ?_) h5
       by_cases e:k = (lo + hi) / 2
       · rw [e,em] at ek; cases ek; exact hv
       · have:=R k _ v _ (by omega) ek em; omega
     · rw [if_neg hv]
       refine lS R fuel _ _ (by omega) (by omega) (by omega) h4 (fun k v hk ek => ?_)
       by_cases e:k = (lo + hi) / 2
       · rw [e,em] at ek; cases ek; omega
       · have:=R _ k _ v (show (lo + hi) / 2 < k by omega) em ek; omega
   · rw [if_neg h]
     have e:hi = lo:=by omega
     subst e
     exact ⟨h3,h4,h5⟩
theorem eQ {xs:Array Nat} (R:Ris xs) (j:Nat):xN xs j (SetTable.below xs j) :=
 lS R xs.size 0 xs.size (by omega) (Cq _) (Ai _) (fun k v hk => absurd hk (Ey _)) fun k v hk ek => by
   rw [Cm hk] at ek; cases ek
theorem aXU {xs:Array Nat} (R:Ris xs) {i j:Nat} (h:xs[i]? = some j):SetTable.below xs j = i:=by
 obtain ⟨h1,h2,h3⟩:=eQ R j
 generalize SetTable.below xs j = p at h1 h2 h3
 by_cases e:i < p
 · have:=h2 i j e h; omega
 · by_cases e':p < i
   · have hp:p < xs.size:=by have:=(Bx.mp h).1; omega
     have ep:=Aj hp
     have a:=h3 p _ (Ai _) ep
     have b:=R p i _ _ e' ep h
     omega
   · omega
theorem lJ {t:SetTable} (R:Ris t.place) {i j:Nat} (h:t.place[i]? = some j):t.slot j = .live i:=by
 unfold SetTable.slot
 rw [aXU R h]
 simp only [h,beq_self_eq_true,if_true]
theorem bQU {t:SetTable} {j i:Nat} (h:t.slot j = .live i):t.place[i]? = some j:=by
 unfold SetTable.slot at h
 simp only at h
 split at h
 · rename_i z
   cases h
   exact eq_of_beq z
 · split at h <;> cases h
def Occ (t:SetTable) (es:Array (Int × Value)) (j:Nat) (e:Int × Value):Prop:=∃ i:Nat,t.place[i]? = some j ∧ es[i]? = some e
theorem bL {α:Type} (xs:Array α) {p:Nat} (x:α) (hp:p ≤ xs.size) (i:Nat):(SetTable.insertAt xs p x)[i]? = if i < p then xs[i]? else if i = p then some x else xs[i - 1]? := by
 have e:(SetTable.insertAt xs p x).toList = xs.toList.take p ++ x :: xs.toList.drop p:=by
   unfold SetTable.insertAt
   rw [Array.toList_append,Array.toList_push,Ge,Ge,Fy]
   simp only [List.extract_eq_drop_take,Nat.sub_zero,List.drop_zero,List.singleton_append]
   rw [show xs.size - p = (xs.toList.drop p).length by rw [Fi,Aw],Cj]
 rw [← Bz,e]
 have hl:(xs.toList.take p).length = p:=by rw [By,Aw]; omega
 by_cases h:i < p
 · rw [if_pos h,Ba (by omega),List.getElem?_take,if_pos h,Bz]
 · rw [if_neg h,Bf (by omega),hl]
   by_cases h2:i = p
   · rw [if_pos h2,h2,Nat.sub_self]
     rfl
   · rw [if_neg h2,show i - p = (i - p - 1) + 1 by omega,List.getElem?_cons_succ,List.getElem?_drop,Bz,show p + (i - p - 1) = i - 1 by omega]
theorem xG {t:SetTable} {es:Array (Int × Value)} {p j0:Nat} {e0:Int × Value} (hp:p ≤ t.place.size) (hs:t.place.size = es.size) (j:Nat) (e:Int × Value) :
   (∃ i:Nat,(SetTable.insertAt t.place p j0)[i]? = some j ∧ (SetTable.insertAt es p e0)[i]? = some e) ↔ (Occ t es j e ∨ (j = j0 ∧ e = e0)):=by
 constructor
 · rintro ⟨i,h1,h2⟩
   rw [bL _ _ hp] at h1
   rw [bL _ _ (by omega)] at h2
   by_cases h:i < p
   · rw [if_pos h] at h1 h2; exact .inl ⟨i,h1,h2⟩
   · rw [if_neg h] at h1 h2
     by_cases h':i = p
     · rw [if_pos h'] at h1 h2; cases h1; cases h2; exact .inr ⟨rfl,rfl⟩
     · rw [if_neg h'] at h1 h2; exact .inl ⟨_,h1,h2⟩
 · rintro (⟨i,h1,h2⟩ | ⟨rfl,rfl⟩)
   · by_cases h:i < p
     · exact ⟨i,by rw [bL _ _ hp,if_pos h]; exact h1,by rw [bL _ _ (by omega),if_pos h]; exact h2⟩
     · exact ⟨i + 1,by rw [bL _ _ hp,if_neg (by omega),if_neg (by omega)]; exact h1,by rw [bL _ _ (by omega),if_neg (by omega),if_neg (by omega)]; exact h2⟩
   · exact ⟨p,by rw [bL _ _ hp,if_neg (Cv _),if_pos rfl],by rw [bL _ _ (by omega),if_neg (Cv _),if_pos rfl]⟩
theorem bXN {xs:Array Nat} {j0:Nat} (R:Ris xs) (hn:∀ i:Nat,xs[i]? ≠ some j0):Ris (SetTable.insertAt xs (SetTable.below xs j0) j0):=by
 obtain ⟨h1,h2,h3⟩:=eQ R j0
 generalize SetTable.below xs j0 = p at h1 h2 h3
 have h3':∀ k v,p ≤ k → xs[k]? = some v → j0 < v:=fun k v hk ek => by
   have:=h3 k v hk ek
   have:v ≠ j0:=fun z => hn k (by rw [ek,z])
   omega
 intro i k a b hik ea eb
 rw [bL _ _ h1] at ea eb
 by_cases hi:i < p
 · rw [if_pos hi] at ea
   by_cases hk:k < p
   · rw [if_pos hk] at eb; exact R i k a b hik ea eb
   · rw [if_neg hk] at eb
     have:=h2 i a hi ea
     by_cases hk':k = p
     · rw [if_pos hk'] at eb; cases eb; exact this
     · rw [if_neg hk'] at eb; have:=h3' _ b (by omega) eb; omega
 · rw [if_neg hi] at ea
   rw [if_neg (by omega),if_neg (by omega)] at eb
   by_cases hi':i = p
   · rw [if_pos hi'] at ea; cases ea; exact h3' _ b (by omega) eb
   · rw [if_neg hi'] at ea; exact R _ _ a b (by omega) ea eb
theorem tL {t:SetTable} {f:Nat → Int} {h:Int}:∀ (fuel:Nat) (p:SetTable.Probe),(∃ n,n < fuel ∧ (∃ i,t.slot (adv t p n).j = .live i ∧ f i = h) ∧ ∀ n',n' < n → ∃ i,t.slot (adv t p n').j = .live i) → ∃ j i next,SetTable.probe.go t f h fuel p = some (.candidate j i next) ∧ t.slot j = .live i ∧ f i = h
 | 0,p,⟨n,hn,_⟩ => by omega
 | fuel + 1,p,⟨n,hn,he,hl⟩ => by
   have hlive:∃ i,t.slot p.j = .live i:=by
     cases n with
     | zero => exact he.elim fun i z => ⟨i,z.1⟩
     | succ n => exact hl 0 (Gi _)
   obtain ⟨i,hi⟩:=hlive
   unfold SetTable.probe.go
   rw [hi]
   simp only
   by_cases ef:f i = h
   · rw [if_pos (by rw [Gc]; exact ef)]
     exact ⟨_,_,_,rfl,hi,ef⟩
   · rw [if_neg (by rw [Gc]; exact ef)]
     cases n with
     | zero =>
       obtain ⟨i2,h2,h3⟩:=he
       rw [show t.slot p.j = .live i2 from h2] at hi
       cases hi
       exact absurd h3 ef
     | succ n => exact tL fuel (t.advance p) ⟨n,by omega,he,fun n' hn' => hl (n' + 1) (by omega)⟩
theorem oR {t:SetTable} {f:Nat → Int} {h:Int} (hd:t.dummies = #[]):∀ (fuel:Nat) (p:SetTable.Probe) (j:Nat),SetTable.probe.go t f h fuel p = some (.empty j none) → ∃ n,n < fuel ∧ (adv t p n).j = j ∧ t.slot j = .empty ∧ ∀ n',n' < n → ∃ i,t.slot (adv t p n').j = .live i
 | 0,p,j,e => by cases e
 | fuel + 1,p,j,e => by
   unfold SetTable.probe.go at e
   cases hs:t.slot p.j with
   | empty =>
     rw [hs] at e
     simp only [Option.some.injEq,SetTable.Met.empty.injEq] at e
     refine ⟨0,Gi _,e.1,?_,fun n' hn' => absurd hn' (Ey _)⟩
     rw [← e.1]
     exact hs
   | dummy => exact absurd hs (mH hd)
   | live i =>
     rw [hs] at e
     simp only at e
     split at e
     · cases e
     · obtain ⟨n,h1,h2,h3,h4⟩:=oR hd fuel (t.advance p) j e
       refine ⟨n + 1,by omega,h2,h3,fun n' hn' => ?_⟩
       cases n' with
       | zero => exact ⟨i,hs⟩
       | succ n' => exact h4 n' (by omega)
theorem wF (t:SetTable):∀ (k:Nat) (p:SetTable.Probe),k ≤ p.more → (adv t p k).j = p.j + k
 | 0,p,_ => rfl
 | k + 1,p,h => by
   show (adv t (t.advance p) k).j = _
   have e:t.advance p = { p with j:=p.j + 1,more:=p.more - 1 }:=by
     unfold SetTable.advance
     rw [if_pos (by omega)]
   rw [e,wF t k _ (by show k ≤ p.more - 1; omega)]
   show p.j + 1 + k = _
   omega
theorem tP {mask:Nat} {owner:Array (Option Nat)}:∀ (fuel i per j:Nat),SetTable.layClean.free mask owner fuel i per = some j → ∃ n,n < 10 * fuel ∧ (adv (rM mask) (fP mask i per none) n).j = j ∧ owner.getD j (some 0) = none ∧ ∀ n',n' < n → owner.getD (adv (rM mask) (fP mask i per none) n').j (some 0) ≠ none
 | 0,i,per,j,e => by cases e
 | fuel + 1,i,per,j,e => by
   unfold SetTable.layClean.free at e
   have hle:=vZ mask i
   have hge:i ≤ SetTable.runEnd mask i:=by unfold SetTable.runEnd; split <;> omega
   have hrun:∀ k,k ≤ SetTable.runEnd mask i - i → (adv (rM mask) (fP mask i per none) k).j = i + k:=fun k hk => wF _ k _ hk
   cases hf:(List.range (SetTable.runEnd mask i + 1 - i)).find? fun k => (owner.getD (i + k) (some 0)).isNone with
   | some k =>
     rw [hf] at e
     cases e
     obtain ⟨h1,h2,h3⟩:=List.find?_range_eq_some.mp hf
     have hk:k < SetTable.runEnd mask i + 1 - i:=Bn.mp h2
     refine ⟨k,by omega,hrun k (by omega),Er.mp h1,fun n' hn' => ?_⟩
     rw [hrun n' (by omega)]
     have:=h3 n' hn'
     intro z
     rw [z] at this
     cases this
   | none =>
     rw [hf] at e
     have hall:∀ k,k ≤ SetTable.runEnd mask i - i → owner.getD (i + k) (some 0) ≠ none:=fun k hk z => by
       have:=List.find?_eq_none.mp hf k (Bn.mpr (by omega))
       exact this (Er.mpr z)
     obtain ⟨n,h1,h2,h3,h4⟩:=tP fuel _ _ j e
     have hre:=pN (rM mask) (SetTable.runEnd mask i - i) (fP mask i per none) rfl
     refine ⟨(SetTable.runEnd mask i - i + 1) + n,by omega,?_,h3,fun n' hn' => ?_⟩
     · rw [kQ,hre]
       exact h2
     · by_cases hk:n' ≤ SetTable.runEnd mask i - i
       · rw [hrun n' hk]; exact hall n' hk
       · rw [show n' = (SetTable.runEnd mask i - i + 1) + (n' - (SetTable.runEnd mask i - i + 1)) by omega,kQ,hre]
         exact h4 _ (by omega)
structure LaidR (mask n:Nat) (hs:Nat → Int) (owner:Array (Option Nat)):Prop where
 laid:Laid mask n owner
 all:∀ k,k < n → ∃ j,owner.getD j none = some k
 way:∀ j k,owner.getD j none = some k → ∃ m,m < 10 * SetTable.turns mask ∧ plc mask (hs k) m = j ∧ ∀ m',m' < m → ∃ k',owner.getD (plc mask (hs k) m') none = some k'
theorem getD_none {owner:Array (Option Nat)} {j:Nat} (h:owner.getD j (some 0) = none):j < owner.size ∧ owner.getD j none = none:=by
 have hj:j < owner.size:=by
   refine Gj fun z => ?_
   rw [Ah,Cm z] at h
   cases h
 rw [Ah,Aj hj] at h ⊢
 exact ⟨hj,h⟩
theorem getD_some {owner:Array (Option Nat)} {j:Nat} (hj:j < owner.size) (h:owner.getD j (some 0) ≠ none):∃ k,owner.getD j none = some k:=by
 rw [Ah,Aj hj] at h ⊢
 cases e:owner[j] with
 | none => rw [e] at h; exact absurd rfl h
 | some k => exact ⟨k,rfl⟩
theorem iX {owner:Array (Option Nat)} {j k i:Nat} (hj:j < owner.size):(owner.setIfInBounds j (some k)).getD i none = if i = j then some k else owner.getD i none:=by
 rw [Ah,Array.getElem?_setIfInBounds,Ah]
 by_cases e:j = i
 · subst e
   rw [if_pos rfl,if_pos hj,if_pos rfl]
   rfl
 · rw [if_neg e,if_neg fun z => e z.symm]
theorem cXR {mask:Nat} (h:Int):∀ n,plc mask h n < mask + 1:=by
 have key:∀ (n:Nat) (p:SetTable.Probe),p.j + p.more < mask + 1 → (adv (rM mask) p n).j + (adv (rM mask) p n).more < mask + 1:=fun n => by
   induction n with
   | zero => exact fun p hp => hp
   | succ n ih =>
     intro p hp
     refine ih _ ?_
     unfold SetTable.advance
     split
     · show p.j + 1 + (p.more - 1) < _; omega
     · show (SetTable.leap mask p.i p.perturb).1 + (SetTable.runEnd mask (SetTable.leap mask p.i p.perturb).1 - (SetTable.leap mask p.i p.perturb).1) < mask + 1
       have:(SetTable.leap mask p.i p.perturb).1 < mask + 1:=Hv _ (Gi _)
       unfold SetTable.runEnd
       split <;> omega
 intro n
 have:=key n (fP mask (SetTable.bits h % (mask + 1)) (SetTable.bits h) none) (by
   show SetTable.bits h % (mask + 1) + (SetTable.runEnd mask (SetTable.bits h % (mask + 1)) - SetTable.bits h % (mask + 1)) < mask + 1
   have:SetTable.bits h % (mask + 1) < mask + 1:=Hv _ (Gi _)
   unfold SetTable.runEnd
   split <;> omega)
 exact Gu (Gg _ _) this
theorem aQM {mask n:Nat} {hs:Nat → Int} {owner:Array (Option Nat)} (F:Full (mask + 1)) (L:LaidR mask n hs owner) (hn:n ≤ mask):∃ j,SetTable.layClean.free mask owner (SetTable.turns mask) (SetTable.bits (hs n) % (mask + 1)) (SetTable.bits (hs n)) = some j ∧ LaidR mask (n + 1) hs (owner.setIfInBounds j (some n)):=by
 obtain ⟨j,h1,h2⟩:=tM F L.laid hn (hs n)
 refine ⟨j,h1,h2,fun k hk => ?_,fun i k hi => ?_⟩
 all_goals
   obtain ⟨m,w1,w2,w3,w4⟩:=tP _ _ _ _ h1
   obtain ⟨hj,hjn⟩:=getD_none w3
 · by_cases e:k = n
   · exact ⟨j,by rw [iX hj,if_pos rfl,e]⟩
   · obtain ⟨i,hi⟩:=L.all k (by omega)
     refine ⟨i,?_⟩
     rw [iX hj,if_neg fun z => by rw [z,hjn] at hi; cases hi]
     exact hi
 · rw [iX hj] at hi
   have up:∀ i k',owner.getD i none = some k' → ∃ k2,(owner.setIfInBounds j (some n)).getD i none = some k2:=fun i k' e => by
     refine ⟨k',?_⟩
     rw [iX hj,if_neg fun z => by rw [z,hjn] at e; cases e]
     exact e
   by_cases e:i = j
   · rw [if_pos e] at hi
     cases hi
     refine ⟨m,w1,by rw [e]; exact w2,fun m' hm' => ?_⟩
     obtain ⟨k',hk'⟩:=getD_some (by rw [L.laid.size]; exact cXR (hs n) m') (w4 m' hm')
     exact up _ _ hk'
   · rw [if_neg e] at hi
     obtain ⟨m2,a1,a2,a3⟩:=L.way i k hi
     exact ⟨m2,a1,a2,fun m' hm' => (a3 m' hm').elim fun k' z => up _ _ z⟩
theorem vK {mask:Nat} (F:Full (mask + 1)) {hs:Array Int} (hn:hs.size ≤ mask + 1):∃ owner,SetTable.layClean mask hs = some owner ∧ LaidR mask hs.size (fun k => hs.getD k 0) owner:=by
 have key:∀ (l:List Int) (owner:Array (Option Nat)) (k:Nat),hs.toList.drop k = l → LaidR mask k (fun k => hs.getD k 0) owner → k + l.length ≤ mask + 1 → ∃ o,l.foldl (fun (acc:Option (Array (Option Nat) × Nat)) h => do
     let (owner,k) ← acc
     let j ← SetTable.layClean.free mask owner (SetTable.turns mask) (SetTable.bits h % (mask + 1)) (SetTable.bits h)
     pure (owner.setIfInBounds j (some k),k + 1)) (some (owner,k)) = some (o,k + l.length) ∧ LaidR mask (k + l.length) (fun k => hs.getD k 0) o:=by
   intro l
   induction l with
   | nil => intro owner k _ L _; exact ⟨owner,rfl,L⟩
   | cons h r ih =>
     intro owner k hd L hk
     rw [Bi] at hk
     have hkl:k < hs.toList.length:=by
       refine Gj fun z => ?_
       rw [List.drop_eq_nil_of_le z] at hd
       cases hd
     rw [List.drop_eq_getElem_cons hkl] at hd
     obtain ⟨hd1,hd2⟩:=List.cons.inj hd
     have eh:hs.getD k 0 = h:=by
       rw [Ah,Aj (by rw [Aw] at hkl; exact hkl)]
       exact hd1
     obtain ⟨j,h1,h2⟩:=aQM F L (by omega)
     rw [eh] at h1
     obtain ⟨o,h3,h4⟩:=ih _ _ hd2 h2 (by omega)
     refine ⟨o,?_,by rw [Bi,show k + (r.length + 1) = k + 1 + r.length by omega]; exact h4⟩
     rw [List.foldl_cons,Bi,show k + (r.length + 1) = k + 1 + r.length by omega,← h3]
     refine Cr (fun x => r.foldl _ x) ?_
     show (SetTable.layClean.free mask owner (SetTable.turns mask) (SetTable.bits h % (mask + 1)) (SetTable.bits h)).bind _ = _
     rw [h1]
     rfl
 have L0:LaidR mask 0 (fun k => hs.getD k 0) (Array.replicate (mask + 1) none):=by
   have hz:∀ j,(Array.replicate (mask + 1) (none:Option Nat)).getD j none = none:=fun j => by
     rw [Ah,Array.getElem?_replicate]
     split <;> rfl
   refine ⟨⟨Array.size_replicate,?_,fun j k hk => ?_⟩,fun k hk => absurd hk (Ey _),fun j k hk => ?_⟩
   · unfold gX
     rw [Array.toList_replicate,List.countP_replicate]
     rfl
   · rw [hz] at hk; cases hk
   · rw [hz] at hk; cases hk
 obtain ⟨o,h1,h2⟩:=key hs.toList _ 0 rfl L0 (by rw [Aw]; omega)
 rw [Hr,Aw] at h2
 refine ⟨o,?_,h2⟩
 unfold SetTable.layClean
 rw [← Array.foldl_toList,h1]
 rfl
theorem fU {β:Type} (g:Nat → Option β):∀ n,((List.range n).filterMap fun j => (g j).map (j,·)).Pairwise (fun a b => a.1 < b.1)
 | 0 => .nil
 | n + 1 => by
   rw [Dp,Cf]
   refine List.pairwise_append.mpr ⟨fU g n,?_,fun a ha b hb => ?_⟩
   · cases e:g n with
     | none => simp [e]
     | some k => simp [e]
   · obtain ⟨j,hj,ej⟩:=Ce.mp ha
     obtain ⟨k,hk,ek⟩:=Ce.mp hb
     rw [Aq.mp hk] at ek
     obtain ⟨_,_,rfl⟩:=Ck.mp ej
     obtain ⟨_,_,rfl⟩:=Ck.mp ek
     exact Bn.mp hj
theorem lV {t:SetTable} {es:Array (Int × Value)} {wanted:Nat} (F:Full (SetTable.sizeAbove wanted)) (hp:0 < SetTable.sizeAbove wanted) (hs:es.size ≤ SetTable.sizeAbove wanted) :
   ∃ t' order,t.relaid (es.map (·.1)) wanted = some (t',order) ∧ t'.mask = SetTable.sizeAbove wanted - 1 ∧ t'.dummies = #[] ∧ t'.place.size = es.size ∧ (order.filterMap (es[·]?)).size = es.size ∧ Ris t'.place ∧ (∀ e,e ∈ (order.filterMap (es[·]?)).toList ↔ e ∈ es.toList) ∧ Rch t'.mask (Occ t' (order.filterMap (es[·]?))):=by
 generalize hM:SetTable.sizeAbove wanted = M at *
 obtain ⟨mask,rfl⟩:∃ mask,M = mask + 1:=⟨M - 1,by omega⟩
 obtain ⟨owner,h1,h2⟩:=vK F (hs:=es.map (·.1)) (by rw [Array.size_map]; exact hs)
 rw [Array.size_map] at h2
 have hlen:=rK owner (mask + 1) h2.laid.size
 rw [h2.laid.many] at hlen
 unfold SetTable.relaid SetTable.laid
 rw [hM,Nat.add_sub_cancel,h1]
 have hris:=fU (fun j => owner.getD j none) (mask + 1)
 have hmem:∀ j k,(j,k) ∈ ((List.range (mask + 1)).filterMap fun j => (owner.getD j none).map (j,·)) ↔ owner.getD j none = some k:=fun j k => by
   rw [Ce]
   constructor
   · rintro ⟨i,_,hi⟩
     obtain ⟨k2,hk2,e⟩:=Ck.mp hi
     cases e
     exact hk2
   · intro e
     refine ⟨j,Bn.mpr ?_,by rw [e]; rfl⟩
     rw [← h2.laid.size]
     refine Gj fun z => ?_
     rw [Ah,Cm z] at e
     cases e
 generalize hlive:((List.range (mask + 1)).filterMap fun j => (owner.getD j none).map (j,·)) = live at hlen hris hmem
 have hlow:∀ x ∈ live,x.2 < es.size:=fun x hx => h2.laid.low _ _ ((hmem x.1 x.2).mp hx)
 have hfm:∀ l:List (Nat × Nat),(∀ x ∈ l,x.2 < es.size) → (l.map (·.2)).filterMap (es[·]?) = l.map fun x => es.getD x.2 (0,.none):=fun l => by
   induction l with
   | nil => intro _; rfl
   | cons x r ih =>
     intro hx
     have e:es[x.2]? = some (es.getD x.2 (0,.none)):=by
       rw [Ah,Aj (hx x An)]
       rfl
     rw [Ay,Fe e,Ay,ih fun y hy => hx y (Am _ hy)]
 have hes:((live.map (·.2)).toArray.filterMap (es[·]?)).toList = live.map fun x => es.getD x.2 (0,.none):=by
   rw [Fp,Fh]
   exact hfm live hlow
 have bX:∀ (i:Nat) e,((live.map (·.2)).toArray.filterMap (es[·]?))[i]? = some e ↔ (live[i]?).map (fun x => es.getD x.2 (0,.none)) = some e:=fun i e => by
   rw [← Bz,hes,Al]
 have hpl:∀ i:Nat,(live.map (·.1)).toArray[i]? = (live[i]?).map (·.1):=fun i => by
   rw [List.getElem?_toArray,Al]
 have hocc:∀ j k,owner.getD j none = some k → ∃ i:Nat,(live.map (·.1)).toArray[i]? = some j ∧ ((live.map (·.2)).toArray.filterMap (es[·]?))[i]? = some (es.getD k (0,.none)):=fun j k hk => by
   obtain ⟨i,hi⟩:=Dw.mp ((hmem j k).mpr hk)
   exact ⟨i,by rw [hpl,hi]; rfl,(bX i _).mpr (by rw [hi]; rfl)⟩
 refine ⟨_,_,rfl,rfl,rfl,?_,?_,?_,?_,?_⟩
 · show (List.toArray _).size = _
   rw [Bu,Ac,hlive,hlen]
 · rw [hlive,← Aw,hes,Ac,hlen]
 · rw [hlive]
   intro i k a b hik ea eb
   rw [hpl] at ea eb
   obtain ⟨x,hx,rfl⟩:=Ck.mp ea
   obtain ⟨y,hy,rfl⟩:=Ck.mp eb
   obtain ⟨hi',e1⟩:=Af.mp hx
   obtain ⟨hk',e2⟩:=Af.mp hy
   have:=Bm.mp hris i k hi' hk' hik
   rw [e1,e2] at this
   exact this
 · rw [hlive]
   intro e
   rw [hes]
   constructor
   · intro he
     obtain ⟨x,hx,rfl⟩:=Bc.mp he
     rw [Ah,Aj (hlow x hx)]
     exact Dm (hlow x hx)
   · intro he
     obtain ⟨k,hk,rfl⟩:=Array.mem_iff_getElem.mp (Ee.mp he)
     obtain ⟨j,hj⟩:=h2.all k hk
     refine Bc.mpr ⟨(j,k),(hmem j k).mpr hj,?_⟩
     show es.getD k (0,.none) = _
     rw [Ah,Aj hk]
     rfl
 · rw [hlive]
   rintro j e ⟨i,e1,e2⟩
   replace e1:(live.map (·.1)).toArray[i]? = some j:=e1
   rw [hpl] at e1
   obtain ⟨x,hx,rfl⟩:=Ck.mp e1
   rw [bX,hx] at e2
   obtain rfl:es.getD x.2 (0,.none) = e:=Bo e2
   obtain ⟨m,w1,w2,w3⟩:=h2.way x.1 x.2 ((hmem x.1 x.2).mp (As hx))
   have eh:(es.map (·.1)).getD x.2 0 = (es.getD x.2 (0,.none)).1:=by
     have hl:=hlow x (As hx)
     rw [Ah,Array.getElem?_map,Aj hl,Ah,Aj hl]
     rfl
   rw [eh] at w2 w3
   exact ⟨m,w1,w2,fun m' hm' => by
     obtain ⟨k',hk'⟩:=w3 m' hm'
     obtain ⟨i',z1,z2⟩:=hocc _ _ hk'
     exact ⟨_,i',z1,z2⟩⟩
section
variable {prog:Program} {w:World} {A:Around} {E:Value → Shared → Prop} {s:Shared}
def sth (es:Array (Int × Value)) (i:Nat):Int:=(es[i]?.map (·.1)).getD 0
theorem pG {es:Array (Int × Value)} {i:Nat} {e:Int × Value} (h:es[i]? = some e):sth es i = e.1:=by
 unfold sth
 rw [h]
 rfl
theorem vL {a:Addr} {o:Obj} {es:Array (Int × Value)} {ep:Nat} {t:SetTable} {x:Value} {h:Int} {Q:SetFound → Shared → Prop} (ho:s.heap.get? a = some o) (hd:o.data = .set es ep t) (hf:t.fits es.size = true) (F:Full (t.mask + 1)) (hod:t.mask % 2 = 1) (hdm:t.dummies = #[]) (hs:t.place.size = es.size) (hle:es.size ≤ t.mask)
   (hne:∀ e ∈ es.toList,e.1 ≠ h) (q:∀ j,t.probe (sth es) h (t.probeStart h) = some (.empty j none) → Q (.free j false) s):wpAny (model prog w) A (setSearch a x h true) Q E s:=by
 have hp:∀ f:Nat → Int,(f = sth es) → ∃ j,t.probe f h (t.probeStart h) = some (.empty j none):=fun f hfe => by
   subst hfe
   refine kB F hdm (by omega) fun i hi => ?_
   have hi':i < es.size:=by omega
   rw [pG (Aj hi')]
   exact hne _ (Dm hi')
 unfold setSearch
 rw [show (100000:Nat) = 99999 + 1 from rfl]
 unfold setSearchFrom
 refine Aa (Bl ho hd hf ?_)
 dsimp only
 have hg:t.gaveWay = false:=by unfold SetTable.gaveWay; rw [hod]; rfl
 rw [hg]
 simp only [Bool.false_eq_true,if_false]
 rw [Option.getD_none,Fu (hp _ ?hG)]
 case hG => rfl
 exact Ae (q _ (Fu (hp _ rfl)))
theorem bQ5 {a:Addr} {ys:List Value} {Q:Bool → Shared → Prop} (hy:∀ y ∈ ys,y = .ref a) (q:Q false s):wpAny (model prog w) A (searchCouldBeSeen (.ref a) ys) Q E s:=by
 unfold searchCouldBeSeen
 refine Aa (wpAny_forIn_list _ (fun rest r s' => r = (none,()) ∧ s' = s ∧ ∀ v ∈ rest,v = .ref a) _ ?_ ?_ _ _ ⟨rfl,rfl,hy⟩)
 · rintro x rest r s' ⟨rfl,rfl,hx⟩
   obtain rfl:=hx _ An
   simp only [beq_self_eq_true,Bool.true_or,if_true]
   exact Ae ⟨rfl,rfl,fun v hv => hx v (Am _ hv)⟩
 · rintro r s' ⟨rfl,rfl,_⟩
   exact Ae q
theorem vN {a b:Addr} {o:Obj} {es:Array (Int × Value)} {ep:Nat} {t:SetTable} {h:Int} {Q:SetFound → Shared → Prop} (ho:s.heap.get? a = some o) (hd:o.data = .set es ep t) (hf:t.fits es.size = true) (hod:t.mask % 2 = 1) (hs:t.place.size = es.size)
   (R:Ris t.place) (W:Rch t.mask (Occ t es)) (hin:(h,Value.ref b) ∈ es.toList) (hv:∀ e ∈ es.toList,e.1 = h → e.2 = .ref b) (q:Q (.there none) s):wpAny (model prog w) A (setSearch a (.ref b) h true) Q E s:=by
 have hp:∀ f:Nat → Int,(f = sth es) → ∃ c:Nat × Nat × SetTable.Probe,t.probe f h (t.probeStart h) = some (.candidate c.1 c.2.1 c.2.2) ∧ es[c.2.1]? = some (h,.ref b):=fun f hfe => by
   subst hfe
   obtain ⟨i1,hi1,e1⟩:=Array.mem_iff_getElem.mp (Ee.mp hin)
   have hpl:t.place[i1]? = some t.place[i1]:=Aj (by omega)
   have hes:es[i1]? = some (h,Value.ref b):=by rw [Aj hi1,e1]
   obtain ⟨n,n1,n2,n3⟩:=W _ _ ⟨i1,hpl,hes⟩
   have live:∀ j e,Occ t es j e → ∃ i,t.slot j = .live i ∧ sth es i = e.1:=fun j e ⟨i,z1,z2⟩ => ⟨i,lJ R z1,pG z2⟩
   obtain ⟨j,i,next,hj,hsl,hfi⟩:=tL (t:=t) (f:=sth es) (h:=h) (10 * SetTable.turns t.mask) (t.probeStart h) ⟨n,n1,by
       rw [pM,n2]
       exact live _ _ ⟨i1,hpl,hes⟩,fun n' hn' => by
       rw [pM]
       obtain ⟨e',he'⟩:=n3 n' hn'
       exact (live _ _ he').elim fun i z => ⟨i,z.1⟩⟩
   have hlt:i < es.size:=by rw [← hs]; exact jU hsl
   have hei:=Aj hlt
   have h1:es[i].1 = h:=by rw [pG hei] at hfi; exact hfi
   refine ⟨(j,i,next),hj,?_⟩
   show es[i]? = _
   rw [hei]
   exact Cr some (Prod.ext h1 (hv _ (Dm hlt) h1))
 unfold setSearch
 rw [show (100000:Nat) = 99999 + 1 from rfl]
 unfold setSearchFrom
 refine Aa (Bl ho hd hf ?_)
 dsimp only
 have hg:t.gaveWay = false:=by unfold SetTable.gaveWay; rw [hod]; rfl
 rw [hg]
 simp only [Bool.false_eq_true,if_false]
 rw [Option.getD_none,(Fu (hp _ ?hG)).1]
 case hG => rfl
 dsimp only
 rw [(Fu (hp _ ?hG2)).2]
 case hG2 => rfl
 dsimp only
 cases hl:t.led with
 | false =>
   simp only [Bool.not_false,if_true]
   refine Aa (bQ5 (fun y hy => ?_) ?_)
   · obtain ⟨e,he,rfl⟩:=Bc.mp hy
     rw [Array.toList_filter] at he
     obtain ⟨h1,h2⟩:=Do.mp he
     exact hv e h1 (Gc.mp h2)
   simp only [Bool.false_eq_true,if_false]
   refine Aa (Bv (Gq _ _ _ _ _ ?_))
   refine Aa (Bl ho hd hf ?_)
   simp only [Bool.and_self,if_true]
   exact Ae q
 | true =>
   simp only [Bool.not_true,Bool.false_eq_true,if_false]
   refine Aa (Bv (Gq _ _ _ _ _ ?_))
   refine Aa (Bl ho hd hf ?_)
   simp only [Bool.and_self,if_true]
   exact Ae q
theorem fI {α:Type} {xs:Array α} {p:Nat} {x e:α} (hp:p ≤ xs.size) (h:e = x ∨ e ∈ xs.toList):e ∈ (SetTable.insertAt xs p x).toList:=by
 rw [Ee]
 rcases h with rfl | h
 · exact Ep (i:=p) (by rw [bL _ _ hp,if_neg (Cv _),if_pos rfl])
 · obtain ⟨i,hi⟩:=Dw.mp h
   rw [Bz] at hi
   by_cases hip:i < p
   · exact Ep (i:=i) (by rw [bL _ _ hp,if_pos hip]; exact hi)
   · exact Ep (i:=i + 1) (by rw [bL _ _ hp,if_neg (by omega),if_neg (by omega)]; exact hi)
theorem nN {t:SetTable} {es:Array (Int × Value)} {h:Int} {x:Value} {slot:Nat} (hdm:t.dummies = #[]) (hps:t.place.size = es.size) (R:Ris t.place) (W:Rch t.mask (Occ t es)) (hp:t.probe (sth es) h (t.probeStart h) = some (.empty slot none)) :
   Ris (t.put slot).1.place ∧ Rch (t.put slot).1.mask (Occ (t.put slot).1 (SetTable.insertAt es (t.put slot).2 (h,x))):=by
 obtain ⟨n,h1,h2,h3,h4⟩:=oR hdm _ _ _ hp
 have hfree:∀ i:Nat,t.place[i]? ≠ some slot:=fun i z => by rw [lJ R z] at h3; cases h3
 have hb:=(eQ R slot).1
 refine ⟨bXN R hfree,?_⟩
 refine Rch.add (e0:=(h,x)) (n0:=n) (O:=Occ t es) W (fun j e z => ?_) (fun j e z => ?_) h1 fun n' hn' => ?_
 · exact (xG hb hps j e).mpr (.inl z)
 · rcases (xG hb hps j e).mp z with z | ⟨z1,z2⟩
   · exact .inl z
   · exact .inr ⟨z2,z1.trans (h2.symm.trans (pM t h n))⟩
 · obtain ⟨i,hi⟩:=h4 n' hn'
   rw [pM] at hi
   have hlt:=jU hi
   exact ⟨_,i,bQU hi,Aj (by omega)⟩
end
open PySem.Spec PyProof.Rows
def Alx (H:Hp):Nat → V → V → Prop
 | 0,x,y => x = y ∧ (aW x = true ∨ ∃ p,x = .ref p)
 | n + 1,x,y => (x = y ∧ (aW x = true ∨ ∃ p,x = .ref p)) ∨ ∃ p q,x = .ref p ∧ y = .ref q ∧ ((∃ xs ys,rdL H p = some xs ∧ rdL H q = some ys ∧ xs.length = ys.length ∧ ∀ (j:Nat) x' y',xs[j]? = some x' → ys[j]? = some y' → Alx H n x' y') ∨ ∃ kvs kws,Rd H p (.dK kvs) ∧ Rd H q (.dK kws) ∧ DEq kvs kws)
theorem Alx.same {H:Hp} {n:Nat} {x:V} (h:aW x = true ∨ ∃ p,x = .ref p):Alx H n x x:=by
 cases n with
 | zero => exact ⟨rfl,h⟩
 | succ n => exact .inl ⟨rfl,h⟩
theorem sS {X:Cx} {s:Shared} {A:Around} {x:V} {u v:Value} (h:aW x = true ∨ ∃ p,x = .ref p) (ru:RelV x u) (rv:RelV x v):EqW X.prog X.w A s u v:=by
 rcases h with hf | ⟨p,rfl⟩
 · have:=lU (A:=A) (s:=s) ru rv hf hf
   rw [mD hf] at this
   exact fun E Q hq => this X.prog X.w E Q hq
 · cases ru
   cases rv
   exact .same _
theorem aQZ {X:Cx} {pins:List (Addr × Obj)} {σ:St} {H:Hp} {s:Shared} (I:Inv X pins σ H s) {A:Around} {p q:Addr} {xs ys:List V} (hp:rdL H p = some xs) (hq:rdL H q = some ys) (hl:xs.length = ys.length) (h:∀ (j:Nat) x' y' u v,xs[j]? = some x' → ys[j]? = some y' → RelV x' u → RelV y' v → EqW X.prog X.w A.in1 s u v) (hu:A.units < cLine) (E:Value → Shared → Prop) (Q:Value → Shared → Prop) :
   (Q (.bool true) s → wpAny (model X.prog X.w) A (richCompare .Eq (.ref p) (.ref q)) Q E s) ∧ (Q (.bool false) s → wpAny (model X.prog X.w) A (richCompare .NotEq (.ref p) (.ref q)) Q E s):=by
 obtain ⟨its,r1,l1,_⟩:=I.list (aU hp)
 obtain ⟨its2,r2,l2,_⟩:=I.list (aU hq)
 have e1:=r1.length
 have e2:=r2.length
 have he:∀ j (h1:j < its.toArray.size) (h2:j < its2.toArray.size),EqW X.prog X.w A.in1 s its.toArray[j] its2.toArray[j]:=fun j h1 h2 => by
   have h1':j < its.length:=by simpa using h1
   have h2':j < its2.length:=by simpa using h2
   obtain ⟨u',hu',ru'⟩:=r1.get (Ab (show j < xs.length by omega))
   obtain ⟨v',hv',rv'⟩:=r2.get (Ab (show j < ys.length by omega))
   rw [Ab h1'] at hu'
   rw [Ab h2'] at hv'
   cases hu'
   cases hv'
   simpa using h j _ _ _ _ (List.getElem?_eq_getElem _) (List.getElem?_eq_getElem _) ru' rv'
 have hs:its.toArray.size = its2.toArray.size:=by simp only [List.size_toArray]; omega
 exact ⟨fun q => cQR l1.isList l2.isList hs hu he q,fun q => bJ4 l1.isList l2.isList hs hu he q⟩
theorem cQE {X:Cx} {pins:List (Addr × Obj)} {σ:St} {H:Hp} {s:Shared} (I:Inv X pins σ H s):∀ (n:Nat) (A:Around) (x y:V) (u v:Value),Alx H n x y → RelV x u → RelV y v → A.units + n < cLine → EqW X.prog X.w A s u v:=by
 intro n
 induction n with
 | zero =>
   intro A x y u v h ru rv hu
   obtain ⟨rfl,hx⟩:=h
   exact sS hx ru rv
 | succ n ih =>
   intro A x y u v h ru rv hu
   rcases h with ⟨rfl,hx⟩ | ⟨p,q,rfl,rfl,hpq⟩
   · exact sS hx ru rv
   · cases ru
     cases rv
     by_cases e:p = q
     · subst e
       exact .same _
     rcases hpq with ⟨xs,ys,hp,hq,hl,h⟩ | ⟨kvs,kws,hp,hq,d⟩
     · exact .refs e fun E Q hq' => (aQZ I hp hq hl (fun j x' y' u v hx hy hu' hv' => ih A.in1 x' y' u v (h j x' y' hx hy) hu' hv' (by show A.units + 1 + n < cLine; omega)) (by omega) E Q).1 hq'
     · exact .refs e fun E Q hq' => (bQV I hp hq d (by omega) E Q).1 hq'
def cJU (neg:Bool):R2:=fun x y H Q => ∃ n p q xs ys,n ≤ 50 ∧ x = .ref p ∧ y = .ref q ∧ rdL H p = some xs ∧ rdL H q = some ys ∧ xs.length = ys.length ∧ (∀ (j:Nat) x' y',xs[j]? = some x' → ys[j]? = some y' → Alx H n x' y') ∧ Q (.bl (!neg)) H
theorem dQG {X:Cx} (hu:X.A.units + 64 < cLine):OpR X (compareOp .NotEq) (cJU true):=by
 intro pins s σ H x y v u Q I rx ry h
 obtain ⟨n,p,q,xs,ys,hn,rfl,rfl,hp,hq,hl,al,k⟩:=h
 cases rx
 cases ry
 exact (aQZ I hp hq hl (fun j x' y' u v hx hy hu' hv' => cQE I n X.A.in1 x' y' u v (al j x' y' hx hy) hu' hv' (by show X.A.units + 1 + n < cLine; omega)) (by omega) _ _).2 ⟨.bl false,H,I,rfl,k⟩
theorem cJB {neg:Bool} {p q:Addr} {H:Hp} {Q:VK} {xs ys:List V} (n:Nat) (hp:rdL H p = some xs) (hq:rdL H q = some ys) (hl:xs.length = ys.length) (al:∀ (j:Nat) x' y',xs[j]? = some x' → ys[j]? = some y' → Alx H n x' y') (h:Q (.bl (!neg)) H) (hn:n ≤ 50:=by omega):cJU neg (.ref p) (.ref q) H Q:=⟨n,p,q,xs,ys,hn,rfl,rfl,hp,hq,hl,al,h⟩
end L2
set_option maxHeartbeats 1000000
namespace L2
open PySem PySem.Spec PyProof.Rows
def hdl (i:Nat) (ts:TS) (D:Ends) (cls:Value) (d:Option Addr) (σ1:St) (H1:Hp):Prop:=∀ ea,H1 ea = none →
 ts { nx:=fun σ2 H2 => D.nx (σ2.set i none) H2,rt:=D.rt,bk:=fun σ2 H2 => D.bk (σ2.set i none) H2,ct:=fun σ2 H2 => D.ct (σ2.set i none) H2 } (σ1.set i (some (.ref ea))) (upd H1 ea (lE ea cls d))
section
variable {X:Cx} {pins:List (Addr × Obj)}
end
end L2
set_option maxHeartbeats 1000000
namespace L2
open PySem PySem.Spec PyProof.Rows
section
variable {X:Cx}
end
end L2
set_option maxHeartbeats 1000000
namespace L2
open PySem PySem.Spec PyProof.Rows
open PySem.AutoSeq1 (wpAny_loadPart')
section
variable {X:Cx}
end
section
variable {X:Cx} {a b:Expr} {rest:List Expr} {pos:Pos} {ta tb:TE}
end
section
variable {X:Cx}
theorem KV.at {kvs:List (Key × V)} {vs:List (Key × Value)} (r:KV kvs vs):∀ {i:Nat} {k:Key} {u:Value},vs[i]? = some (k,u) → ∃ v,kvs[i]? = some (k,v) ∧ RelV v u:=by
 unfold KV at r
 induction r with
 | nil => intro i k u h; cases h
 | @cons kv vv _ _ hk t ih =>
   intro i k u h
   obtain ⟨e,ru⟩:=hk
   cases i with
   | zero => cases h; exact ⟨kv.2,by rw [List.getElem?_cons_zero]; exact Cr some (Prod.ext e rfl),ru⟩
   | succ i => exact ih h
end
end L2
set_option maxHeartbeats 1000000
namespace L2
open PySem PySem.Spec PyProof.Rows
section
variable {X:Cx}
theorem zE:∀ {vs:List Value} {ns:List Int},IntsAre vs ns → Vals (ns.map V.int) vs:=by
 intro vs ns h
 induction h with
 | nil => exact .nil
 | cons x t _ ih => exact .cons ⟨t,rfl⟩ ih
theorem wA:∀ {vs:List Value} {ns:List Int},vs.length = ns.length → (∀ (j:Nat) v x,vs[j]? = some v → ns[j]? = some x → ∃ t,v = .int x t) → IntsAre vs ns
 | [],[],_,_ => .nil
 | v :: r,x :: y,hl,h => by
   obtain ⟨t,e⟩:=h 0 v x rfl rfl
   subst e
   exact .cons x t (wA (by simpa using hl) fun j v' x' a b => h (j + 1) v' x' (by simpa using a) (by simpa using b))
 | [],_ :: _,hl,_ => absurd hl (by simp)
 | _ :: _,[],hl,_ => absurd hl (by simp)
end
section
variable {X:Cx} {a b:Expr} {rest:List Expr} {pos:Pos} {ta tb:TE}
end
end L2
set_option maxHeartbeats 4000000
namespace L2
open PySem PySem.Spec PyProof.Rows
open PySem.AutoSeq1 (wpAny_loadPart')
open PySem.MeetsSeq PySem.MeetsSeq2 PySem.MeetsSeq3
open PySem.W (KasT kas_sort kas_cmp kas_item kas_item_eq kas_range kas_runs kas_kind kas_st kat_kind kat_lt kat_cons kat_nil kat_yes kat_no kat_go kat_one KatTups KatLex)
section
variable {prog:Program} {w:World} {A:Around} {E:Value → Shared → Prop} {s:Shared}
end
section
variable {X:Cx}
end
end L2
set_option maxHeartbeats 1000000
namespace L2
open PySem PySem.Spec PyProof.Rows
section
variable {X:Cx}
end
end L2
set_option maxHeartbeats 1000000
namespace L2
open PySem PySem.Spec PyProof.Rows
def Alt (H:Hp):Nat → V → V → Prop
 | 0,x,y => x = y ∧ aW x = true
 | n + 1,x,y => (x = y ∧ aW x = true) ∨ ∃ p q xs ys,x = .ref p ∧ y = .ref q ∧ ((rdL H p = some xs ∧ rdL H q = some ys) ∨ (H p = some (.tup xs) ∧ H q = some (.tup ys))) ∧ xs.length = ys.length ∧ ∀ (j:Nat) x' y',xs[j]? = some x' → ys[j]? = some y' → Alt H n x' y'
theorem Alt.flat {H:Hp} {n:Nat} {x:V} (h:aW x = true):Alt H n x x:=by
 cases n with
 | zero => exact ⟨rfl,h⟩
 | succ n => exact .inl ⟨rfl,h⟩
theorem Alt.flats {H:Hp} {n:Nat} {xs:List V} (f:xs.all aW = true):∀ (j:Nat) x y,xs[j]? = some x → xs[j]? = some y → Alt H n x y:=fun j x y hx hy => by
 rw [hx] at hy
 cases hy
 exact .flat (Dz.mp f x (As hx))
theorem Alt.lst {H:Hp} {n:Nat} {p q:Addr} {xs ys:List V} (hp:rdL H p = some xs) (hq:rdL H q = some ys) (hl:xs.length = ys.length) (h:∀ (j:Nat) x y,xs[j]? = some x → ys[j]? = some y → Alt H n x y):Alt H (n + 1) (.ref p) (.ref q):=.inr ⟨p,q,xs,ys,rfl,rfl,.inl ⟨hp,hq⟩,hl,h⟩
theorem Alt.tup {H:Hp} {n:Nat} {p q:Addr} {xs ys:List V} (hp:H p = some (.tup xs)) (hq:H q = some (.tup ys)) (hl:xs.length = ys.length) (h:∀ (j:Nat) x y,xs[j]? = some x → ys[j]? = some y → Alt H n x y):Alt H (n + 1) (.ref p) (.ref q):=.inr ⟨p,q,xs,ys,rfl,rfl,.inr ⟨hp,hq⟩,hl,h⟩
section
variable {X:Cx}
end
end L2
set_option maxHeartbeats 4000000
namespace L2
open PySem PySem.Spec PyProof.Rows
theorem yH {X:Cx} {pins:List (Addr × Obj)} {σ:St} {H:Hp} {s:Shared} {N:List Str} {scope:Scope} {cl:List (Str × Addr)} {C:Addr} {fp:List Addr} (I:Inv X pins σ H s) (hc:cZ X) (hf:∀ b ∈ fp,dL X pins H b):cZ (cxC X N scope cl C s H fp):=by
 obtain ⟨_,_,_,hne⟩:=I.soft hc
 obtain ⟨ea,hh,sa,hx⟩:=hc
 refine ⟨ea,hh,I.softAt sa hx,fun hm => ?_⟩
 rcases (hf ea hm).2.2.2.1 with z | z
 · exact hx z
 · obtain ⟨o,g,_⟩:=sa
   exact absurd (Ak g) (Ht.mpr z)
theorem nZ {X:Cx} {pins:List (Addr × Obj)} {σ:St} {H2:Hp} {s2:Shared} {N:List Str} {scope:Scope} {cl:List (Str × Addr)} {vals:St → St} {fp:List Addr} {it:Addr} {tn:Nat → Heap → Prop} {J:It} {tg elt iter:Expr} {ifs:List Expr} {pos:Pos}
   {g:TG} {tests:TT} {te:TE} {Q:VK} {E:Value → Shared → Prop} {RR:Value → Addr → Result → Shared → Prop} (I2:Inv X pins σ H2 s2) (T:TurnM X.prog X.w X.K tg J fp it tn) (st2:tn 0 s2.heap) (f2:∀ b ∈ fp,dL X pins H2 b) (hc:cZ X)
   (ck:ClOk X N scope cl vals) (hcell:∀ y ∈ scope.names,y.2 ≠ .cell) (hkind:scope.kind = .function)
   (hg:∀ C s₀ H₀ ex,cZ (cxC X N scope cl C s₀ H₀ ex) → PG (cxC X N scope cl C s₀ H₀ ex) tg g) (ht:∀ C s₀ H₀ ex,cZ (cxC X N scope cl C s₀ H₀ ex) → PF (cxC X N scope cl C s₀ H₀ ex) ifs tests) (he:∀ C s₀ H₀ ex,cZ (cxC X N scope cl C s₀ H₀ ex) → PE (cxC X N scope cl C s₀ H₀ ex) elt te)
   (h:eL g tests te (vals σ) Q J H2)
   (hRR:∀ D C s' H' m,s'.heap.Ns C m → Q (.ref D) H' → (∀ h'',Heap.SameBut C s'.heap h'' → Inv X pins σ H' { s' with heap:=h'' }) → dL X pins H' C → RR (.ref D) C (.ok .next) s') :
   wpAny (model X.prog X.w) X.A (newList []) (fun acc s₃ => wpAny (model X.prog X.w) X.A (newFunctionEnv scope X.env.globals cl [] X.env.qual none .none (some X.env)) (fun cenv s₄ =>
     codeAny (model X.prog X.w) X.A (.compStart (.ListComp elt [⟨tg,iter,ifs,0⟩] scope pos) 0 (.ref it) acc { cenv with scope:=relabel scope X.env }) (RR acc cenv.locals) s₄) E s₃) E s2:=by
 have hD:H2 s2.heap.objs.size = none:=I2.hok.fresh (Ai _)
 obtain ⟨W,⟨m0,w0⟩,turn⟩:=h _ hD
 have hlt:∀ b ∈ fp,b < s2.heap.objs.size:=fun b hb => by
   obtain ⟨o,e,_⟩:=T.obj 0 _ st2 b hb
   exact Ak e
 refine Eg ?_
 -- the list is laid
 have I3:Inv X pins σ (upd H2 s2.heap.objs.size (.lst [])) { s2 with heap:=s2.heap.push { cls:=.type "list",dict:=none,data:=.seq ([]:List Value).toArray } } :=
   I2.lnew (ys:=[]) (its:=[]) (t':=s2.toks) .nil (Cq _)
 have f3:∀ b ∈ fp,dL X pins (upd H2 s2.heap.objs.size (.lst [])) b:=fun b hb => ⟨by rw [aH (Av (hlt b hb))]; exact (f2 b hb).1,(f2 b hb).2⟩
 have st3:tn 0 (s2.heap.push { cls:=.type "list",dict:=none,data:=.seq ([]:List Value).toArray }):=T.keep _ _ _ st2 fun b _ o e => Ad _ e
 generalize hs3:({ s2 with heap:=s2.heap.push { cls:=.type "list",dict:=none,data:=.seq ([]:List Value).toArray } }:Shared) = s3 at I3 ⊢
 have e3:s3.heap = s2.heap.push { cls:=.type "list",dict:=none,data:=.seq ([]:List Value).toArray }:=by rw [← hs3]
 rw [← e3] at st3
 have hlt3:∀ b ∈ fp,b < s3.heap.objs.size:=fun b hb => by
   obtain ⟨o,e,_⟩:=T.obj 0 _ st3 b hb
   exact Ak e
 refine wpAny_newFunctionEnv hcell (by intro y hy; simp at hy) (fun h₁ hns₁ hsb₁ => ?_) hkind
 have hns:h₁.Ns s3.heap.objs.size fun _ => none:=hns₁
 have sf:cZ (cxC X N scope cl s3.heap.objs.size s3 (upd H2 s2.heap.objs.size (.lst [])) fp):=yH I3 hc f3
 have I4:=lW (t1:=s3.toks) I3 ck hkind f3 hlt3 hns hsb₁
 have old:∀ b o,s3.heap.get? b = some o → h₁.get? b = some o:=fun b o e => (hsb₁.2 b (Av (Ak e))).trans (Ad _ e)
 have st4:tn 0 h₁:=T.keep _ _ _ st3 fun b _ o e => old b o e
 have loop:∀ s₄:Shared,s₄ = { s3 with heap:=h₁,toks:=s3.toks } →
     codeAny (model X.prog X.w) X.A (.compLoop (.ListComp elt [⟨tg,iter,ifs,0⟩] scope pos) 0 (.ref it) (.ref s2.heap.objs.size) (compEnvC scope cl s3.heap.objs.size X.env))
       (RR (.ref s2.heap.objs.size) s3.heap.objs.size) s₄:=by
   rintro s₄ rfl
   have fpX:∀ {H':Hp},(∀ b ∈ fp,H' b = none) → ∀ b ∈ fp,dL (cxC X N scope cl s3.heap.objs.size s3 (upd H2 s2.heap.objs.size (.lst [])) fp) [] H' b:=fun hn b hb =>
     ⟨hn b hb,Nat.ne_of_lt (hlt3 b hb),fun hs => I4.ok.exfs b hb hs,.inl hb,fun x c e => (I4.ok.exf b hb).2 x c e,fun p hp => absurd (show p ∈ ([]:List (Addr × Obj)) from hp) (by simp)⟩
   refine mG (fun n s' => ∃ i H',Inv (cxC X N scope cl s3.heap.objs.size s3 (upd H2 s2.heap.objs.size (.lst [])) fp) [] (vals σ) H' s' ∧ tn i s'.heap ∧ (∀ b ∈ fp,H' b = none) ∧ W i n H') ?_ m0
     ⟨0,_,I4,st4,fun b hb => (f3 b hb).1,w0⟩
   rintro n s5 ⟨i,H5,I5,st5,fr5,w5⟩
   rcases turn i n H5 w5 with ⟨stop,q⟩ | ⟨go,step⟩
   · refine thn (T.done (cxC X N scope cl s3.heap.objs.size s3 (upd H2 s2.heap.objs.size (.lst [])) fp) rfl rfl rfl sf i [] s5 (vals σ) H5 (fun _ _ => False) I5 (fpX fr5) st5 stop) fun r s6 ⟨hr,I6⟩ => ?_
     subst hr
     obtain ⟨m,hn,_⟩:=id I6.loc
     exact hRR _ _ s6 H5 m hn q (fun h'' hsb => nT I3 f3 I6 hsb) (I3.fpOk (Ai _) I6.free)
   · refine thn (T.item (cxC X N scope cl s3.heap.objs.size s3 (upd H2 s2.heap.objs.size (.lst [])) fp) rfl rfl rfl sf i [] s5 (vals σ) H5 (fun _ _ => False) I5 (fpX fr5) st5 go) fun r s6 ⟨u,hr,h6⟩ => ?_
     subst hr
     refine thn h6 fun _ s7 ⟨x,H7,I7,r7,y7,st7,fr7⟩ => ?_
     have I7':=I7.pinned (fpX fr7) (T.obj _ _ st7)
     refine thn (hg _ _ _ _ sf _ s7 (vals σ) H7 x u _ I7' r7 (step x H7 y7)) fun _ s8 ⟨σ8,H8,I8,wk8,q8⟩ => ?_
     refine thn (ht _ _ _ _ sf _ s8 σ8 H8 _ I8 q8) fun b s9 ⟨H9,I9,q9⟩ => ?_
     have again:∀ {m':Nat} {s':Shared} {H':Hp},Inv (cxC X N scope cl s3.heap.objs.size s3 (upd H2 s2.heap.objs.size (.lst [])) fp) ([] ++ eY fp s7.heap) σ8 H' s' → m' < n → W (i + 1) m' H' →
         ∃ m,m < n ∧ ∃ i H',Inv (cxC X N scope cl s3.heap.objs.size s3 (upd H2 s2.heap.objs.size (.lst [])) fp) [] (vals σ) H' s' ∧ tn i s'.heap ∧ (∀ b ∈ fp,H' b = none) ∧ W i m H':=fun {m' s' H'} J7 hm w7 => by
       refine ⟨m',hm,i + 1,H',(J7.weak wk8.1 wk8.2).unpinned,T.keep _ _ _ st7 fun b hb o e => (J7.pin (b,o) (Az _ (Az _ (cB hb e)))).1,fun b hb => ?_,w7⟩
       obtain ⟨o,e,d⟩:=T.obj _ _ st7 b hb
       exact (J7.pin (b,o) (Az _ (Az _ (cB hb e)))).2.1
     cases b with
     | true =>
       rw [if_pos rfl] at q9 ⊢
       refine thn (he _ _ _ _ sf _ s9 σ8 H9 _ I9 q9) fun v s10 ⟨y,H10,I10,r10,zs,hz,hl,m',hm,w10⟩ => ?_
       have ap:=jX ([] ++ eY fp s7.heap) s10 σ8 H10 (.ref s2.heap.objs.size) [y] (.ref s2.heap.objs.size) [v] (fun _ H' => H' = upd H10 s2.heap.objs.size (.lst (zs ++ [y]))) I10 rfl (.cons r10 .nil) ⟨_,_,_,rfl,rfl,hz,hl,rfl⟩
       refine thn ap fun _ s11 ⟨_,H11,I11,_,e11⟩ => ?_
       subst e11
       exact again I11 hm w10
     | false =>
       rw [if_neg Ao] at q9 ⊢
       obtain ⟨m',hm,w9⟩:=q9
       exact again I9 hm w9
 exact codeAny_compStart_list (loop _ rfl) (T.self _ 0 _ _ _ st4 (loop _ rfl))
section
variable {X:Cx} {N:List Str} {scope:Scope} {cl:List (Str × Addr)} {vals:St → St} {tg elt iter:Expr} {ifs:List Expr} {pos spos py:Pos} {wi:TI} {g:TG} {tests:TT} {te:TE}
theorem aJB (hc:cZ X) (hi:PIM X tg iter wi) (ck:ClOk X N scope cl vals) (hcell:∀ y ∈ scope.names,y.2 ≠ .cell) (hkind:scope.kind = .function) (hnames:∀ x ∈ scope.names,x.2 = .local → scope.names.lookup x.1 = some .local)
   (hg:∀ C s₀ H₀ ex,cZ (cxC X N scope cl C s₀ H₀ ex) → PG (cxC X N scope cl C s₀ H₀ ex) tg g) (ht:∀ C s₀ H₀ ex,cZ (cxC X N scope cl C s₀ H₀ ex) → PF (cxC X N scope cl C s₀ H₀ ex) ifs tests) (he:∀ C s₀ H₀ ex,cZ (cxC X N scope cl C s₀ H₀ ex) → PE (cxC X N scope cl C s₀ H₀ ex) elt te)
   (hs:∀ x,foldedSetIterable iter X.env x = pure x:=by intro _; rfl):PE X (.ListComp elt [⟨tg,iter,ifs,0⟩] scope pos) (rP wi g tests te vals):=by
 intro pins s σ H Q I h
 rw [eval_ListComp]
 refine Fc (use:=none) rfl hs ck.clos hkind hnames (thn (hi pins s σ H _ I h) fun v s1 h1 => thn h1 fun itv s2 h2 => ?_)
 obtain ⟨it,fp,tn,J,H2,e,I2,T,st2,f2,q⟩:=h2
 subst e
 refine nZ (RR:=fun acc C => compPost (model X.prog X.w) X.A X.xe none (EP X pins σ Q) acc C) I2 T st2 f2 hc ck hcell hkind hg ht he q fun D C s' H' m hn q' back _ => ?_
 exact ⟨m,hn,fun h'' hsb => ⟨.ref D,H',back h'' hsb,rfl,q'⟩⟩
theorem aXN {i:Nat} {x:Str} (hN:X.N.Nodup) (hix:X.N[i]? = some x) (hx:Loc X.env.scope x) (hc:cZ X) (hi:PIM X tg iter wi) (ck:ClOk X N scope cl vals) (hcell:∀ y ∈ scope.names,y.2 ≠ .cell) (hkind:scope.kind = .function)
   (hnames:∀ x ∈ scope.names,x.2 = .local → scope.names.lookup x.1 = some .local)
   (hg:∀ C s₀ H₀ ex,cZ (cxC X N scope cl C s₀ H₀ ex) → PG (cxC X N scope cl C s₀ H₀ ex) tg g) (ht:∀ C s₀ H₀ ex,cZ (cxC X N scope cl C s₀ H₀ ex) → PF (cxC X N scope cl C s₀ H₀ ex) ifs tests) (he:∀ C s₀ H₀ ex,cZ (cxC X N scope cl C s₀ H₀ ex) → PE (cxC X N scope cl C s₀ H₀ ex) elt te)
   (hsw:swapsWith (.ListComp elt [⟨tg,iter,ifs,0⟩] scope pos) (some (.Name x py)) spos.line X.env = pure true:=by rfl)
   (hf:X.fn x = true ∨ X.env.scope.names.lookup x = some .local:=by first | exact .inl rfl | exact .inr rfl | assumption)
   (hs:∀ x,foldedSetIterable iter X.env x = pure x:=by intro _; rfl):PS X (.Assign [.Name x py] (.ListComp elt [⟨tg,iter,ifs,0⟩] scope pos) spos) (aJS (rP wi g tests te vals) (iI i)):=by
 intro pins s σ H D I h
 rw [exec_Assign_Name_used _ _ _ _ hsw]
 refine Aa (Hn (Aa ?_))
 show wpAny _ X.A (do let _ ← comprehension (.ListComp elt [⟨tg,iter,ifs,0⟩] scope pos) scope X.env _ (newList []) false (eval iter X.env) (some (assign (.Name x py) X.env))) _ _ s
 refine Aa (Bw (Fc (use:=some (assign (.Name x py) X.env)) (Q:=fun _ s' => SP X pins D .next s') rfl hs ck.clos hkind hnames
   (thn (hi pins s σ H _ I h) fun v s1 h1 => thn h1 fun itv s2 h2 => ?_)) (fun _ s' hq => Ae (Ae hq)) fun _ _ e => e)
 obtain ⟨it,fp,tn,J,H2,e,I2,T,st2,f2,q⟩:=h2
 subst e
 refine nZ (RR:=fun acc C => compPost (model X.prog X.w) X.A X.xe (some (assign (.Name x py) X.env)) (fun _ s' => SP X pins D .next s') acc C) I2 T st2 f2 hc ck hcell hkind hg ht he q fun Dl C s' H' m hn q' back fC => ?_
 show wpAny _ X.A (assign (.Name x py) X.env (.ref Dl)) _ _ s'
 have I':Inv X pins σ H' s':=back s'.heap (Heap.SameBut.refl ..)
 refine wpAny_assign_Name (jR I' hN hix hx (v:=.ref Dl) rfl (fun s'' I'' hsb => ?_) hf)
 obtain ⟨a,hsb,ha⟩:=hsb
 have hCa:C ≠ a:=by
   rcases ha with z | z
   · rw [z]; exact fC.2.1
   · exact fun e => fC.2.2.2.2.1 x a z e.symm
 refine ⟨m,hn.sameBut hsb hCa,fun h3 hsb3 => ?_⟩
 exact ⟨σ.set i (some (.ref Dl)),H',I''.turned (t':=s''.toks) (fun b o hb e => (hsb3.2 b hb).trans e) fC.1 fC.2.1 fC.2.2.2.1 fC.2.2.2.2.1 fC.2.2.2.2.2,q'⟩
end
section
variable {prog:Program} {w:World} {A:Around} {E:Value → Shared → Prop} {s:Shared}
theorem sE {it ax ea:Addr} {items:Array Value} (hh:A.handled = some (.ref ea)) (hne:ax ≠ it) (hni:ea ≠ it) :
   Walks prog w A it [it,ax,ea] [it] items.size (fun i v => items[i]? = some v) (fun i h => (h.IsListIter it ax i ∧ h.IsList ax items) ∧ CtxNone h ea) where
 sub:=fun b hb => by rw [Aq.mp hb]; exact An
 frame:=fun _ _ _ st hk => ⟨⟨st.1.1.at fun o e => hk it (by simp) o e,st.1.2.at fun o e => hk ax (by simp) o e⟩,st.2.ext fun o e => hk ea (by simp) o e⟩
 item:=fun i s Q E hi st hQ => by
   refine wpAny_pyNext_list_item st.1.1 st.1.2 (x:=items[i]) (Aj hi) fun h' it' sb => ?_
   exact hQ _ h' s.toks (Aj hi) ⟨⟨it',st.1.2.extBut sb.extBut hne⟩,st.2.ext fun o e => sb.extBut ea o hni e⟩ fun b o hb e => sb.extBut b o (fun z => hb (by rw [z]; exact Aq.mpr rfl)) e
 done:=fun s Q E st hQ => jZ hh hni st.2 st.1.1 st.1.2 (Cm (Ai _)) fun h' eb => hQ h' s.toks fun b o hb e => eb b o (fun z => hb (by rw [z]; exact Aq.mpr rfl)) e
 self:=fun _ _ _ _ st hQ => wpAny_pyIter_listiter st.1.1 hQ
theorem bX6 {t ea:Addr} {items:Array Value} {targets:List (Bool × (Value → Sem Unit))} {Q:Unit → Shared → Prop} (hh:A.handled = some (.ref ea)) (hc:CtxNone s.heap ea) (ht:s.heap.IsTuple t items)
   (hn:targets.length = items.size) (hstar:targets.findIdx? (·.1) = none)
   (h:∀ h',Heap.ExtBut s.heap.objs.size s.heap h' → wpAny (model prog w) A (assignInOrder (targets.map (·.2)) items.toList) Q E { s with heap:=h' }):wpAny (model prog w) A (unpack (.ref t) targets) Q E s:=by
 have hlt:t ≠ s.heap.objs.size:=by obtain ⟨o,ho,_⟩:=ht; exact Av (Ak ho)
 have hle:ea ≠ s.heap.objs.size:=by obtain ⟨o,_,ho,_⟩:=hc; exact Av (Ak ho)
 unfold unpack
 rw [hn,hstar]
 refine Aa (Bv ?_)
 unfold unpackItems notIterableAtAll
 refine Aa (Aa (Eu ht.typeIs slot_tuple_iter.lookup (Ae ?_)))
 simp only [Bool.false_eq_true,if_false]
 refine Aa (Bv (iter_tuple ht ?_))
 refine Aa (Bv (draw_tuple hlt items.size 0 _ _ ⟨_,Ap _ rfl,rfl,rfl⟩ (ht.push _) (by omega) fun h₁ it1 sb => ?_))
 rw [show List.take items.size (List.drop 0 items.toList) = items.toList by rw [List.drop_zero]; exact List.take_of_length_le (by simp),if_neg (by simp)]
 have ht1:=(ht.push _).extBut sb.extBut hlt
 refine wpAny_bind (wpAny_holding (lY hh hle (hc.ext fun o e => sb.extBut ea o hle (Heap.get?_push_of_some _ e)) it1 ht1 (by simp) fun h₂ eb => ?_))
 simp only [Option.isSome_none,Bool.false_eq_true,if_false]
 exact Ae (h h₂ fun b o hb e => eb b o hb (sb.extBut b o hb (Ad _ e)))
end
section
variable {X:Cx}
theorem bXP {es:List Expr} {k:Nat} {t:TGs} {n:Nat} {pos:Pos} (hc:cZ X) (h:PGs X es t) (hn:(assignEach es X.env).length = n:=by rfl) (hst:(assignEach es X.env).findIdx? (·.1) = none:=by rfl):PG X (.Tuple es k pos) (aQ9 X.K n t):=by
 intro pins s σ H v u Q I r hw
 obtain ⟨a,xs,e1,hq,hl,hw⟩:=hw
 subst e1
 cases r
 obtain ⟨its,rv,ht,hz⟩:=I.tuple hq
 obtain ⟨ea,hh,hcn,_⟩:=I.soft hc
 rw [assign_Tuple]
 refine wpAny_bind (wpAny_standAt (bX6 hh hcn ht (by simp [hn,← hl,rv.length]) hst fun h' hx => ?_))
 exact h pins _ σ H xs _ Q (I.kept (t':=s.toks) fun b o e => hx b o (Nat.ne_of_lt (Heap.lt_size e)) e) (by simpa using rv) hw
theorem aXJ {K:PySem.W.Frag} {i j k:Nat} {x y:Str} {px py pos:Pos} (hK:X.K = K) (hc:cZ X) (hN:X.N.Nodup) (hi:X.N[i]? = some x) (hx:Loc X.env.scope x) (hfx:X.fn x = true ∨ X.env.scope.names.lookup x = some .local)
   (hj:X.N[j]? = some y) (hy:Loc X.env.scope y) (hfy:X.fn y = true ∨ X.env.scope.names.lookup y = some .local):PG X (.Tuple [.Name x px,.Name y py] k pos) (aQ9 K 2 (pA (iI i) (pA (iI j) bQ7))):=by
 subst hK
 exact bXP hc (iJ (aR hN hi hx hfx) (iJ (aR hN hj hy hfy) xQ))
end
theorem cXH {X:Cx} (hc:cZ X):CallR X (.builtin "sum") cZY:=by
 intro pins s σ H xs us Q I r h
 obtain ⟨p,ns,rfl,hp,hb,hn,q⟩:=h
 obtain ⟨u,rfl,ru⟩:=dQ r
 cases ru
 obtain ⟨its,rv,pl,hz⟩:=I.list (aU hp)
 have hl:=pl.isList
 have hlt:p < s.heap.objs.size:=by obtain ⟨_,e,_⟩:=hl; exact Ak e
 have hle:its.length = ns.length:=by have:=rv.length; rw [Ac] at this; omega
 obtain ⟨ea,hh,hcn,hnx⟩:=I.soft hc
 have hlte:ea < s.heap.objs.size:=by obtain ⟨_,_,e,_⟩:=hcn; exact Ak e
 refine call_sum_walk (He hl ?_)
 refine ⟨s.heap.objs.size,[s.heap.objs.size,p,ea],[s.heap.objs.size],its.toArray.size,_,_,fun i => ns.getD i 0,rfl,sE (A:=X.A.in1) (items:=its.toArray) hh (Av hlt) (Av hlte),
   ⟨⟨⟨_,Ap _ rfl,rfl,rfl⟩,hl.push _⟩,hcn.ext fun o e => Ad _ e⟩,fun b hb => ?_,fun i v hv => ?_,fun j hj => ?_,fun h' tk t' hk => ?_⟩
 · rw [show ({ s with heap:=_ }:Shared).heap = _ from rfl]
   simp only [List.mem_cons,List.not_mem_nil,or_false] at hb
   rcases hb with e | e | e
   · rw [e]; simp [Heap.push]
   · rw [e]; exact Nat.lt_of_lt_of_le hlt (by simp [Heap.push])
   · rw [e]; exact Nat.lt_of_lt_of_le hlte (by simp [Heap.push])
 · have hv':its[i]? = some v:=by simpa using hv
   have hi:i < ns.length:=by rw [← hle]; exact (Af.mp hv').1
   obtain ⟨u,hu,ru⟩:=rv.get (show (ns.map V.int)[i]? = some (.int ns[i]) by rw [Al,Ab hi]; rfl)
   rw [hv'] at hu
   cases hu
   obtain ⟨t,rfl⟩:=ru
   exact ⟨t,by show Value.int ns[i] t = Value.int (ns.getD i 0) t; rw [Ag,Ab hi]; rfl⟩
 · have hj' : j < ns.length := by have : j < its.length := by simpa using hj
                                  omega
   have e:=fV ns (j + 1) (by omega)
   obtain ⟨a1,a2⟩:=yG (ns:=ns.take (j + 1)) fun m hm => hb m (Ez hm)
   rw [By] at a2
   have a3:ns.getD j 0 ∈ ns:=by rw [Ag,Ab hj']; exact Bh _
   obtain ⟨b1,b2⟩:=hb _ a3
   refine ⟨?_,?_⟩
   · show InLong (ns.getD j 0)
     unfold InLong
     omega
   · rw [e]
     unfold InLong
     omega
 · have e:preSum (fun i => ns.getD i 0) its.toArray.size = ns.sum:=by
     rw [Bu,hle,fV ns _ (Ai _),Cj]
   rw [e]
   exact ⟨.int ns.sum,H,I.kept (LSm.kept_iter hk),⟨_,rfl⟩,q⟩
def bZU (K:PySem.W.Frag) (C:Addr) (i:Nat) (mk:(Value → Option Addr → St → Hp → Prop) → TS) (ts:Addr → TS):TS:=fun D σ H =>
 mk (fun cls d σ1 H1 => PySem.W.exmOne K cls (.ref C) = some true ∧ ∀ ea oe,aXE oe → H1 ea = none →
   ts ea { nx:=fun σ2 H2 => D.nx (σ2.set i none) H2,rt:=D.rt,bk:=fun σ2 H2 => D.bk (σ2.set i none) H2,ct:=fun σ2 H2 => D.ct (σ2.set i none) H2 } (σ1.set i (some (.ref ea))) (upd H1 ea (.frz oe (lE ea cls d)))) D σ H
theorem bJQ {K:PySem.W.Frag} {C:Addr} {i:Nat} {mk:(Value → Option Addr → St → Hp → Prop) → TS} {ts:Addr → TS} {D:Ends} {σ:St} {H:Hp} (h:mk (fun cls d σ1 H1 => PySem.W.exmOne K cls (.ref C) = some true ∧ ∀ ea oe,aXE oe → H1 ea = none →
   ts ea { nx:=fun σ2 H2 => D.nx (σ2.set i none) H2,rt:=D.rt,bk:=fun σ2 H2 => D.bk (σ2.set i none) H2,ct:=fun σ2 H2 => D.ct (σ2.set i none) H2 } (σ1.set i (some (.ref ea))) (upd H1 ea (.frz oe (lE ea cls d)))) D σ H):bZU K C i mk ts D σ H:=h
theorem bXV {X:Cx} {body suite:List Stmt} {b0:Stmt} {x n:Str} {np hp pos:Pos} {i:Nat} {C:Addr} {mk:(Value → Option Addr → St → Hp → Prop) → TS} {ts:Addr → TS} (hstk:X.stack = X.env :: X.outer) (hfm:X.env.frame = some X.env.locals) (hex:X.ex = [])
   (hN:X.N.Nodup) (hi:X.N[i]? = some n) (hl:X.env.scope.names.lookup n = some .local) (hg:Gl X x) (hm:X.mg x = some (.ref C)) (hb:∀ pins R,PSs (X.tr pins (XS X pins R)) body (mk R)) (hs:∀ pins ea,PSs (X.hnd pins ea) (b0 :: suite) (ts ea))
   (hd:(x == ("__debug__" : Str)) = false:=by decide):PS X (.Try body [.ExceptHandler (some (.Name x np)) (some n) (b0 :: suite) hp] [] [] pos) (bZU X.K C i mk ts):=by
 intro pins s σ H D I h
 have hfr:X.A.frames = some (X.env :: X.outer):=by rw [← hstk]; exact I.ok.frames
 have hcls:(X.env.scope.kind == .class || (X.env.scope.kind == .module && X.env.locals != X.env.globals)) = false:=by rw [I.ok.kind]; rfl
 refine wpAny_Try_except (Bw (hb pins _ [] s σ H D (I.tr _) h) (fun f s1 q => ?_) fun e s1 q => ?_)
 · cases f with
   | next =>
     obtain ⟨σ',H',I',q⟩:=q.untr
     exact bO pins s1 σ' H' D I' q
   | brk => exact q.untr
   | cont => exact q.untr
   | ret u => exact q.untr
 · obtain ⟨ea,cls,d,B,σ1,H1,rfl,F,fre,hn,inv,hx,r⟩:=q
   rw [hstk] at F
   refine aZ1 hfr hfm F fun h2 F2 u2 => hX (s:={ s1 with heap:=h2 }) F2 fun h3 F3 u3 => ?_
   have I3:=inv h3 F3.stays (u2.trans u3)
   refine wpAny_handleBy_cons (codeAny_handlers_test (eC (I3.hnd ea) hg hm ?_ hd)) (by intro q; cases q)
   obtain ⟨oe,vs,T,oT,tts,he,hc,_⟩:=id F3.on
   refine PySem.W.exm_one I3.kIn (hc.1 ▸ (PySem.W.Looks.ld he).andThen .now) hx _ _ _ _ (fun _ _ q => q) ?_
   refine codeAny_handlers_suite_as (hX (s:={ s1 with heap:=h3 }) F3 fun h4 F4 u4 => ?_)
   obtain ⟨oe4,vs4,_,_,_,he4,_,hd4,_,_,_,_,_,_,c4⟩:=id F4.on
   have I4:=(inv h4 F4.stays ((u2.trans u3).trans u4)).adopt (o:=.frz oe4 (lE ea cls d)) fre hn (show h4.get? ea = some oe4 ∧ _ from ⟨he4,F4.obj⟩)
   refine lK I4 hN hi (.inl hl) (v:=.ref ea) rfl (fun s5 I5 => ?_) (.inr hl)
   refine Bw (hs pins ea [] s5 _ _ _ (I5.hnd ea) (r ea oe4 ⟨vs4,hd4,c4⟩ hn)) (fun f s6 q => ?_) fun _ _ z => z.elim
   have go:∀ {σ2:St} {H2:Hp} {Q:Unit → Shared → Prop} {E:Value → Shared → Prop},Inv (X.hnd pins ea) [] σ2 H2 s6 → (∀ s7,Inv X pins (σ2.set i none) H2 s7 → Q () s7) →
       wpAny (model X.prog X.w) X.A (do bindName X.env n .none; unbindBehindTheSuite X.env n hp) Q E s6:=fun {σ2 H2 Q E} I6 k => by
     have I6':=I6.unhnd I.ok
     obtain ⟨m,hm6,_⟩:=id I6'.loc
     exact wpAny_nameGoes_keeps hl hm6 hcls fun h7 v hn7 sb => k _ (I6'.unname hN hi hm6 hl hn7 sb)
   cases f with
   | next =>
     obtain ⟨σ2,H2,I6,q⟩:=q
     exact go I6 fun s7 I7 => ⟨_,H2,I7,q⟩
   | brk =>
     obtain ⟨σ2,H2,I6,q⟩:=q
     exact go I6 fun s7 I7 => ⟨_,H2,I7,q⟩
   | cont =>
     obtain ⟨σ2,H2,I6,q⟩:=q
     exact go I6 fun s7 I7 => ⟨_,H2,I7,q⟩
   | ret u =>
     obtain ⟨v,σ2,H2,I6,rv,q⟩:=q
     exact go I6 fun s7 I7 => ⟨v,_,H2,I7,rv,q⟩
def aXD (ea:Addr) (sp:Sp) (t:TA):TE:=fun σ H Q => t σ H fun vs H1 => (∃ o u,H1 ea = some (.frz o u) ∧ aXE o) ∧ sp vs H1 Q E0
theorem bQO {ea:Addr} {sp:Sp} {t:TA} {σ:St} {H:Hp} {Q:VK} (h:t σ H fun vs H1 => (∃ o u,H1 ea = some (.frz o u) ∧ aXE o) ∧ sp vs H1 Q E0):aXD ea sp t σ H Q:=h
theorem bXR {X:Cx} {pn:List (Addr × Obj)} {ea:Addr} {k k':Nat} {ps:List Str} {sp:Sp} {x:Str} {p pos:Pos} {e:Expr} {es:List Expr} {t:TA} (c:xT X.prog X.w X.K X.mg X.base k x ps sp) (hr:Room k' X.A) (hk:k ≤ k') (hg:Gl (X.hnd pn ea) x)
   (ha:PA (X.hnd pn ea) (e :: es) t) (hdb:(x == ("__debug__" : Str)) = false:=by decide) (he:starEach (e :: es) (X.hnd pn ea).env = (false,eval e (X.hnd pn ea).env) :: starEach es (X.hnd pn ea).env:=by rfl) (hpl:(backTo pos (starEach es (X.hnd pn ea).env)).any (·.1) = false:=by rfl) :
   PE (X.hnd pn ea) (.Call (.Name x p) (e :: es) [] pos) (aXD ea sp t):=by
 obtain ⟨f,fd,F,hm,hkp,hb⟩:=c
 intro pins s σ H Q I h
 refine Dy (eC I hg hm ?_ hdb)
 refine Fn (h₀:=X.base) I.ok.mod.kin hkp (thn (ha pos pins s σ H _ I h) fun us s1 ⟨vs,H1,I1,r,⟨oz,uz,ez,cz⟩,q⟩ => ⟨I1.kIn,?_⟩) he hpl
 have q':sp vs H1 Q E0:=q
 have hl:(us ++ []).length = ps.length:=by rw [Bs,← r.length]; exact F.len _ _ _ _ q'
 have hbb:=hb s1 us I1.kIn hl
 rw [Bs] at hbb
 have e1:=I1.env0
 have e0:Env0 X.prog X.w X.K X.mg X.base X.A X.stack s1 H1:=⟨e1.frames,e1.mod,e1.bs,e1.bsz,e1.funs,e1.frf,e1.hok,e1.bare⟩
 refine Gb (Ek (F.run X.A ea X.stack s1 H1 ⟨us,[]⟩ us vs Q (hr.mono hk) ⟨oz,(I1.hok ea _ ez).1,cz,.inr ⟨uz,ez⟩⟩ e0 hbb r q') fun rr s' hq => ?_)
 cases rr with
 | error e => exact False.elim hq
 | ok fl =>
   cases fl with
   | ret u => exact I1.after hq
   | next => exact False.elim hq
   | brk => exact False.elim hq
   | cont => exact False.elim hq
def aJE (K:PySem.W.Frag) (ta:TE) (f:Str):TE:=fun σ H Q => ta σ H fun x H1 => ∃ ea C dx fs v o,x = .ref ea ∧ H1 ea = some (.frz o (lE ea (.ref C) (some dx))) ∧ H1 dx = some (xdO dx fs) ∧ ExK K C ∧ PySem.W.findIn K (.ref C) f = some none ∧ fs.lookup f = some v ∧ Q v H1
theorem bZH {K:PySem.W.Frag} {ta:TE} {f:Str} {σ:St} {H:Hp} {Q:VK} (h:ta σ H fun x H1 => ∃ ea C dx fs v o,x = .ref ea ∧ H1 ea = some (.frz o (lE ea (.ref C) (some dx))) ∧ H1 dx = some (xdO dx fs) ∧ ExK K C ∧ PySem.W.findIn K (.ref C) f = some none ∧ fs.lookup f = some v ∧ Q v H1):aJE K ta f σ H Q:=h
theorem sY {X:Cx} {K:PySem.W.Frag} {e:Expr} {f:Str} {pos:Pos} {ta:TE} (hK:X.K = K) (he:PE X e ta) (hb:attributeBase e f X.env (eval e X.env) = eval e X.env):PE X (.Attribute e f pos) (aJE K ta f):=by
 subst hK
 intro pins s σ H Q I h
 refine bQL hb (thn (he pins s σ H _ I h) fun u s1 ⟨x,H1,I1,rx,ea,C,dx,fs,v,oz,ex,e1,e2,Z,n,l,q⟩ => ?_)
 subst ex
 obtain rfl:u = Value.ref ea:=rx
 obtain ⟨oe,vs,g,hc,hdi,hda⟩:=(I1.hok ea _ e1).2.1
 obtain ⟨⟨mA,ns,r,wi⟩,_⟩:=I1.hok dx _ e2
 obtain ⟨od,hI⟩:=gD I1.hok g hc hdi hda (fun z e => by cases e; exact ⟨_,e2⟩)
 obtain ⟨o,go,lo⟩:=nU ns
 have hod:od = some o:=by
   have z:=hI.dict
   rw [hdi] at z
   cases od with
   | none => exact z.elim
   | some o' =>
     have z:s1.heap.get? dx = some o':=z
     rw [go] at z
     exact z.symm
 subst hod
 have rl:=r f
 rw [l] at rl
 cases hu:mA f with
 | none => rw [hu] at rl; exact rl.elim
 | some u =>
   rw [hu] at rl
   exact bQN Z I1.kIn hI (PySem.W.findObj_own Z.cls n rfl (by rw [lo,hu])) (aX8 rl) ⟨v,H1,I1.tok _,rl,q⟩
end L2
set_option maxHeartbeats 1000000
namespace L2
open PySem PySem.Spec PyProof.Rows
section
variable {X:Cx}
end
end L2
namespace L2
open PySem PySem.Spec PyProof.Rows
section
variable {prog:Program} {w:World} {A:Around} {R:Result → Shared → Prop} {J B f:Addr} {us ws:List Addr} {n:Nat} {P:Nat → Value → Prop} {St:Nat → Heap → Prop} {G:Shared → Prop} {val:Nat → Int}
end
end L2
set_option maxHeartbeats 1000000
namespace L2
open PySem PySem.Spec PyProof.Rows
theorem mX:entryFor table "set.__iter__" = some Builtin.«frozenset.__iter__» := entryFor_alias (id' := "frozenset.__iter__") (by rw [Hi]; kernel_rfl) (by first | rfl | decide +kernel) (by decide +kernel) (by rw [Hi]; kernel_rfl)
theorem slot_setNext:Slot "set_iterator" "__next__" "set_iterator.__next__" := .of (owner := "set_iterator") (n := "__next__") (by rw [typeLookup_type,builtinLookup_eq_fast]; kernel_rfl) (by decide +kernel) (by decide +kernel) (by decide +kernel) (by first | exact .inl (by decide +kernel) | exact .inr (by decide +kernel)) (by rw [isSubtype_type]; kernel_rfl)
theorem hU:entryFor table "set_iterator.__next__" = some Builtin.«set_iterator.__next__» := entryFor_of_tree (by kernel_rfl)
def SetIt (h:Heap) (it a:Addr) (slot i n ep:Nat):Prop:=∃ o,h.get? it = some o ∧ o.cls = .type "set_iterator" ∧ o.data = .fields #[.int slot 0,.int i 0,.ref a,.int n 0,.int ep 0]
structure SetAt (h:Heap) (a:Addr) (es:Array (Int × Value)) (ep:Nat) (t:SetTable):Prop where
 ob:∃ o,h.get? a = some o ∧ o.cls = .type "set" ∧ o.data = .set es ep t
 fits:t.fits es.size = true
 plain:t.plain = true
 ris:Ris t.place
 sz:t.place.size = es.size
section
variable {prog:Program} {w:World} {A:Around} {E:Value → Shared → Prop} {s:Shared} {a it:Addr} {es:Array (Int × Value)} {ep:Nat} {t:SetTable}
theorem aXO {Q:Value → Shared → Prop} (S:SetAt s.heap a es ep t) (h:Q (.ref s.heap.objs.size) { s with heap:=s.heap.push { cls:=.type "set_iterator",data:=.fields #[.int 0 0,.int 0 0,.ref a,.int es.size 0,.int ep 0] } }) :
   wpAny (model prog w) A (pyIter (.ref a)) Q E s:=by
 obtain ⟨o,ho,hc,hd⟩:=S.ob
 have hT:s.TypeIs (.ref a) "set" := ⟨o,ho,hc⟩
 refine wpAny_pyIter_slot hT PySem.F.slot_set_iter (Cc PySem.F.slot_set_iter hT mX ?_ (PySem.F.args_set_iter_1 _))
 show wpAny _ _ (Builtin.Frozenset.sizeOf a >>= _) _ _ s
 unfold Builtin.Frozenset.sizeOf setEntries
 refine Aa (Aa (Aa (Bl ho hd S.fits (Ae (Ae ?_)))))
 unfold setDrawn setsByText
 refine Aa (Aa (Bl ho hd S.fits ?_))
 refine Aa (Aa (Ec (Ae (Ae ?_))))
 dsimp only
 split
 · rename_i hh
   have hh':(!w.params.followText "set-order" && (!t.plain && decide (es.size > 1))) = true:=hh
   rw [S.plain] at hh'
   simp at hh'
 refine Aa (Ae ?_)
 unfold setEpoch
 refine Aa (Aa (Bl ho hd S.fits (Ae ?_)))
 exact Aa (Eg (Ae ⟨_,rfl, "set_iterator",_,⟨_,Ap _ rfl,rfl⟩,slot_setNext.lookup,h⟩) (by size_fits))
theorem jG (v:Value):argsOk "set_iterator.__next__" ⟨[v],[]⟩:=by
 unfold argsOk
 rw [signature?_of (id := "set_iterator.__next__") (n:=['_','_','t','x','e','n','_','_']) (o:=['r','o','t','a','r','e','t','i','_','t','e','s']) (by kernel_rfl) (show Manifest.owners.lookup (String.ofList ['r','o','t','a','r','e','t','i','_','t','e','s'].reverse) = some Manifest.sig_set_iterator by kernel_rfl)]
 kernel_rfl
def dC (w:World) (a:Addr) (ep:Nat) (es:Array (Int × Value)):Array (Int × Value):=if w.params.followText "set-order" = true then pickOrder (w.params.setOrder a ep) es else es
def aV (w:World) (t:SetTable) (i:Nat):Nat:=if w.params.followText "set-order" = true then 0 else if i = 0 then 0 else t.place.getD (i - 1) 0 + 1
theorem lI {t:SetTable} (R:Ris t.place) {i:Nat} (hi:i ≤ t.place.size):SetTable.below t.place (if i = 0 then 0 else t.place.getD (i - 1) 0 + 1) = i:=by
 obtain ⟨h1,h2,h3⟩:=eQ R (if i = 0 then 0 else t.place.getD (i - 1) 0 + 1)
 generalize SetTable.below t.place (if i = 0 then 0 else t.place.getD (i - 1) 0 + 1) = p at h1 h2 h3 ⊢
 by_cases hi0:i = 0
 · rw [if_pos hi0] at h2 h3
   by_cases hp:p = 0
   · omega
   · obtain ⟨v,hv⟩:∃ v,t.place[0]? = some v:=⟨_,Aj (by omega)⟩
     exact absurd (h2 0 v (by omega) hv) (Ey _)
 · rw [if_neg hi0] at h2 h3
   obtain ⟨v,hv⟩:∃ v,t.place[i - 1]? = some v:=⟨_,Aj (by omega)⟩
   have eg:t.place.getD (i - 1) 0 = v:=by rw [Ah,hv]; rfl
   rw [eg] at h2 h3
   by_cases hp:p < i
   · have:=h3 (i - 1) v (by omega) hv
     omega
   · by_cases hp2:i < p
     · obtain ⟨u,hu⟩:∃ u,t.place[i]? = some u:=⟨_,Aj (by omega)⟩
       have l1:=h2 i u hp2 hu
       have l2:=R (i - 1) i v u (by omega) hv hu
       omega
     · omega
theorem aXR {i:Nat} {x:Int × Value} {Q:Option Value → Shared → Prop} (S:SetAt s.heap a es ep t) (hl:w.params.followText "set-order" = true ∨ t.led = true) (hit:SetIt s.heap it a (aV w t i) i es.size ep) (hx:(dC w a ep es)[i]? = some x) (hi:i < es.size)
   (hQ:∀ h',SetIt h' it a (aV w t (i + 1)) (i + 1) es.size ep → Heap.SameBut it s.heap h' → Q (some x.2) { s with heap:=h' }):wpAny (model prog w) A (pyNext (.ref it)) Q E s:=by
 obtain ⟨o,ho,hc,hd⟩:=S.ob
 obtain ⟨oi,hoi,hci,hdi⟩:=id hit
 have hT:s.TypeIs (.ref it) "set_iterator" := ⟨oi,hoi,hci⟩
 unfold pyNext
 refine Aa (Fd (wpAny_callSpecial?_slot (name:=Str.ofString "__next__") hT slot_setNext (Cc slot_setNext hT hU ?_ (jG _))))
 show wpAny _ _ (fieldsOf (.ref it) >>= _) _ _ s
 refine Aa (wpAny_fieldsOf hoi hdi ?_)
 dsimp only
 unfold setEntries
 refine Aa (Aa (Bl ho hd S.fits (Ae ?_)))
 dsimp only
 rw [if_neg (by simp)]
 have key:wpAny (model prog w) A.in1 (setNext a (aV w t i) i ep) (fun r s' => r = some (x.2,aV w t (i + 1)) ∧ s' = s) (fun _ _ => False) s:=by
   unfold setNext
   refine Aa (Bl ho hd S.fits ?_)
   dsimp only
   unfold setsByText
   refine Aa (Aa (Ec (Ae ?_)))
   by_cases hb:w.params.followText "set-order" = true
   · have ox:(pickOrder (w.params.setOrder a ep) es)[i]? = some x:=by unfold dC at hx; rw [if_pos hb] at hx; exact hx
     have e1:aV w t (i + 1) = aV w t i:=by unfold aV; rw [if_pos hb,if_pos hb]
     rw [e1]
     show wpAny _ _ (if w.params.followText "set-order" = true then _ else _) _ _ s
     rw [if_pos hb]
     show wpAny _ _ (if (ep != ep) = true then _ else _) _ _ s
     rw [if_neg (by simp)]
     unfold setWalk setsByText
     refine Aa (Aa (Bl ho hd S.fits ?_))
     refine Aa (Aa (Ec (Ae ?_)))
     show wpAny _ _ (if w.params.followText "set-order" = true then _ else _) _ _ s
     rw [if_pos hb]
     refine Aa (Ec (Ae (Ae ⟨?_,rfl⟩)))
     show ((pickOrder (w.params.setOrder a ep) es)[i]?).map _ = _
     rw [ox]
     rfl
   · have ox:es[i]? = some x:=by unfold dC at hx; rw [if_neg hb] at hx; exact hx
     have hled:t.led = true:=hl.resolve_left hb
     obtain ⟨j,hj⟩:∃ j,t.place[i]? = some j:=⟨_,Aj (by rw [S.sz]; exact hi)⟩
     have e1:aV w t (i + 1) = j + 1:=by
       unfold aV
       rw [if_neg hb,if_neg (Nat.succ_ne_zero i),Nat.add_sub_cancel,Ah,hj]
       rfl
     have e2:SetTable.below t.place (aV w t i) = i:=by
       unfold aV
       rw [if_neg hb]
       exact lI S.ris (by rw [S.sz]; omega)
     rw [e1]
     show wpAny _ _ (if w.params.followText "set-order" = true then _ else _) _ _ s
     rw [if_neg hb]
     show wpAny _ _ (if (!t.plain && decide (es.size > 1)) = true then _ else _) _ _ s
     rw [if_neg (by rw [S.plain]; simp)]
     show wpAny _ _ (do (if (!t.led && !es.isEmpty) = true then _ else _); _) _ _ s
     rw [if_neg (by rw [hled]; simp)]
     refine Aa (Ae (Ae ⟨?_,rfl⟩))
     rw [e2,ox,hj]
 show wpAny _ _ (setNext a ((aV w t i:Nat):Int).toNat ((i:Nat):Int).toNat ((ep:Nat):Int).toNat >>= _) _ _ s
 rw [Cd,Cd,Cd]
 refine Aa (Bw key (fun r s' hr => ?_) fun _ _ z => z.elim)
 obtain ⟨rfl,rfl⟩:=hr
 dsimp only
 have n1:(Obj.mapFields (fun x => x.setIfInBounds 0 (rawInt ((aV w t (i + 1):Nat):Int))) oi).isFreed = false:=Obj.isFreed_of_fields (Dc hdi _)
 have g1:=Dj (h:=s'.heap) (Obj.mapFields fun x => x.setIfInBounds 0 (rawInt ((aV w t (i + 1):Nat):Int))) hoi n1
 refine wpAny_bind (wpAny_setField hoi hdi (by simp) ?_)
 have d1:=Dc hdi fun x => x.setIfInBounds 0 (rawInt ((aV w t (i + 1):Nat):Int))
 refine wpAny_bind (wpAny_setField g1 d1 (by simp) ?_)
 refine Ae ⟨_,rfl,Ae (hQ _ ⟨_,Dj _ g1 (Obj.isFreed_of_fields (Dc d1 _)),?_,?_⟩ ((Cw ..).trans (Cw ..)))⟩
 · rw [Obj.cls_mapFields,Obj.cls_mapFields]; exact hci
 · rw [Dc d1]
   rfl
theorem aZ4 {ea:Addr} {Q:Option Value → Shared → Prop} (hh:A.handled = some (.ref ea)) (hne:ea ≠ it) (hcn:CtxNone s.heap ea) (S:SetAt s.heap a es ep t) (hl:w.params.followText "set-order" = true ∨ t.led = true) (hpo:(dC w a ep es).size = es.size) (hit:SetIt s.heap it a (aV w t es.size) es.size es.size ep)
   (hQ:∀ h',Heap.ExtBut it s.heap h' → Q none { s with heap:=h' }):wpAny (model prog w) A (pyNext (.ref it)) Q E s:=by
 obtain ⟨o,ho,hc,hd⟩:=S.ob
 obtain ⟨oi,hoi,hci,hdi⟩:=id hit
 have hT:s.TypeIs (.ref it) "set_iterator" := ⟨oi,hoi,hci⟩
 unfold pyNext
 refine Aa (Fd (wpAny_callSpecial?_slot (name:=Str.ofString "__next__") hT slot_setNext (Cc slot_setNext hT hU ?_ (jG _))))
 show wpAny _ _ (fieldsOf (.ref it) >>= _) _ _ s
 refine Aa (wpAny_fieldsOf hoi hdi ?_)
 dsimp only
 unfold setEntries
 refine Aa (Aa (Bl ho hd S.fits (Ae ?_)))
 dsimp only
 rw [if_neg (by simp)]
 have key:wpAny (model prog w) A.in1 (setNext a (aV w t es.size) es.size ep) (fun r s' => r = none ∧ s' = s) (fun _ _ => False) s:=by
   unfold setNext
   refine Aa (Bl ho hd S.fits ?_)
   dsimp only
   unfold setsByText
   refine Aa (Aa (Ec (Ae ?_)))
   by_cases hb:w.params.followText "set-order" = true
   · have ox:(pickOrder (w.params.setOrder a ep) es)[es.size]? = none:=by unfold dC at hpo; rw [if_pos hb] at hpo; exact Cm (by omega)
     show wpAny _ _ (if w.params.followText "set-order" = true then _ else _) _ _ s
     rw [if_pos hb]
     show wpAny _ _ (if (ep != ep) = true then _ else _) _ _ s
     rw [if_neg (by simp)]
     unfold setWalk setsByText
     refine Aa (Aa (Bl ho hd S.fits ?_))
     refine Aa (Aa (Ec (Ae ?_)))
     show wpAny _ _ (if w.params.followText "set-order" = true then _ else _) _ _ s
     rw [if_pos hb]
     refine Aa (Ec (Ae (Ae ⟨?_,rfl⟩)))
     show ((pickOrder (w.params.setOrder a ep) es)[es.size]?).map _ = _
     rw [ox]
     rfl
   · have hled:t.led = true:=hl.resolve_left hb
     have e2:SetTable.below t.place (aV w t es.size) = es.size:=by
       unfold aV
       rw [if_neg hb]
       exact lI S.ris (by rw [S.sz]; exact Ai _)
     show wpAny _ _ (if w.params.followText "set-order" = true then _ else _) _ _ s
     rw [if_neg hb]
     show wpAny _ _ (if (!t.plain && decide (es.size > 1)) = true then _ else _) _ _ s
     rw [if_neg (by rw [S.plain]; simp)]
     show wpAny _ _ (do (if (!t.led && !es.isEmpty) = true then _ else _); _) _ _ s
     rw [if_neg (by rw [hled]; simp)]
     refine Aa (Ae (Ae ⟨?_,rfl⟩))
     rw [e2,Cm (Ai _)]
 show wpAny _ _ (setNext a ((aV w t es.size:Nat):Int).toNat ((es.size:Nat):Int).toNat ((ep:Nat):Int).toNat >>= _) _ _ s
 rw [Cd,Cd,Cd]
 refine Aa (Bw key (fun r s' hr => ?_) fun _ _ z => z.elim)
 obtain ⟨rfl,rfl⟩:=hr
 dsimp only
 refine wpAny_bind (wpAny_setField hoi hdi (by simp) ?_)
 show wpAny _ _ (newExc (Value.type "StopIteration") [] >>= _) _ _ _
 refine Aa ?_
 simp only [newTuple,newExc]
 refine wpAny_bind (wpAny_newObj_type (wpAny_bind (m:=firstArgMember _ _) (wpAny_of_eq (a:=Value.none) (by first | rfl | (simp only [firstArgMember]; rfl)) (wpAny_newObj_type ?_ (by size_fits)))) (by size_fits))
 have X0:=((Cw (h:=s'.heap) (a:=it) (f:=Obj.mapFields fun x => x.setIfInBounds 2 Value.none)).extBut.push { cls:=Value.type "tuple",data:=Data.seq #[] }).push (⟨.type "StopIteration",none,.fields (#[.ref (s'.heap.update it (Obj.mapFields fun x => x.setIfInBounds 2 Value.none)).objs.size,.none,.none,.none,.bool false,.none] ++ ownMembersOf (Value.type "StopIteration") []),#[]⟩:Obj)
 exact gI (s:=s') (h1:=s'.heap.update it (Obj.mapFields fun x => x.setIfInBounds 2 Value.none)) rfl rfl (by rw [Array.size_append]; exact Nat.lt_of_lt_of_le (show 2 < 6 by decide) (Nat.le_add_right _ _)) rfl X0 (by simp) hh hne hcn hQ
end
end L2
set_option maxHeartbeats 1000000
namespace L2
open PySem PySem.Spec PyProof.Rows
section
variable {prog:Program} {w:World} {A:Around} {E:Value → Shared → Prop} {R:Result → Shared → Prop} {old:Heap} {S l it:Addr} {vs:List Value} {J:Nat → Obj → Prop}
theorem mC (F:xP prog w A.in1 old S vs J) {ea:Addr} (hh:A.in1.handled = some (.ref ea)) (hne:ea ≠ it) (hcn:CtxNone old ea) (nSl:l ≠ S) (nSi:it ≠ S) (nli:l ≠ it) (oS:old.get? S = none) (oI:old.get? it = none):∀ (k i:Nat) (s:Shared) (o:Obj),k + i = vs.length → s.heap.IsListIter it l i → s.heap.IsList l vs.toArray → (∀ b u,old.get? b = some u → s.heap.get? b = some u) →
   s.heap.get? S = some o → J i o → (∀ (h':Heap) (tk:Nat) (o':Obj),(∀ b u,old.get? b = some u → h'.get? b = some u) → h'.get? S = some o' → J vs.length o' → R (.ok (.ret .none)) { s with heap:=h',toks:=tk }) →
   codeAny (model prog w) A (.builtin "set.update.loop" ⟨[.ref S,.ref it],[]⟩) R s
 | 0,i,s,o,hk,hi,hl,ho,hS,hJ,q => by
   obtain rfl:i = vs.length:=by omega
   refine nL ?_
   unfold Builtin.«set.update.loop»
   dsimp only
   refine wpAny_bind (jZ hh hne (hcn.ext fun u e => ho ea u e) hi hl (by simp) fun h' x => wpAny_pure ?_)
   exact q h' s.toks o (fun b u e => x b u (fun z => by rw [z,oI] at e; cases e) (ho b u e)) (x S o nSi.symm hS) hJ
 | k + 1,i,s,o,hk,hi,hl,ho,hS,hJ,q => by
   have hlt:i < vs.length:=by omega
   refine nL ?_
   unfold Builtin.«set.update.loop»
   dsimp only
   refine wpAny_bind (wpAny_pyNext_list_item hi hl (x:=vs[i]) (by simp [hlt]) fun h1 i1 x1 => ?_)
   dsimp only
   have S1:h1.get? S = some o:=(x1.2 S nSi.symm).trans hS
   have l1:h1.IsList l vs.toArray:=hl.extBut x1.extBut nli
   have o1:∀ b u,old.get? b = some u → h1.get? b = some u:=fun b u e => (x1.2 b fun z => by rw [z,oI] at e; cases e).trans (ho b u e)
   refine Aa (Bv (F i vs[i] { s with heap:=h1 } o _ _ (Ab hlt) o1 S1 hJ fun c h2 tk o2 x2 S2 j2 => ?_))
   have o2':∀ b u,old.get? b = some u → h2.get? b = some u:=fun b u e => (x2.2 b fun z => by rw [z,oS] at e; cases e).trans (o1 b u e)
   refine Ae ⟨El PyProof.Rows.F.plain_set_update_loop _,mC F hh hne hcn nSl nSi nli oS oI k (i + 1) { s with heap:=h2,toks:=tk } o2 (by omega) ?_ (l1.extBut x2.extBut nSl) o2' S2 j2 q⟩
   obtain ⟨u,hu,r⟩:=i1
   exact ⟨u,(x2.2 it nSi).trans hu,r⟩
end
section
variable {prog:Program} {w:World} {A:Around} {E:Value → Shared → Prop} {s:Shared}
theorem aQ0 (a:Value) {Q₁:Value → Shared → Prop} (h:Q₁ (.ref s.heap.objs.size) { s with heap:=s.heap.push (bare (!w.params.followText "set-order")) }):codeAny (model prog w) A (.call (.builtin "set.__new__") ⟨[.type "set",a],[]⟩) (wants Q₁ E) s:=by
 refine codeAny_of_tree (show wpAny _ A.in1 (do checkBuiltinCall "set.__new__" ⟨[.type "set",a],[]⟩; again (.builtin "set.__new__" ⟨[.type "set",a],[]⟩)) _ _ s from Aa (wpAny_of_eq (PySem.F.newCall_set_1 a) (Ae ⟨El PySem.F.plain_set_new _,Dv PySem.F.entry_set_new ?_⟩)))
 rw [Dd PySem.F.plain_set_new _]
 unfold Builtin.«set.__new__» Builtin.Frozenset.newClass
 have hs:=sub_set_self
 obtain ⟨h0,g0,d0,t0,o0⟩:=s
 dsimp only
 wp_walk
 refine Ec (Ae ?_)
 dsimp only [newObj]
 exact Aa (wpAny_alloc (Ae (Ae h)))
theorem aQA {x:Value} {Q:Value → Shared → Prop}
   (h:wpAny (model prog w) A.in1.in1 (Builtin.«set.__init__» ⟨[.ref s.heap.objs.size,x],[]⟩)
     (fun fin s' => match fin with | .done f => wants (fun r s₂ => r = .none ∧ Q (.ref s.heap.objs.size) s₂) E (.ok f) s' | .again c' => c'.quiet = true ∧ codeAny (model prog w) A.in1 c' (wants (fun r s₂ => r = .none ∧ Q (.ref s.heap.objs.size) s₂) E) s')
     (fun e s' => wants (fun r s₂ => r = .none ∧ Q (.ref s.heap.objs.size) s₂) E (.error e) s') { s with heap:=s.heap.push (bare (!w.params.followText "set-order")) }) :
   wpAny (model prog w) A (call (.type "set") [x]) Q E s:=by
 have ft:=PySem.F.called_set
 have hct:=PySem.F.typeCall_set_1 x
 obtain ⟨_,_,f1⟩:=ft.mro
 have f2:=ft.made
 have f3:=ft.sub
 have f4:=ft.notType
 have f5:=ft.canCreate
 refine Gb (codeAny_of_tree (show wpAny _ _ (callAny (.type "set") _) _ _ _ from Ae ⟨Code.quiet_builtin _ (by decide +kernel),Dv PySem.F.entry_type_call (by
   rw [Around.under_plain (weight_type_call_type "set" [x] []) rfl]
   repeat any_goals first | assumption | wp_step
   refine Ek (aQ0 x (E:=E) (Q₁:=fun obj s₁ => obj = .ref s.heap.objs.size ∧ s₁ = { s with heap:=s.heap.push (bare (!w.params.followText "set-order")) }) ⟨rfl,rfl⟩) fun r s₁ hr => ?_
   rcases r with e | fl
   · exact hr
   · cases fl with
     | ret obj =>
       obtain ⟨rfl,rfl⟩:=hr
       have hT:Shared.TypeIs { s with heap:=s.heap.push (bare (!w.params.followText "set-order")) } (.ref s.heap.objs.size) "set" := ⟨_,Ap _ rfl,rfl⟩
       have f6:=ft.init.lookup
       have f7:=ft.init.bind (.ref s.heap.objs.size)
       repeat any_goals first | assumption | wp_step
       refine Ek (Gd ft.init.plain PySem.F.entry_set_init (check_set_init_1 hT h)) fun r₂ s₂ hr₂ => ?_
       rcases r₂ with e | fl₂
       · exact hr₂
       · cases fl₂ with
         | ret r =>
           obtain ⟨rfl,hq⟩:=hr₂
           repeat any_goals first | assumption | wp_step
         | _ => exact hr₂.elim
     | _ => exact hr.elim)⟩))
theorem jH {ea:Addr} {l:Addr} {vs:List Value} {J:Nat → Obj → Prop} {Q:Value → Shared → Prop} (hh:A.handled = some (.ref ea)) (hcn:CtxNone s.heap ea) (hl:s.heap.IsList l vs.toArray) (j0:J 0 (bare (!w.params.followText "set-order")))
   (F:∀ A':Around,A'.units ≤ A.units + 8 → xP prog w A' s.heap s.heap.objs.size vs J)
   (h:∀ (h':Heap) (tk:Nat) (o:Obj),(∀ b u,s.heap.get? b = some u → h'.get? b = some u) → h'.get? s.heap.objs.size = some o → J vs.length o → Q (.ref s.heap.objs.size) { s with heap:=h',toks:=tk }) :
   wpAny (model prog w) A (call (.type "set") [.ref l]) Q E s:=by
 refine aQA ?_
 generalize hled:(!w.params.followText "set-order") = led at j0 ⊢
 obtain ⟨⟨ocls,odict,odata,oslots⟩,hol,hcl,nl,hdl⟩:=id hl
 obtain rfl:ocls = .type "list" := hcl
 obtain rfl:odata = .seq vs.toArray nl:=hdl
 have hb:(s.heap.push (bare led)).get? s.heap.objs.size = some (bare led):=Ap _ rfl
 have hol':(s.heap.push (bare led)).get? l = some { cls:=.type "list",dict:=odict,data:=.seq vs.toArray nl,slots:=oslots }:=Ad _ hol
 have hl1:(s.heap.push (bare led)).IsList l vs.toArray:=⟨_,hol',rfl,nl,rfl⟩
 have g1:=PySem.F.sub_list_set
 have g2:=PySem.F.sub_list_frozenset
 have g3:(Value.type "list" == Value.type "dict") = false:=by decide
 unfold bare at hb hol' hl1
 unfold bare Builtin.«set.__init__» noKeywords Builtin.Frozenset.updateFrom
 generalize hPI:pyIter = PI
 wp_walk
 subst hPI
 refine He hl1 (Aa (wpAny_runValue ?_))
 have hlS:l < s.heap.objs.size:=Ak hol
 have none_at:∀ b,s.heap.objs.size ≤ b → s.heap.get? b = none:=fun b hb' => by
   cases e:s.heap.get? b with
   | none => rfl
   | some u => exact absurd (Ak e) (Ht.mpr hb')
 refine mC (A:=A.in1.in1) (old:=s.heap) (l:=l) (vs:=vs) (J:=J) (F _ (by show A.units + 1 + 1 + 1 ≤ A.units + 8; omega)) hh ?_ hcn (Av hlS) ?_ ?_ (none_at _ (Ai _)) (none_at _ ?_) vs.length 0 _ (bare led) rfl ⟨_,Ap _ rfl,rfl,rfl⟩ (hl1.push _)
   (fun b u e => Ad _ (Ad _ e)) (Ad _ hb) j0 fun h' tk o' k1 k2 k3 => ?_
 · obtain ⟨oe,_,he,_⟩:=hcn
   rw [Em]; exact Av (Dt (Ak he))
 · rw [Em]; exact Fm (Dx _)
 · rw [Em]; exact Av (Dt hlS)
 · rw [Em]; exact Nat.le_succ _
 · exact Ae (Ae ⟨rfl,h h' tk o' k1 k2 k3⟩)
end
end L2
set_option maxHeartbeats 1000000
namespace L2
open PySem PySem.Spec PyProof.Rows
theorem iU {t t':SetTable} {hs:Array Int} {wanted:Nat} {order:Array Nat} (h:t.relaid hs wanted = some (t',order)):t'.led = t.led ∧ t'.plain = t.plain:=by
 unfold SetTable.relaid SetTable.laid at h
 cases e:SetTable.layClean (SetTable.sizeAbove wanted - 1) hs with
 | none => rw [e] at h; cases h
 | some owner => rw [e] at h; cases h; exact ⟨rfl,rfl⟩
def zY (led:Bool) (hk:Nat → Int) (vk:Nat → Value) (d:Nat → Nat) (i:Nat) (o:Obj):Prop:=o.ExactSet ∧ ∃ es ep t,o.data = .set es ep t ∧ (t.led = led ∧ t.plain = true) ∧ t.mask = bJ (d i) ∧ t.dummies = #[] ∧ t.place.size = es.size ∧ es.size = d i ∧ Ris t.place ∧ Rch t.mask (Occ t es) ∧ (∀ e ∈ es.toList,∃ j,j < i ∧ e = (hk j,vk j)) ∧ ∀ j,j < i → (hk j,vk j) ∈ es.toList
section
variable {prog:Program} {w:World} {A:Around} {E:Value → Shared → Prop} {s:Shared}
theorem zH {S:Addr} {o:Obj} {es:Array (Int × Value)} {ep:Nat} {t:SetTable} {wanted:Nat} {Q:Unit → Shared → Prop} (ho:s.heap.get? S = some o) (hd:o.data = .set es ep t) (hf:t.fits es.size = true) (F:Full (SetTable.sizeAbove wanted)) (hp:0 < SetTable.sizeAbove wanted) (hl:SetTable.sizeAbove wanted ≤ 100000) (hs:es.size ≤ SetTable.sizeAbove wanted)
   (q:∀ (es':Array (Int × Value)) (t':SetTable),t'.mask = SetTable.sizeAbove wanted - 1 → t'.dummies = #[] → t'.place.size = es.size → es'.size = es.size → Ris t'.place → (∀ e,e ∈ es'.toList ↔ e ∈ es.toList) → Rch t'.mask (Occ t' es') → t'.led = t.led ∧ t'.plain = t.plain → Q () { s with heap:=s.heap.update S (Obj.putSet es' t') }):wpAny (model prog w) A (setRelay S wanted) Q E s:=by
 obtain ⟨t',order,h1,h2,h3,h4,h5,h6,h7,h8⟩:=lV (t:=t) (es:=es) F hp hs
 unfold setRelay
 refine Aa (Bl ho hd hf ?_)
 dsimp only
 rw [if_neg (Ht.mpr (bA hl)),h1]
 refine Aa ?_
 show wpAny _ _ (if _ then _ else pure (order.filterMap (es[·]?),t')) _ _ _
 rw [if_neg (by rw [h5,bne_self_eq_false]; exact Ao)]
 refine Ae (Hj ho hd (q _ t' h2 h3 h4 h5 h6 h7 h8 (iU h1)) ?_)
 rw [h5]
 exact Bg hs (bA hl)
theorem vT {led:Bool} {old:Heap} {S:Addr} {vs:List Value} {ks:List (List Int)} {d:Nat → Nat} (hu:A.units < cLine) (hk:∀ (i:Nat) v,vs[i]? = some v → ∃ a,v = .ref a ∧ IsTupleKey (PySem.intKind prog w) old (ks.getD i []) a) (hl:vs.length ≤ 76)
   (hsame:∀ i j,i < vs.length → j < vs.length → tupleKeyHash (PySem.intKind prog w) (ks.getD j []) = tupleKeyHash (PySem.intKind prog w) (ks.getD i []) → vs.getD j .none = vs.getD i .none) (hdl:∀ i,d i ≤ i)
   (hi:∀ i,i < vs.length → (d (i + 1) = d i ∧ ∃ j,j < i ∧ tupleKeyHash (PySem.intKind prog w) (ks.getD j []) = tupleKeyHash (PySem.intKind prog w) (ks.getD i [])) ∨ (d (i + 1) = d i + 1 ∧ ∀ j,j < i → tupleKeyHash (PySem.intKind prog w) (ks.getD j []) ≠ tupleKeyHash (PySem.intKind prog w) (ks.getD i []))) :
   xP prog w A old S vs (zY led (fun j => tupleKeyHash (PySem.intKind prog w) (ks.getD j [])) (fun j => vs.getD j .none) d):=by
 intro i v s o E Q hv hold hS hJ q
 obtain ⟨a,rfl,hka⟩:=hk i v hv
 obtain ⟨oa,items,n,hoa,hca,hda,hia⟩:=hka
 have hiv:i < vs.length:=(Af.mp hv).1
 have hgv:vs.getD i .none = .ref a:=by rw [Ag,hv]; rfl
 have hka':IsTupleKey (PySem.intKind prog w) s.heap (ks.getD i []) a:=⟨oa,items,n,hold _ _ hoa,hca,hda,hia⟩
 obtain ⟨hx,es,ep,t,hd,hlp,hmk,hdm,hps,hsz,hR,hW,hes,hin⟩:=hJ
 have hF:=aZ9 hmk
 have hdi:=hdl i
 have hle:es.size ≤ t.mask:=by rw [hsz,hmk]; exact eP (by omega)
 have hfit:=gG hps hdm hle
 unfold setAdd
 refine Bv (Aa (wpAny_pyHash_tuple hu hka' ?_))
 generalize hH:tupleKeyHash (PySem.intKind prog w) (ks.getD i []) = hh
 unfold setAddHashed
 rw [show (100000:Nat) = 99999 + 1 from rfl]
 unfold setAddHashedIn
 refine Bv (Aa (Bl hS hd hfit ?_))
 dsimp only
 rw [show byScan (.ref a) es = false from rfl]
 simp only [Bool.false_eq_true,if_false]
 rcases hi i hiv with ⟨hdd,j0,hj0,hej⟩ | ⟨hdd,hno⟩
 · have hv0:∀ e ∈ es.toList,e.1 = hh → e.2 = .ref a:=fun e he z => by
     obtain ⟨j,hj,rfl⟩:=hes e he
     show vs.getD j .none = _
     rw [hsame i j hiv (by omega) (by rw [hH]; exact z),hgv]
   refine Aa (vN hS hd hfit hF.2 hps hR hW (b:=a) ?_ hv0 ?_)
   · have:=hin j0 hj0
     dsimp only at this
     rw [hsame i j0 hiv (by omega) hej,hgv,hej,hH] at this
     exact this
   · dsimp only
     refine Ae ?_
     refine q false s.heap _ o (Heap.SameBut.refl _ _) hS ⟨hx,es,ep,t,hd,hlp,by rw [hmk,hdd],hdm,hps,by rw [hsz,hdd],hR,hW,fun e he => ?_,fun j hj => ?_⟩
     · obtain ⟨j,hj,ej⟩:=hes e he
       exact ⟨j,by omega,ej⟩
     · by_cases e:j = i
       · subst e
         have:=hin j0 hj0
         dsimp only at this ⊢
         rw [hsame j j0 hiv (by omega) hej,hej] at this
         exact this
       · exact hin j (by omega)
 have hne:∀ e ∈ es.toList,e.1 ≠ hh:=fun e he z => by
   obtain ⟨j,hj,ej⟩:=hes e he
   rw [ej] at z
   exact hno j hj (z.trans hH.symm)
 refine Aa (vL hS hd hfit hF.1 hF.2 hdm hps hle hne fun slot hpr => ?_)
 dsimp only
 refine Aa (Bl hS hd hfit ?_)
 dsimp only
 have p1:(t.put slot).1.mask = t.mask:=rfl
 have p0:(t.put slot).1.led = led ∧ (t.put slot).1.plain = true:=hlp
 have p2:(t.put slot).1.dummies = #[]:=by
   show (if SetTable.has t.dummies slot = true then _ else t.dummies) = _
   rw [hdm]
   rfl
 have p3:(t.put slot).1.place.size = es.size + 1:=(eJ _ _ _).trans (by rw [hps])
 obtain ⟨p4,p5⟩:=nN (x:=.ref a) hdm hps hR hW hpr
 have p6:(t.put slot).2 ≤ es.size:=by rw [← hps]; exact (eQ hR slot).1
 generalize t.put slot = tp at p0 p1 p2 p3 p4 p5 p6 ⊢
 obtain ⟨t1,p⟩:=tp
 dsimp only at p0 p1 p2 p3 p4 p5 p6 ⊢
 have z1:(SetTable.insertAt es p (hh,Value.ref a)).size = es.size + 1:=eJ _ _ _
 have z2:∀ e ∈ (SetTable.insertAt es p (hh,Value.ref a)).toList,∃ j,j < i + 1 ∧ e = (tupleKeyHash (PySem.intKind prog w) (ks.getD j []),vs.getD j .none):=fun e he => by
   rcases lR he with rfl | he
   · exact ⟨i,Dx _,by rw [hH,hgv]⟩
   · obtain ⟨j,hj,ej⟩:=hes e he
     exact ⟨j,Dt hj,ej⟩
 have z3:∀ j,j < i + 1 → (tupleKeyHash (PySem.intKind prog w) (ks.getD j []),vs.getD j .none) ∈ (SetTable.insertAt es p (hh,Value.ref a)).toList:=fun j hj => by
   by_cases e:j = i
   · subst e
     exact fI p6 (.inl (by rw [hH,hgv]))
   · exact fI p6 (.inr (hin j (by omega)))
 generalize SetTable.insertAt es p (hh,Value.ref a) = es1 at z1 z2 z3 p5 ⊢
 have tail:∀ s':Shared,s' = { s with toks:=s'.toks } → wpAny (model prog w) A (do
     storeSet S es1 t1
     if (!false && t1.tooFull) = true then do
       setRelay S (SetTable.grown (es.size + 1))
       pure true
     else pure true) Q E s':=by
   intro s' es'
   have hS':s'.heap.get? S = some o:=by rw [es']; exact hS
   obtain ⟨o1,ho1,hx1,hd1,sb1⟩:=qQ es1 t1 hS' hx hd
   have hi76:d i < 76:=by omega
   refine Aa (Hj hS' hd ?_ (by rw [z1]; exact bA (by omega)))
   have hsb:Heap.SameBut S s.heap (s'.heap.update S (Obj.putSet es1 t1)):=by rw [es'] at sb1 ⊢; exact sb1
   have hfull:t1.tooFull = decide (bJ (d i) * 3 ≤ (d i + 1) * 5):=by
     unfold SetTable.tooFull SetTable.fill
     rw [p1,p2,p3,hmk,hsz]
     rfl
   rw [hfull]
   by_cases hf:bJ (d i) * 3 ≤ (d i + 1) * 5
   · rw [Au hf]
     simp only [Bool.not_false,Bool.and_self,if_true]
     have hcase:(d i = 4 ∨ d i = 18):=by
       unfold bJ at hf
       split at hf
       · omega
       · split at hf <;> omega
     have hw:SetTable.sizeAbove (SetTable.grown (es.size + 1)) = bJ (d i + 1) + 1:=by
       rw [hsz]
       rcases hcase with z | z <;> rw [z] <;> rfl
     have hml:=eP (i:=d i + 1) (by omega)
     have hm1:d i + 1 ≤ t1.mask:=by rw [p1,hmk]; rcases hcase with z | z <;> rw [z] <;> decide
     have hm2:bJ (d i + 1) ≤ 127:=by rcases hcase with z | z <;> rw [z] <;> decide
     refine Aa (zH (s:={ s' with heap:=s'.heap.update S (Obj.putSet es1 t1) }) ho1 hd1 (gG (p3.trans z1.symm) p2 (by rw [z1,hsz]; exact hm1)) (by rw [hw]; exact (jW _).1) (by omega) (by omega) (by omega) fun es2 t2 m1 m2 m3 m4 m5 m6 m7 m8 => Ae ?_)
     obtain ⟨o2,ho2,hx2,hd2,sb2⟩:=qQ es2 t2 ho1 hx1 hd1
     have:=q true _ s'.toks o2 (hsb.trans sb2) ho2 ⟨hx2,es2,_,t2,hd2,⟨m8.1.trans p0.1,m8.2.trans p0.2⟩,by rw [m1,hw,hdd]; rfl,m2,by rw [m3,m4],by rw [m4,z1,hsz,hdd],m5,m7,fun e he => z2 e ((m6 e).mp he),fun j hj => (m6 _).mpr (z3 j hj)⟩
     rw [es'] at this ⊢
     exact this
   · rw [Bd hf]
     simp only [Bool.not_false,Bool.and_false,Bool.false_eq_true,if_false]
     have hmm:bJ (d i + 1) = bJ (d i):=by
       unfold bJ at hf ⊢
       split at hf
       · rw [if_pos (by omega)]; rename_i h4; rw [if_pos h4]
       · rename_i h4
         rw [if_neg (by omega),if_neg h4]
         split at hf
         · rename_i h18; rw [if_pos (by omega),if_pos h18]
         · rename_i h18; rw [if_neg (by omega),if_neg h18]
     have:=q true _ s'.toks o1 hsb ho1 ⟨hx1,es1,_,t1,hd1,p0,by rw [p1,hmk,hdd,hmm],p2,by rw [p3,z1],by rw [z1,hsz,hdd],p4,p5,z2,z3⟩
     refine Ae ?_
     rw [es'] at this ⊢
     exact this
 have hints:∀ v ∈ items.toList,∃ k t,v = .int k t:=by
   generalize items.toList = L at hia
   generalize ks.getD i [] = kk at hia
   induction hia with
   | nil => exact fun v hv => nomatch hv
   | @cons k v _ _ h1 _ ih =>
     intro u hu'
     rcases Be.mp hu' with rfl | z
     · obtain ⟨t',rfl⟩:=Value.isInt_shape h1; exact ⟨_,t',rfl⟩
     · exact ih u z
 split
 · exact Aa (yJ (hold _ _ hoa) hca hda hints (tail _ rfl))
 · exact Aa (Ae (tail _ rfl))
end
theorem nO (led:Bool) (hk:Nat → Int) (vk:Nat → Value):zY led hk vk (fun i => i) 0 (bare led):=⟨⟨rfl,rfl,rfl⟩,#[],0,.fresh 0 0 led,rfl,⟨rfl,rfl⟩,rfl,rfl,rfl,rfl,(fun i k a b _ h => by simp [SetTable.fresh] at h),(fun j e h => by obtain ⟨i,h1,_⟩:=h; simp [SetTable.fresh] at h1),(fun e he => by cases he),fun j hj => absurd hj (Nat.not_lt_zero _)⟩
end L2
set_option maxHeartbeats 1000000
namespace L2
open PySem PySem.Spec PyProof.Rows
theorem eD {α:Type}:∀ {L M:List α},L.Nodup → (∀ x ∈ L,x ∈ M) → M.length = L.length → M.Perm L
 | [],M,_,_,hl => by
   rw [List.length_nil] at hl
   rw [List.length_eq_zero_iff.mp hl]
 | x :: r,M,nd,hs,hl => by
   have n2:=Ca.mp nd
   obtain ⟨a,b,e⟩:=List.append_of_mem (hs x An)
   subst e
   have ih:=eD (L:=r) (M:=a ++ b) n2.2 (fun y hy => by
     have hm:=hs y (Am _ hy)
     have ne:y ≠ x:=fun z => n2.1 (z ▸ hy)
     rcases Ci.mp hm with h | h
     · exact Da _ h
     · rcases Be.mp h with h | h
       · exact absurd h ne
       · exact Az _ h) (by rw [Ar,Bi,Bi] at hl; rw [Ar]; omega)
   exact List.perm_middle.trans (ih.cons x)
theorem vF {α:Type} {l:List α} {i:Nat} (h:i < l.length):([l[i]] ++ l.eraseIdx i).Perm l:=by
 have e:l = l.take i ++ l[i] :: l.drop (i + 1):=by rw [← List.drop_eq_getElem_cons h,List.take_append_drop]
 rw [List.eraseIdx_eq_take_drop_succ]
 refine List.Perm.trans ?_ (List.Perm.of_eq e.symm)
 show (l[i] :: (List.take i l ++ List.drop (i + 1) l)).Perm _
 exact List.perm_middle.symm
theorem vV {α:Type} (next:Nat → Nat):∀ (fuel k:Nat) (left:List α) (out:Array α),left.length = fuel → (pickOrder.go next fuel k left out).toList.Perm (out.toList ++ left)
 | 0,k,left,out,h => by
   rw [List.length_eq_zero_iff.mp h,Bs]
   unfold pickOrder.go
   exact List.Perm.refl _
 | fuel + 1,k,left,out,h => by
   have hlt:next k % left.length < left.length:=Hv _ (by omega)
   unfold pickOrder.go
   rw [Ab hlt]
   dsimp only
   refine (vV next fuel (k + 1) _ _ (by rw [List.length_eraseIdx_of_lt hlt]; omega)).trans ?_
   rw [Array.toList_push,Fy]
   exact List.Perm.append_left _ (vF hlt)
theorem zP {α:Type} (next:Nat → Nat) (xs:Array α):(pickOrder next xs).toList.Perm xs.toList:=vV next xs.size 0 xs.toList #[] (by simp)
theorem mP (w:World) (a:Addr) (ep:Nat) (es:Array (Int × Value)):(dC w a ep es).toList.Perm es.toList:=by
 unfold dC
 split
 · exact zP _ _
 · exact List.Perm.refl _
theorem iR (w:World) (a:Addr) (ep:Nat) (es:Array (Int × Value)):(dC w a ep es).size = es.size:=by
 have:=(mP w a ep es).length_eq
 simpa using this
theorem oF {led:Bool} {hk:Nat → Int} {vk:Nat → Value} {n:Nat} {o:Obj} (h:zY led hk vk (fun i => i) n o) (hi:∀ i j,i < j → j < n → hk i ≠ hk j) (hn:n ≤ 76) :
   ∃ es ep t,o.ExactSet ∧ o.data = .set es ep t ∧ t.fits es.size = true ∧ t.plain = true ∧ t.led = led ∧ Ris t.place ∧ t.place.size = es.size ∧ (es.toList.map (·.2)).Perm ((List.range n).map vk):=by
 obtain ⟨hx,es,ep,t,hd,⟨hl,hp⟩,hmk,hdm,hps,hsz,hR,_,_,hin⟩:=h
 refine ⟨es,ep,t,hx,hd,gG hps hdm (by rw [hsz,hmk]; exact eP hn),hp,hl,hR,hps,?_⟩
 have nd:((List.range n).map fun j => (hk j,vk j)).Nodup:=by
   refine Eh.mpr (Gm (R:=(· < ·)) (fun {a b} ha hb hab z => hi a b hab (Bn.mp hb) (Prod.mk.inj z).1) Fq)
 have p:=eD nd (M:=es.toList) (fun x hx => by
   obtain ⟨j,hj,rfl⟩:=Bc.mp hx
   exact hin j (List.mem_range.mp hj)) (by rw [List.length_map,List.length_range]; have:es.size = n:=hsz; simpa using this)
 have q:=p.map (·.2)
 rw [Cp] at q
 exact q
end L2
set_option maxHeartbeats 1000000
namespace L2
open PySem PySem.Spec PyProof.Rows
theorem SetIt.at {h h':Heap} {it a:Addr} {slot i n ep:Nat} (x:SetIt h it a slot i n ep) (k:∀ o,h.get? it = some o → h'.get? it = some o):SetIt h' it a slot i n ep:=by
 obtain ⟨o,e,q⟩:=x
 exact ⟨o,k o e,q⟩
theorem SetAt.at {h h':Heap} {a:Addr} {es:Array (Int × Value)} {ep:Nat} {t:SetTable} (x:SetAt h a es ep t) (k:∀ o,h.get? a = some o → h'.get? a = some o):SetAt h' a es ep t:=by
 obtain ⟨⟨o,e,q⟩,r1,r2,r3,r4⟩:=x
 exact ⟨⟨o,k o e,q⟩,r1,r2,r3,r4⟩
theorem jM:Slot "set_iterator" "__iter__" "set_iterator.__iter__" := .of (owner := "set_iterator") (n := "__iter__") (by rw [typeLookup_type,builtinLookup_eq_fast]; kernel_rfl) (by decide +kernel) (by decide +kernel) (by decide +kernel) (by first | exact .inl (by decide +kernel) | exact .inr (by decide +kernel)) (by rw [isSubtype_type]; kernel_rfl)
theorem nD:entryFor table "set_iterator.__iter__" = some Builtin.«dict_keyiterator.__iter__» := entryFor_alias (id' := "dict_keyiterator.__iter__") (by rw [Hi]; kernel_rfl) (by first | rfl | decide +kernel) (by decide +kernel) (by rw [Hi]; kernel_rfl)
theorem pJ (v:Value):argsOk "set_iterator.__iter__" ⟨[v],[]⟩:=by
 unfold argsOk
 rw [signature?_of (id := "set_iterator.__iter__") (n:=['_','_','r','e','t','i','_','_']) (o:=['r','o','t','a','r','e','t','i','_','t','e','s']) (by kernel_rfl) (show Manifest.owners.lookup (String.ofList ['r','o','t','a','r','e','t','i','_','t','e','s'].reverse) = some Manifest.sig_set_iterator by kernel_rfl)]
 kernel_rfl
section
variable {prog:Program} {w:World} {A:Around} {E:Value → Shared → Prop} {s:Shared} {a it ea:Addr} {es:Array (Int × Value)} {ep:Nat} {t:SetTable}
theorem aQT {slot i n:Nat} {Q:Value → Shared → Prop} (hit:SetIt s.heap it a slot i n ep) (h:Q (.ref it) s):wpAny (model prog w) A (pyIter (.ref it)) Q E s:=by
 obtain ⟨o,ho,hc,_⟩:=hit
 have hT:s.TypeIs (.ref it) "set_iterator" := ⟨o,ho,hc⟩
 refine wpAny_pyIter_slot hT jM (Cc jM hT nD ?_ (pJ _))
 exact Ae ⟨_,rfl, "set_iterator",_,hT,slot_setNext.lookup,h⟩
theorem vR (hl:w.params.followText "set-order" = true ∨ t.led = true) (hh:A.handled = some (.ref ea)) (hne:a ≠ it) (hni:ea ≠ it) :
   Walks prog w A it [it,a,ea] [it] es.size (fun i v => ((dC w a ep es)[i]?).map (·.2) = some v) (fun i h => (SetIt h it a (aV w t i) i es.size ep ∧ SetAt h a es ep t) ∧ CtxNone h ea) where
 sub:=fun b hb => by rw [Aq.mp hb]; exact An
 frame:=fun _ _ _ st hk => ⟨⟨st.1.1.at fun o e => hk it (by simp) o e,st.1.2.at fun o e => hk a (by simp) o e⟩,st.2.ext fun o e => hk ea (by simp) o e⟩
 item:=fun i s Q E hi st hQ => by
   have hi':i < (dC w a ep es).size:=by rw [iR]; exact hi
   have hx:(dC w a ep es)[i]? = some (dC w a ep es)[i]:=Aj hi'
   refine aXR st.1.2 hl st.1.1 hx hi fun h' it' sb => ?_
   exact hQ _ h' s.toks (by rw [hx]; rfl) ⟨⟨it',st.1.2.at fun o e => sb.extBut a o hne e⟩,st.2.ext fun o e => sb.extBut ea o hni e⟩ fun b o hb e => sb.extBut b o (fun z => hb (by rw [z]; exact Aq.mpr rfl)) e
 done:=fun s Q E st hQ => aZ4 hh hni st.2 st.1.2 hl (iR w a ep es) st.1.1 fun h' eb => hQ h' s.toks fun b o hb e => eb b o (fun z => hb (by rw [z]; exact Aq.mpr rfl)) e
 self:=fun _ _ _ _ st hQ => aQT st.1.1 hQ
theorem aXZ {Q:Bool → Shared → Prop} (hT:s.TypeIs (.ref a) "set") (h:Q false s):wpAny (model prog w) A (Builtin.List.listLengthHint (.ref a)) Q E s:=by
 unfold Builtin.List.listLengthHint
 refine Aa (Eu hT PySem.F.slot_set_len.lookup ?_)
 generalize hn:("set.__len__" : String) = nm
 wp_delta
 rw [show splitId nm = some ("set", "__len__") by subst hn; decide +kernel]
 subst hn
 refine Aa (wpAny_isInstance (T := "set") (b:=true) hT sub_set_self (wpAny_ite_split (fun z => absurd z (by decide)) fun _ => wpAny_ite_split (fun _ => Aa (wpAny_typeOf hT (Ae h))) fun z => absurd (by decide +kernel) z))
abbrev fR (w:World) (a:Addr) (ep:Nat) (es:Array (Int × Value)) (i:Nat) (v:Value):Prop:=((dC w a ep es)[i]?).map (·.2) = some v
theorem tB {R:Result → Shared → Prop} (Z:SetAt s.heap a es ep t) (hl:w.params.followText "set-order" = true ∨ t.led = true) (hh:A.in1.handled = some (.ref ea)) (hcn:CtxNone s.heap ea) (D:Addr) (nDa:D ≠ a) (nDe:D ≠ ea) (res:Value) (c₀:Nat) (hD:s.heap.get? D = some { cls:=.type "list",data:=.seq #[] c₀ }) (hn:es.size ≤ sizeLine)
   (hR:∀ h' tk acc c,(∀ b o,b ≠ D → s.heap.get? b = some o → h'.get? b = some o) → h'.get? D = some { cls:=.type "list",dict:=none,data:=.seq acc c,slots:=#[] } → ItemsOf (fR w a ep es) acc es.size → R (.ok (.ret res)) { s with heap:=h',toks:=tk }) :
   wpAny (model prog w) A.in1 (Builtin.List.listExtendWith (.ref D) (.ref a) res) (fun fin s' => match fin with | .done f => R (.ok f) s' | .again c' => c'.quiet = true ∧ codeAny (model prog w) A c' R s') (fun e s' => R (.error e) s') s:=by
 obtain ⟨o,ho,hc,hd⟩:=Z.ob
 have hT:s.TypeIs (.ref a) "set" := ⟨o,ho,hc⟩
 have lta:=Ak ho
 obtain ⟨oe,fe,he,hfe⟩:=id hcn
 have lte:=Ak he
 have ltD:=Ak hD
 have nf:D ∉ [s.heap.objs.size,a,ea]:=by
   simp only [List.mem_cons,List.not_mem_nil,or_false,not_or]
   exact ⟨Av ltD,nDa,nDe⟩
 have W:Walks prog w A.in1 s.heap.objs.size [s.heap.objs.size,a,ea] [s.heap.objs.size] es.size (fR w a ep es) _:=vR (t:=t) hl hh (Av lta) (Av lte)
 have go:∀ (h1:Heap) (c₁ tk:Nat),((SetIt h1 s.heap.objs.size a (aV w t 0) 0 es.size ep ∧ SetAt h1 a es ep t) ∧ CtxNone h1 ea) → (∀ b u,b ≠ D → s.heap.get? b = some u → h1.get? b = some u) → h1.get? D = some { cls:=.type "list",data:=.seq #[] c₁ } →
     codeAny (model prog w) A (.builtin "list.extend.loop" ⟨[.ref D,.ref s.heap.objs.size,res],[]⟩) R { s with heap:=h1,toks:=tk }:=fun h1 c₁ tk st k1 e1 => by
   refine codeAny_extend_loopS W.toS hn D nf res es.size 0 _ #[] c₁ rfl (Cq _) st e1 (ItemsOf.nil _) fun s2 acc c m2 e2 i2 => ?_
   rw [Moved.eq_with m2]
   exact hR s2.heap s2.toks acc c (fun b u nb e => m2.heap b u (fun hm => (Be.mp hm).elim nb fun z => absurd (Ak e) (by rw [Aq.mp z]; exact Cv _)) (k1 b u nb e)) e2 i2
 have st0:∀ {h1:Heap},(∀ b u,(b = s.heap.objs.size ∨ b = a ∨ b = ea) → (s.heap.push { cls:=.type "set_iterator",data:=.fields #[.int 0 0,.int 0 0,.ref a,.int es.size 0,.int ep 0] }).get? b = some u → h1.get? b = some u) → (SetIt h1 s.heap.objs.size a (aV w t 0) 0 es.size ep ∧ SetAt h1 a es ep t) ∧ CtxNone h1 ea:=fun {h1} k => by
   refine ⟨⟨⟨_,k _ _ (.inl rfl) (Ap _ rfl),rfl,?_⟩,Z.at fun u e => k a u (.inr (.inl rfl)) (Ad _ e)⟩,hcn.ext fun u e => k ea u (.inr (.inr rfl)) (Ad _ e)⟩
   have e0:aV w t 0 = 0:=by unfold aV; split <;> rfl
   rw [e0]
   rfl
 unfold Builtin.List.listExtendWith
 refine Aa (wpAny_typeOf (T := "set") hT ?_)
 simp only [show Builtin.List.listSameRef (.ref D) (.ref a) = false by simp [Builtin.List.listSameRef,nDa],show (Value.type "set" == Value.type "list") = false by decide,show (Value.type "set" == Value.type "tuple") = false by decide,Bool.or_false,Bool.false_eq_true,if_false]
 refine Aa (aXO Z (Aa (Bv (aXZ ⟨o,Ad _ ho,hc⟩ ?_))))
 have w1:=Ad { cls:=.type "set_iterator",data:=.fields #[.int 0 0,.int 0 0,.ref a,.int es.size 0,.int ep 0] } hD
 refine wpAny_ite_split (fun _ => Aa (wpAny_rule (Aa ?_))) fun _ => Ae ⟨El PySem.F.plain_extend_loop _,go _ c₀ _ (st0 fun b u _ e => e) (fun b u _ e => Ad _ e) w1⟩
 show wpAny _ _ (updateSeq D (·.push .none) >>= fun _ => updateSeq D (·.pop)) _ _ _
 refine Aa (wpAny_updateSeq w1 rfl ?_)
 have w2:=Dj (Obj.mapSeq (·.push Value.none)) w1 rfl
 refine wpAny_updateSeq (hz:=by seq_fits) w2 rfl ?_
 have w3:=Dj (Obj.mapSeq (·.pop)) w2 rfl
 have oth:∀ b u,b ≠ D → (s.heap.push { cls:=.type "set_iterator",data:=.fields #[.int 0 0,.int 0 0,.ref a,.int es.size 0,.int ep 0] }).get? b = some u → (((s.heap.push { cls:=.type "set_iterator",data:=.fields #[.int 0 0,.int 0 0,.ref a,.int es.size 0,.int ep 0] }).update D (Obj.mapSeq (·.push Value.none))).update D (Obj.mapSeq (·.pop))).get? b = some u :=
   fun b u nb e => (Bj _ _ nb.symm).trans ((Bj _ _ nb.symm).trans e)
 refine Ae ⟨El PySem.F.plain_extend_loop _,go _ _ _ (st0 fun b u hb e => oth b u (fun z => nf ?_) e) (fun b u nb e => oth b u nb (Ad _ e)) w3⟩
 rcases hb with y | y | y <;> rw [← z,y] <;> simp
theorem qS {R:List Value → Shared → Prop} (Z:SetAt s.heap a es ep t) (hl:w.params.followText "set-order" = true ∨ t.led = true) (hh:A.handled = some (.ref ea)) (hcn:CtxNone s.heap ea) (hn:es.size ≤ sizeLine)
   (h:∀ h' tk (acc:Array Value),(∀ b o,s.heap.get? b = some o → h'.get? b = some o) → s.heap.objs.size < h'.objs.size → ItemsOf (fR w a ep es) acc es.size → R acc.toList { s with heap:=h',toks:=tk }):wpAny (model prog w) A (collect (.ref a)) R E s:=by
 obtain ⟨o,ho,hc,hd⟩:=Z.ob
 have lta:=Ak ho
 have lte:ea < s.heap.objs.size:=by obtain ⟨_,_,he,_⟩:=hcn; exact Ak he
 have up:∀ b u,s.heap.get? b = some u → (s.heap.push { cls:=.type "list",data:=.seq ([]:List Value).toArray }).get? b = some u:=fun b u e => Ad _ e
 unfold collect
 refine Aa (wpAny_runValue (Dv PyProof.Rows.entry_proto_collect' ?_))
 rw [Dd PySem.F.plain_proto_collect _]
 refine (show wpAny (model prog w) A.in1 (newList [] >>= fun l => again (.builtin "list.__iadd__" ⟨[l,.ref a],[]⟩)) _ _ s from Aa (Eg (Ae ⟨El PySem.F.plain_list_iadd _,Dv PyProof.Rows.entry_list_iadd' ?_⟩)))
 rw [Dd PySem.F.plain_list_iadd _]
 have key:=tB (prog:=prog) (A:=A) (s:={ s with heap:=s.heap.push { cls:=.type "list",data:=.seq ([]:List Value).toArray } }) (R:=fun q s' => ∃ h' tk acc c,q = .ok (.ret (.ref s.heap.objs.size)) ∧ s' = { s with heap:=h',toks:=tk } ∧ (∀ b u,s.heap.get? b = some u → h'.get? b = some u) ∧ h'.get? s.heap.objs.size = some { cls:=.type "list",dict:=none,data:=.seq acc c,slots:=#[] } ∧ ItemsOf (fR w a ep es) acc es.size)
   (Z.at fun u e => up a u e) hl hh (hcn.ext fun u e => up ea u e) s.heap.objs.size (Fm lta) (Fm lte) (.ref s.heap.objs.size) 0 (Ap _ rfl) hn fun h' tk acc c k e i => ⟨h',tk,acc,c,rfl,rfl,fun b u q => k b u (Av (Ak q)) (up b u q),e,i⟩
 refine (show wpAny (model prog w) A.in1 (Builtin.List.listExtendWith (.ref s.heap.objs.size) (.ref a) (.ref s.heap.objs.size)) _ _ _ from Bw key (fun f s2 x => ?_) fun e s2 x => ?_)
 · cases f with
   | done f =>
     obtain ⟨h',tk,acc,c,e,rfl,k,e2,i⟩:=x
     cases e
     refine (show wpAny _ A (load s.heap.objs.size >>= _) _ _ _ from Aa (wpAny_load e2 (Ae (h h' tk acc k (Ak e2) i))))
   | again c1 =>
     refine ⟨x.1,Ek x.2 fun q s3 y => ?_⟩
     obtain ⟨h',tk,acc,c,rfl,rfl,k,e2,i⟩:=y
     refine (show wpAny _ A (load s.heap.objs.size >>= _) _ _ _ from Aa (wpAny_load e2 (Ae (h h' tk acc k (Ak e2) i))))
 · obtain ⟨_,_,_,_,z,_⟩:=x
   cases z
end
end L2
set_option maxHeartbeats 1000000
namespace L2
open PySem PySem.Spec PyProof.Rows
open PySem.W (KasT kas_sort kas_rev kas_asc kas_desc kas_tail3 kas_descPart kas_count kas_place kas_bin)
def KR {α:Type} (lt:Nat → Nat → Bool) (n:Nat) (t:KasT α) (a:α):Prop:=kok lt n t = true ∧ vG lt t = a
theorem KR.ret {α:Type} {lt:Nat → Nat → Bool} {n:Nat} (a:α):KR lt n (.ret a) a:=⟨rfl,rfl⟩
theorem KR.ask {α:Type} {lt:Nat → Nat → Bool} {n i j:Nat} {k:Bool → KasT α} {a:α} (hi:i < n) (hj:j < n) (h:KR lt n (k (lt i j)) a):KR lt n (.ask i j k) a:=⟨by simp only [kok,hi,hj,decide_true,Bool.true_and]; exact h.1,h.2⟩
theorem KR.bind {α β:Type} {lt:Nat → Nat → Bool} {n:Nat} {f:α → KasT β} {b:β}:∀ {t:KasT α} {a:α},KR lt n t a → KR lt n (f a) b → KR lt n (t.bind f) b
 | .ret a',a,h,g => by
   obtain ⟨_,rfl⟩:=h
   exact g
 | .ask i j k,a,h,g => by
   obtain ⟨h1,h2⟩:=h
   simp only [kok,Bool.and_eq_true,decide_eq_true_eq] at h1
   exact KR.ask h1.1.1 h1.1.2 (KR.bind (t:=k (lt i j)) ⟨h1.2,h2⟩ g)
section
variable {r:Nat → Nat} {n:Nat}
abbrev ltR (r:Nat → Nat) (i j:Nat):Bool:=decide (r i < r j)
structure Ord (r:Nat → Nat) (n:Nat) (p:Array Nat):Prop where
 perm:p.toList.Perm (List.range n)
 inj:∀ i j,i < n → j < n → r i = r j → i = j
theorem Ord.size {p:Array Nat} (h:Ord r n p):p.size = n:=by
 have:=h.perm.length_eq
 simpa using this
theorem Ord.lt {p:Array Nat} (h:Ord r n p) {i:Nat} (hi:i < n):p.getD i 0 < n:=by
 have hs:=h.size
 have:p.getD i 0 ∈ p.toList:=by
   rw [Ah,Aj (by omega)]
   exact Dm _
 exact Bn.mp (h.perm.subset this)
theorem Ord.ne {p:Array Nat} (h:Ord r n p) {i j:Nat} (hij:i < j) (hj:j < n):r (p.getD i 0) ≠ r (p.getD j 0):=fun z => by
 have hs:=h.size
 have e:=h.inj _ _ (h.lt (by omega)) (h.lt hj) z
 have nd:p.toList.Nodup:=h.perm.nodup_iff.mpr List.nodup_range
 rw [Ah,Ah,Aj (by omega),Aj (by omega)] at e
 have:=(List.pairwise_iff_getElem.mp nd) i j (by simp; omega) (by simp; omega) hij
 exact this (by simpa using e)
theorem Ord.move {p q:Array Nat} (h:Ord r n p) (hq:q.Perm p):Ord r n q:=⟨(Array.perm_iff_toList_perm.mp hq).trans h.perm,h.inj⟩
def Up (r:Nat → Nat) (p:Array Nat) (k:Nat):Prop:=∀ i j,i < j → j < k → r (p.getD i 0) < r (p.getD j 0)
def Dn (r:Nat → Nat) (p:Array Nat) (k:Nat):Prop:=∀ i j,i < j → j < k → r (p.getD j 0) < r (p.getD i 0)
theorem Up.succ {p:Array Nat} {k:Nat} (h:Up r p k) (hk:1 ≤ k) (e:r (p.getD (k - 1) 0) < r (p.getD k 0)):Up r p (k + 1):=fun i j hij hj => by
 by_cases z:j = k
 · subst z
   by_cases y:i = j - 1
   · subst y; exact e
   · exact Nat.lt_trans (h i (j - 1) (by omega) (by omega)) e
 · exact h i j hij (by omega)
theorem Dn.succ {p:Array Nat} {k:Nat} (h:Dn r p k) (hk:1 ≤ k) (e:r (p.getD k 0) < r (p.getD (k - 1) 0)):Dn r p (k + 1):=fun i j hij hj => by
 by_cases z:j = k
 · subst z
   by_cases y:i = j - 1
   · subst y; exact e
   · exact Nat.lt_trans e (h i (j - 1) (by omega) (by omega))
 · exact h i j hij (by omega)
theorem uS {p:Array Nat} (O:Ord r n p):∀ (f k:Nat),1 ≤ k → k + f = n → Up r p k → ∃ m,KR (ltR r) n (kas_asc p f k) m ∧ k ≤ m ∧ m ≤ n ∧ Up r p m ∧ (m < n → r (p.getD m 0) < r (p.getD (m - 1) 0))
 | 0,k,h1,hk,u => ⟨k,KR.ret _,Ai _,by omega,u,fun z => absurd z (by omega)⟩
 | f + 1,k,h1,hk,u => by
   by_cases e:r (p.getD k 0) < r (p.getD (k - 1) 0)
   · refine ⟨k,KR.ask (O.lt (by omega)) (O.lt (by omega)) ?_,Ai _,by omega,u,fun _ => e⟩
     rw [show ltR r (p.getD k 0) (p.getD (k - 1) 0) = true from Au e,if_pos rfl]
     exact KR.ret _
   · have ne:=O.ne (i:=k - 1) (j:=k) (by omega) (by omega)
     obtain ⟨m,h2,h3,h4,h5,h6⟩:=uS O f (k + 1) (by omega) (by omega) (u.succ h1 (by omega))
     refine ⟨m,KR.ask (O.lt (by omega)) (O.lt (by omega)) ?_,by omega,h4,h5,h6⟩
     rw [show ltR r (p.getD k 0) (p.getD (k - 1) 0) = false from Bd e,if_neg (by decide)]
     exact h2
theorem xF {p:Array Nat} (O:Ord r n p):∀ (f k:Nat),1 ≤ k → k + f = n → Dn r p k → ∃ m,KR (ltR r) n (kas_desc f p k 0) (p,m,0) ∧ k ≤ m ∧ m ≤ n ∧ Dn r p m
 | 0,k,h1,hk,u => ⟨k,KR.ret _,Ai _,by omega,u⟩
 | f + 1,k,h1,hk,u => by
   by_cases e:r (p.getD k 0) < r (p.getD (k - 1) 0)
   · obtain ⟨m,h2,h3,h4,h5⟩:=xF O f (k + 1) (by omega) (by omega) (u.succ h1 e)
     refine ⟨m,KR.ask (O.lt (by omega)) (O.lt (by omega)) ?_,by omega,h4,h5⟩
     rw [show ltR r (p.getD k 0) (p.getD (k - 1) 0) = true from Au e,if_pos rfl,if_neg (by decide)]
     exact h2
   · have ne:=O.ne (i:=k - 1) (j:=k) (by omega) (by omega)
     refine ⟨k,KR.ask (O.lt (by omega)) (O.lt (by omega)) ?_,Ai _,by omega,u⟩
     rw [show ltR r (p.getD k 0) (p.getD (k - 1) 0) = false from Bd e,if_neg (by decide)]
     refine KR.ask (O.lt (by omega)) (O.lt (by omega)) ?_
     rw [show ltR r (p.getD (k - 1) 0) (p.getD k 0) = true from Au (by omega),if_pos rfl]
     exact KR.ret _
theorem bJ1 {p:Array Nat} {k:Nat} (hk:k ≤ p.size) (d:Dn r p k):Up r (kas_rev p 0 k) k:=fun i j hij hj => by
 unfold kas_rev
 rw [Ah,Ah,getElem?_mirror_all hk,getElem?_mirror_all hk,if_pos ⟨Cq _,by omega⟩,if_pos ⟨Cq _,hj⟩,← Ah,← Ah]
 exact d _ _ (by omega) (by omega)
theorem aXY {p:Array Nat} (O:Ord r n p) (hn:2 ≤ n):∃ m q,KR (ltR r) n (kas_count n p) (m,q) ∧ 1 ≤ m ∧ m ≤ n ∧ Ord r n q ∧ Up r q m:=by
 obtain ⟨m,h1,h2,h3,h4,h5⟩:=uS O (n - 1) 1 (Ai _) (by omega) (fun i j hij hj => absurd hj (by omega))
 unfold kas_count
 by_cases e:m = n
 · refine ⟨m,p,KR.bind h1 ?_,h2,h3,O,h4⟩
   rw [if_pos (by rw [e]; exact Hk n)]
   exact KR.ret _
 · have eb:¬ ((m == n) = true):=by rw [Gc]; exact e
   by_cases g:1 < m
   · refine ⟨m,p,KR.bind h1 ?_,h2,h3,O,h4⟩
     rw [if_neg eb,if_pos g]
     refine KR.ask (O.lt (by omega)) (O.lt (by omega)) ?_
     rw [show ltR r (p.getD 0 0) (p.getD (m - 1) 0) = true from Au (h4 0 (m - 1) (by omega) (by omega)),if_pos rfl]
     exact KR.ret _
   · obtain rfl:m = 1:=by omega
     have d2:Dn r p 2:=Dn.succ (k:=1) (fun i j hij hj => absurd hj (by omega)) (Ai _) (h5 (by omega))
     obtain ⟨k,k1,k2,k3,k4⟩:=xF O (n - 2) 2 (by omega) (by omega) d2
     have O2:Ord r n (kas_rev p 0 k):=O.move (mirror_perm _ _ _ _)
     have u2:=bJ1 (by rw [O.size]; exact k3) k4
     obtain ⟨m2,a1,a2,a3,a4,_⟩:=uS O2 (n - k) k (by omega) (by omega) u2
     refine ⟨m2,kas_rev p 0 k,KR.bind h1 ?_,by omega,a3,O2,a4⟩
     rw [if_neg eb,if_neg (by omega)]
     unfold kas_descPart
     refine KR.bind k1 ?_
     show KR (ltR r) n (if (0:Nat) > 0 then _ else kas_tail3 k n p) _
     rw [if_neg (by decide)]
     unfold kas_tail3
     exact KR.bind a1 (KR.ret _)
theorem mO {p:Array Nat} (O:Ord r n p) {k:Nat} (hk:k < n) (u:Up r p k):∀ (f l q:Nat),q - l ≤ f → l ≤ q → q ≤ k → (∀ i,i < l → r (p.getD i 0) < r (p.getD k 0)) → (∀ i,q ≤ i → i < k → r (p.getD k 0) < r (p.getD i 0)) →
   ∃ m,KR (ltR r) n (kas_place p k f l q) m ∧ m ≤ k ∧ (∀ i,i < m → r (p.getD i 0) < r (p.getD k 0)) ∧ ∀ i,m ≤ i → i < k → r (p.getD k 0) < r (p.getD i 0)
 | 0,l,q,h1,h2,h3,h4,h5 => ⟨l,KR.ret _,by omega,h4,fun i hi => h5 i (by omega)⟩
 | f + 1,l,q,h1,h2,h3,h4,h5 => by
   unfold kas_place
   by_cases e:l ≥ q
   · refine ⟨l,?_,by omega,h4,fun i hi => h5 i (by omega)⟩
     rw [if_pos e]
     exact KR.ret _
   · have mid:(l + q) / 2 < k:=by omega
     have ne:=O.ne mid hk
     by_cases g:r (p.getD k 0) < r (p.getD ((l + q) / 2) 0)
     · obtain ⟨m,m1,m2,m3,m4⟩:=mO O hk u f l ((l + q) / 2) (by omega) (by omega) (by omega) h4 (fun i hi hik => by
         by_cases z:i = (l + q) / 2
         · rw [z]; exact g
         · exact Nat.lt_trans g (u _ _ (by omega) hik))
       refine ⟨m,?_,m2,m3,m4⟩
       rw [if_neg e]
       refine KR.ask (O.lt hk) (O.lt (by omega)) ?_
       rw [show ltR r (p.getD k 0) (p.getD ((l + q) / 2) 0) = true from Au g,if_pos rfl]
       exact m1
     · obtain ⟨m,m1,m2,m3,m4⟩:=mO O hk u f ((l + q) / 2 + 1) q (by omega) (by omega) h3 (fun i hi => by
         by_cases z:i = (l + q) / 2
         · rw [z]; omega
         · have:=u i ((l + q) / 2) (by omega) mid
           omega) h5
       refine ⟨m,?_,m2,m3,m4⟩
       rw [if_neg e]
       refine KR.ask (O.lt hk) (O.lt (by omega)) ?_
       rw [show ltR r (p.getD k 0) (p.getD ((l + q) / 2) 0) = false from Bd g,if_neg (by decide)]
       exact m1
theorem aQI {p:Array Nat} {k m:Nat} (hk:k < p.size) (hm:m ≤ k) (u:Up r p k) (h1:∀ i,i < m → r (p.getD i 0) < r (p.getD k 0)) (h2:∀ i,m ≤ i → i < k → r (p.getD k 0) < r (p.getD i 0)):Up r (bubble p k (k - m)) (k + 1):=by
 have g:∀ i,(bubble p k (k - m)).getD i 0 = if i = m then p.getD k 0 else if m < i ∧ i ≤ k then p.getD (i - 1) 0 else p.getD i 0:=fun i => by
   rw [Ah,getElem?_bubble hk (k - m) (by omega),show k - (k - m) = m by omega]
   by_cases a:i = m
   · rw [if_pos a,if_pos a,Ah]
   · rw [if_neg a,if_neg a]
     by_cases b:m < i ∧ i ≤ k
     · rw [if_pos b,if_pos b,Ah]
     · rw [if_neg b,if_neg b,Ah]
 intro i j hij hj
 rw [g i,g j]
 by_cases a:i = m
 · rw [if_pos a,if_neg (by omega),if_pos (by omega)]
   exact h2 (j - 1) (by omega) (by omega)
 · rw [if_neg a]
   by_cases b:j = m
   · rw [if_pos b,if_neg (by omega)]
     exact h1 i (by omega)
   · rw [if_neg b]
     by_cases c:m < i ∧ i ≤ k
     · rw [if_pos c,if_pos (by omega)]
       exact u _ _ (by omega) (by omega)
     · rw [if_neg c]
       by_cases d:m < j ∧ j ≤ k
       · rw [if_pos d]
         exact u _ _ (by omega) (by omega)
       · rw [if_neg d]
         exact u _ _ hij (by omega)
theorem aZ7:∀ (f:Nat) {p:Array Nat} {k:Nat},Ord r n p → k + f = n → Up r p k → ∃ q,KR (ltR r) n (kas_bin f p k) q ∧ Ord r n q ∧ Up r q n
 | 0,p,k,O,hk,u => ⟨p,KR.ret _,O,by rw [← hk]; exact u⟩
 | f + 1,p,k,O,hk,u => by
   obtain ⟨m,m1,m2,m3,m4⟩:=mO O (k:=k) (by omega) u k 0 k (by omega) (Cq _) (Ai _) (fun i hi => absurd hi (Ey _)) (fun i h1 h2 => absurd h2 (by omega))
   obtain ⟨q,q1,q2,q3⟩:=aZ7 f (p:=bubble p k (k - m)) (k:=k + 1) (O.move (bubble_perm _ _ _)) (by omega) (aQI (by rw [O.size]; omega) m2 u m3 m4)
   exact ⟨q,KR.bind m1 q1,q2,q3⟩
theorem kX (hn:2 ≤ n) (inj:∀ i j,i < n → j < n → r i = r j → i = j):∃ q,KR (ltR r) n (kas_sort n) q ∧ Ord r n q ∧ Up r q n:=by
 have O:Ord r n (List.toArray (List.range n)):=⟨by rw [Fh],inj⟩
 obtain ⟨m,p,h1,h2,h3,h4,h5⟩:=aXY O hn
 unfold kas_sort
 by_cases e:m < n
 · obtain ⟨q,q1,q2,q3⟩:=aZ7 (n - m) h4 (k:=m) (by omega) h5
   refine ⟨q,KR.bind h1 ?_,q2,q3⟩
   rw [if_pos e,Nat.max_eq_left h2]
   exact q1
 · refine ⟨p,KR.bind h1 ?_,h4,by rw [← show m = n by omega]; exact h5⟩
   rw [if_neg e]
   exact KR.ret _
end
end L2
set_option maxHeartbeats 1000000
namespace L2
open PySem PySem.Spec PyProof.Rows
open PySem.W (KasT kas_sort kas_cmp kas_item kas_item_eq kas_range kas_runs kas_kind kas_st)
section
variable {prog:Program} {w:World} {A:Around} {E:Value → Shared → Prop} {s:Shared}
theorem rC {κ:SortKind} {lt:Nat → Nat → Bool} {a:Addr} {vs:List Value} {n:Nat} {P:PySem.Fin → Shared → Prop} (ho:s.heap.get? a = some (seqObj "list" vs.toArray n))
   (hkind:2 ≤ vs.length → ∀ h':Heap,(∀ b o,b ≠ a → s.heap.get? b = some o → h'.get? b = some o) → ∀ (Q':SortKind → Shared → Prop) (E':Value → Shared → Prop),Q' κ { s with heap:=h' } → wpAny (model prog w) A (keyKind' vs.toArray) Q' E' { s with heap:=h' })
   (hlt:∀ h':Heap,(∀ b o,b ≠ a → s.heap.get? b = some o → h'.get? b = some o) → ∀ i j (C:Bool → Shared → Prop),i < vs.length → j < vs.length → C (lt i j) { s with heap:=h' } →
     wpAny (model prog w) A (keyLt' κ (vs.getD i .none) (vs.getD j .none)) C (fun _ _ => False) { s with heap:=h' })
   (h64:vs.length < 64) (hok:2 ≤ vs.length → kok lt vs.length (kas_sort vs.length) = true)
   (h:P (.done (.ret .none)) { s with heap:=sortedHeap s.heap a vs (dO lt vs).toArray }):wpAny (model prog w) A (Builtin.«list.sort» ⟨[.ref a],[]⟩) P E s:=by
 obtain ⟨c,e1,e6⟩:=bQW ho
 have z:vs.length ≤ sizeLine:=Fl (bD (by omega))
 have zz:∀ out:Array Value,out.size ≤ 64 → out.size ≤ sizeLine + 1:=fun out q => Nat.le_succ_of_le (Fl (bD (by omega)))
 rw [list_sort_plain]
 refine Aa (listItems_at ho rfl (Aa (listUpdate_at ho rfl (Aa (seqEpoch_at e1 rfl (Aa (wpAny_newTuple (Aa (wpAny_newList (Bv ?_) (Cq _))) z)))) z (Cq _))))
 change wpAny (model prog w) A _ P E { s with heap:=xY s.heap a vs }
 dsimp only
 replace h:P (.done (.ret .none)) { s with heap:=(xY s.heap a vs).update a (Obj.mapSeq fun _ => (dO lt vs).toArray) }:=h
 have old:∀ b o,b ≠ a → s.heap.get? b = some o → (xY s.heap a vs).get? b = some o:=fun _ _ => aQQ
 generalize xY s.heap a vs = hm at *
 by_cases h2:vs.length < 2
 · simp only [List.size_toArray,if_pos h2]
   refine Aa (Ae (Aa (wpAny_of_eq (StateT.run_pure ..) (Aa (seqEpoch_at e6 rfl (Aa (listUpdate_at e6 rfl ?_ (Cq _) ?_)))))))
   all_goals rw [show (arrOf (SortSt.mk' general' (vs.toArray.zip vs.toArray) #[] 7 none)).map (·.2) = (dO lt vs).toArray from (qI vs).trans (Cr List.toArray (if_pos h2).symm)]
   · simp only [bne_self_eq_false,Bool.false_eq_true,if_false]
     exact Ae h
   · exact zz _ (by rw [Bu,show dO lt vs = vs from if_pos h2]; omega)
 · have h2':2 ≤ vs.length:=Nat.le_of_not_lt h2
   simp only [List.size_toArray,if_neg h2]
   refine Aa (hkind h2' hm old _ _ ?_)
   have eN:SortSt.mk' κ (vs.toArray.zip vs.toArray) #[] 7 none = kas_st κ (pairsOf vs) (List.toArray (List.range vs.length)):=by
     have e:=kas_range (pairsOf vs)
     rw [pairsOf_size] at e
     exact Cr (fun x => SortSt.mk' κ x #[] 7 none) e.symm
   rw [eN]
   refine Aa (Bw (kas_runs (Q:=fun _ st s' => ∃ p:Array Nat,p.size = vs.length ∧ p = vG lt (kas_sort vs.length) ∧ arrOf st = p.map (kas_item (pairsOf vs)) ∧ failedOf st = none ∧ s' = { s with heap:=hm }) (G:=fun p s' => s' = { s with heap:=hm } ∧ p = vG lt (kas_sort vs.length))
     h2' h64 (fun p st s' x1 x2 x3 x4 => ⟨p,x1,x4.2,x2,x3,x4.1⟩) (sL (lt:=lt) (n:=vs.length) (fun i j C hi hj hC => ?_) _ (hok h2') ⟨rfl,rfl⟩)) ?_ fun _ _ e => e)
   · unfold kas_cmp
     rw [kas_item_eq,kas_item_eq]
     exact hlt hm old i j C hi hj hC
   rintro ⟨_,st⟩ _ ⟨p,x1,x2,x3,x4,rfl⟩
   obtain ⟨y1,y2⟩:=yV h2 x2 x1
   have out:(arrOf st).map (·.2) = (dO lt vs).toArray:=by rw [x3,zR,y2]
   dsimp only
   rw [out]
   refine Aa (seqEpoch_at e6 rfl (Aa (listUpdate_at e6 rfl ?_ (Cq _) (zz _ (by rw [Bu,y1]; omega)))))
   rw [x4]
   simp only [bne_self_eq_false,Bool.false_eq_true,if_false]
   exact Ae h
def aQ (w:World) (a:Addr) (ep:Nat) (es:Array (Int × Value)):List Value:=(dC w a ep es).toList.map (·.2)
theorem uX {a:Addr} {ep:Nat} {es:Array (Int × Value)} {acc:Array Value} (h:ItemsOf (fR w a ep es) acc es.size):acc.toList = aQ w a ep es:=by
 refine List.ext_getElem? fun i => ?_
 by_cases hi:i < acc.size
 · have h1:acc[i]? = some acc[i]:=Aj hi
   have h2:=h.2 i _ h1
   unfold aQ
   rw [Bz,h1,Al,Bz]
   exact h2.symm
 · have hz:=h.1
   have ho:=iR w a ep es
   unfold aQ
   rw [List.getElem?_eq_none (by simp; omega),List.getElem?_eq_none (by simp; omega)]
theorem kG {κ:SortKind} {lt:Nat → Nat → Bool} {a ea:Addr} {es:Array (Int × Value)} {ep:Nat} {t:SetTable} {Q:Value → Shared → Prop} (Z:SetAt s.heap a es ep t) (hl:w.params.followText "set-order" = true ∨ t.led = true) (hh:A.handled = some (.ref ea)) (hcn:CtxNone s.heap ea) (h64:es.size < 64)
   (hkind:2 ≤ (aQ w a ep es).length → ∀ (h':Heap) (tk:Nat),(∀ b o,s.heap.get? b = some o → h'.get? b = some o) → ∀ (Q':SortKind → Shared → Prop) (E':Value → Shared → Prop),Q' κ { s with heap:=h',toks:=tk } → wpAny (model prog w) A.in1.in1 (keyKind' (aQ w a ep es).toArray) Q' E' { s with heap:=h',toks:=tk })
   (hlt:∀ (h':Heap) (tk:Nat),(∀ b o,s.heap.get? b = some o → h'.get? b = some o) → ∀ i j (C:Bool → Shared → Prop),i < (aQ w a ep es).length → j < (aQ w a ep es).length → C (lt i j) { s with heap:=h',toks:=tk } →
     wpAny (model prog w) A.in1.in1 (keyLt' κ ((aQ w a ep es).getD i .none) ((aQ w a ep es).getD j .none)) C (fun _ _ => False) { s with heap:=h',toks:=tk })
   (hok:2 ≤ (aQ w a ep es).length → kok lt (aQ w a ep es).length (kas_sort (aQ w a ep es).length) = true)
   (h:∀ D h' tk c,(∀ b o,s.heap.get? b = some o → h'.get? b = some o) → s.heap.objs.size ≤ D → h'.get? D = some (seqObj "list" (dO lt (aQ w a ep es)).toArray c) → Q (.ref D) { s with heap:=h',toks:=tk }) :
   wpAny (model prog w) A (call (.builtin "sorted") [.ref a]) Q E s:=by
 have hlen:(aQ w a ep es).length = es.size:=by unfold aQ; rw [Ac,Aw,iR]
 have z:es.size ≤ sizeLine:=Fl (bD (by omega))
 obtain ⟨o,ho,_⟩:=Z.ob
 refine Calls.call_function_entry kind_sorted plain_sorted entry_sorted (args_sorted1 _) ?_
 unfold Builtin.«sorted»
 refine Aa (m:=checkCount "sorted" 1 1 _) (Ae (Aa (qS (A:=A.in1) Z hl hh hcn z fun h1 tk acc k1 z1 i1 => ?_)))
 rw [uX i1]
 refine Aa (wpAny_newList ?_ (by rw [hlen]; exact z))
 have e1:(h1.push { cls:=.type "list",data:=.seq (aQ w a ep es).toArray }).get? h1.objs.size = some (seqObj "list" (aQ w a ep es).toArray 0):=Ap _ rfl
 have up:∀ b u,s.heap.get? b = some u → (h1.push { cls:=.type "list",data:=.seq (aQ w a ep es).toArray }).get? b = some u ∧ b ≠ h1.objs.size:=fun b u q => ⟨Ad _ (k1 b u q),Av (Ak (k1 b u q))⟩
 refine Aa (Bv (Cc slot_list_sort ⟨_,e1,rfl⟩ entry_list_sort (rC (κ:=κ) (lt:=lt) e1 (fun h2 h' k Q' E' q => hkind h2 h' tk (fun b u e => k b u (up b u e).2 (up b u e).1) Q' E' q) (fun h' k => hlt h' tk fun b u e => k b u (up b u e).2 (up b u e).1) (by omega) hok ⟨_,rfl,Ae ⟨_,rfl,?_⟩⟩) (args_list_sort _)))
 obtain ⟨c,ec⟩:=sortedHeap_at (vs:=aQ w a ep es) (out:=(dO lt (aQ w a ep es)).toArray) e1
 exact h _ _ tk c (fun b u e => (sortedHeap_old (up b u e).2 (Ak (up b u e).1)).trans (up b u e).1) (Fl z1) ec
end
end L2
set_option maxHeartbeats 1000000
namespace L2
open PySem PySem.Spec PyProof.Rows
open PySem.W (KasT kas_sort KatTups kat_kind kat_lt kat_cons kat_yes kat_no kat_nil kat_one KatGo)
section
variable {prog:Program} {w:World} {A:Around} {E:Value → Shared → Prop} {s:Shared}
def rE (h:Heap) (v:Value) (k:Int × Int):Prop:=∃ (x:Addr) (t u:Tok),v = .ref x ∧ h.IsTuple x #[.int k.1 t,.int k.2 u]
def aX5 (x y:Int × Int):Bool:=decide (x.1 < y.1 ∨ x.1 = y.1 ∧ x.2 < y.2)
theorem aJL {x y:Value} {k m:Int × Int} {Q:Bool → Shared → Prop} (hx:rE s.heap x k) (hy:rE s.heap y m) (h:Q (aX5 k m) s):wpAny (model prog w) A (keyLt' (tuples' true) x y) Q E s:=by
 obtain ⟨x,t1,u1,rfl,ox,gx,_,nx,dx⟩:=hx
 obtain ⟨y,t2,u2,rfl,oy,gy,_,ny,dy⟩:=hy
 refine kat_lt gx dx gy dy (kat_cons (wpAny_eqBool_int ?_))
 by_cases e:k.1 = m.1
 · rw [show (k.1 == m.1) = true by rw [Gc]; exact e]
   refine kat_yes (kat_cons (wpAny_eqBool_int ?_))
   by_cases g:k.2 = m.2
   · rw [show (k.2 == m.2) = true by rw [Gc]; exact g]
     refine kat_yes (kat_nil ?_)
     rw [show aX5 k m = false from Bd (by omega)] at h
     exact h
   · rw [show (k.2 == m.2) = false by rw [Dh]; exact g]
     refine kat_no (kat_one _ _ (show wpAny _ _ (richCompare .Lt _ _) _ _ s from ?_))
     refine CmpOf.ints_lt (P:=fun i v => (i = 0 → ∃ t,v = Value.int k.2 t) ∧ (i = 1 → ∃ t,v = .int m.2 t) ∧ i ≤ 1) (fun i => if i = 0 then k.2 else m.2) (fun i v hv => ?_) 0 1 _ _ s _ _ ⟨fun _ => ⟨_,rfl⟩,fun z => absurd z (by decide),by decide⟩ ⟨fun z => absurd z (by decide),fun _ => ⟨_,rfl⟩,by decide⟩ ?_
     · obtain ⟨h0,h1,h2⟩:=hv
       by_cases z:i = 0
       · obtain ⟨t,rfl⟩:=h0 z; exact ⟨t,by rw [if_pos z]⟩
       · obtain ⟨t,rfl⟩:=h1 (by omega); exact ⟨t,by rw [if_neg z]⟩
     · have e2:aX5 k m = decide (k.2 < m.2):=Dg.mpr ⟨fun z => by omega,fun z => .inr ⟨e,z⟩⟩
       rw [e2] at h
       exact h
 · rw [show (k.1 == m.1) = false by rw [Dh]; exact e]
   refine kat_no (oneLt_int ?_)
   have e2:aX5 k m = decide (k.1 < m.1):=Dg.mpr ⟨fun z => by omega,fun z => .inl z⟩
   rw [e2] at h
   exact h
theorem lZ {h:Heap}:∀ {vs:List Value},(∀ v ∈ vs,∃ k,rE h v k) → ∃ fs,KatTups h vs fs ∧ fs.length = vs.length ∧ ∀ f ∈ fs,∃ i t,f = Value.int i t
 | [],_ => ⟨[],KatTups.nil,rfl,fun f hf => nomatch hf⟩
 | v :: r,hv => by
   obtain ⟨fs,h1,h2,h3⟩:=lZ (vs:=r) fun x hx => hv x (Am _ hx)
   obtain ⟨k,x,t,u,rfl,o,g,c,n,d⟩:=hv _ An
   refine ⟨.int k.1 t :: fs,KatTups.cons g c d rfl h1,by rw [Bi,Bi,h2],fun f hf => ?_⟩
   rcases Be.mp hf with z | z
   · exact ⟨_,_,z⟩
   · exact h3 f z
theorem aQN {vs:List Value} {Q:SortKind → Shared → Prop} (hv:∀ v ∈ vs,∃ k,rE s.heap v k) (hn:0 < vs.length) (h:Q (tuples' true) s):wpAny (model prog w) A (keyKind' vs.toArray) Q E s:=by
 obtain ⟨fs,h1,h2,h3⟩:=lZ hv
 refine kat_kind (T:=.type "int") h1 (by omega) (fun v hv' => ?_) (by decide) h
 obtain ⟨i,t,rfl⟩:=h3 v hv'
 exact .now
end
end L2
set_option maxHeartbeats 1000000
namespace L2
open PySem PySem.Spec PyProof.Rows
theorem fT (vs:List Value):(List.range vs.length).map (fun j => vs.getD j .none) = vs:=by
 refine List.ext_getElem (by simp) fun i h1 h2 => ?_
 rw [Eb,Gw,Ag,Ab h2]
 rfl
def nJ (w:World) (a:Addr) (rs:List Addr):HO:=.ext fun h => ∃ es ep t,SetAt h a es ep t ∧ (w.params.followText "set-order" = true ∨ t.led = true) ∧ (es.toList.map (·.2)).Perm (rs.map Value.ref)
def bZQ (w0:World):List V → Hp → VK → Prop:=fun xs H Q => ∃ (p:Addr) (rs:List Addr) (ws:List (Nat × Nat)),xs = [.ref p] ∧ rdL H p = some (rs.map V.ref) ∧ rs.length = ws.length ∧ (∀ (j:Nat) r w,rs[j]? = some r → ws[j]? = some w → H r = some (.tup [.int (w.1:Int),.int (w.2:Int)])) ∧ ws.length ≤ 76 ∧ (∀ w ∈ ws,w.1 < 8 ∧ w.2 < 8) ∧ ws.Nodup ∧ ∀ r,H r = none → Q (.ref r) (upd H r (nJ w0 r rs))
theorem bQD {X:Cx} (hu:X.A.units + 64 < cLine) (hc:cZ X):CallR X (.type "set") (bZQ X.w):=by
 intro pins s σ H xs us Q I r h
 obtain ⟨p,rs,ws,rfl,hp,hrl,hrw,h76,h8,nd,q⟩:=h
 obtain ⟨u,rfl,ru⟩:=dQ r
 cases ru
 obtain ⟨its,rv,pl,hz⟩:=I.list (aU hp)
 have hlen:=rv.length
 rw [Ac] at hlen
 have key:∀ (i:Nat) v,its[i]? = some v → ∃ a,v = .ref a ∧ IsTupleKey (PySem.intKind X.prog X.w) s.heap ((kI ws).getD i []) a:=fun i v hv => by
   have hi:i < its.length:=(Af.mp hv).1
   obtain ⟨r,er⟩:∃ r,rs[i]? = some r:=⟨_,Ab (by omega)⟩
   obtain ⟨w,ew⟩:∃ w,ws[i]? = some w:=⟨_,Ab (by omega)⟩
   obtain ⟨v',h1,h2⟩:=rv.get (i:=i) (x:=.ref r) (by rw [Al,er]; rfl)
   rw [hv] at h1
   cases h1
   cases h2
   refine ⟨r,rfl,?_⟩
   rw [lM ew]
   obtain ⟨tits,tr,tl,_⟩:=I.tuple (SqT.of (K:=X.K) (hrw i r w er ew))
   obtain ⟨ot,hot,hct,nt,hdt⟩:=(show s.heap.IsTuple r tits.toArray from tl)
   refine ⟨ot,tits.toArray,nt,hot,hct,hdt,?_⟩
   rw [Fh]
   obtain ⟨x1,x2,rfl,⟨t1,rfl⟩,⟨t2,rfl⟩⟩:=kE tr
   exact .cons (Hw _ _ _ _) (.cons (Hw _ _ _ _) .nil)
 obtain ⟨ea,hh,hcn,_⟩:=I.soft hc
 have hgv:∀ j,j < its.length → its.getD j .none = its.getD j .none:=fun _ _ => rfl
 have ne:∀ i j,i < j → j < its.length → tupleKeyHash (PySem.intKind X.prog X.w) ((kI ws).getD i []) ≠ tupleKeyHash (PySem.intKind X.prog X.w) ((kI ws).getD j []):=fun i j hij hj => aZK h8 nd hij (by omega)
 refine jH hh hcn pl.isList (J:=zY (!X.w.params.followText "set-order") (fun j => tupleKeyHash (PySem.intKind X.prog X.w) ((kI ws).getD j [])) (fun j => its.getD j .none) fun i => i) (nO _ _ _)
   (fun A' hA => vT (by omega) key (by omega) (fun i j hi hj e => ?_) (fun i => Ai _) fun i hi => .inr ⟨rfl,fun j hj => ne j i hj hi⟩) fun h' tk o hk ho hJ => ?_
 · by_cases z:j = i
   · rw [z]
   · rcases Nat.lt_or_gt_of_ne z with y | y
     · exact absurd e (ne j i y hi)
     · exact absurd e.symm (ne i j y hj)
 obtain ⟨es,ep,t,hx,hd,hf,hp',hl',hR,hps,hperm⟩:=oF hJ (fun i j hij hj => ne i j hij hj) (by omega)
 have hfresh:H s.heap.objs.size = none:=I.hok.fresh (Ai _)
 have I1:Inv X pins σ H { s with heap:=h',toks:=tk }:=I.kept hk
 refine ⟨.ref s.heap.objs.size,_,I1.adopt (o:=nJ X.w s.heap.objs.size rs) (I.freAt (Ai _)) hfresh ?_,rfl,q _ hfresh⟩
 have ev:(List.range its.length).map (fun j => its.getD j .none) = rs.map Value.ref:=by
   rw [← oO rv]
   exact fT its
 rw [ev] at hperm
 exact ⟨⟨es,ep,t,⟨⟨o,ho,hx.1,hd⟩,hf,hp',hR,hps⟩,by rw [hl']; cases X.w.params.followText "set-order" <;> simp,hperm⟩,⟨o,ho⟩,fun h1 h2 ⟨es,ep,t,Z,r⟩ k => ⟨es,ep,t,Z.at fun o e => k o e,r⟩⟩
end L2
set_option maxHeartbeats 1000000
namespace L2
open PySem PySem.Spec PyProof.Rows
open PySem.W (KasT kas_sort)
theorem cY {α:Type} {f:α → Nat}:∀ {L M:List α},L.Perm M → L.Pairwise (fun x y => f x < f y) → M.Pairwise (fun x y => f x < f y) → L = M
 | [],M,p,_,_ => (List.perm_nil.mp p.symm).symm
 | x :: r,[],p,_,_ => absurd p.length_eq (by simp)
 | x :: r,y :: t,p,h,g => by
   obtain ⟨h1,h2⟩:=Gx.mp h
   obtain ⟨g1,g2⟩:=Gx.mp g
   have e:x = y:=by
     rcases Be.mp (p.subset An) with z | z
     · exact z
     · rcases Be.mp (p.symm.subset An) with y' | y'
       · exact y'.symm
       · have a:=g1 x z
         have b:=h1 y y'
         omega
   subst e
   rw [cY ((List.perm_cons x).mp p) h2 g2]
def rkH (H:Hp) (p:Addr):Nat:=match H p with | some (.tup [.int a,.int b]) => a.toNat * 8 + b.toNat | _ => 0
theorem aZV {H:Hp} {p:Addr} {a b:Nat} (h:H p = some (.tup [.int (a:Int),.int (b:Int)])):rkH H p = a * 8 + b:=by
 unfold rkH
 rw [h]
 show ((a:Nat):Int).toNat * 8 + ((b:Nat):Int).toNat = _
 rw [Cd,Cd]
def oW (w0:World):List V → Hp → VK → Prop:=fun xs H Q => ∃ (p:Addr) (rs:List Addr),xs = [.ref p] ∧ H p = some (nJ w0 p rs) ∧ (∀ r ∈ rs,∃ a b:Nat,H r = some (.tup [.int (a:Int),.int (b:Int)]) ∧ b < 8) ∧ rs.length < 64 ∧ rs.Pairwise (fun x y => rkH H x < rkH H y) ∧ ∀ D,H D = none → Q (.ref D) (upd H D (.lst (rs.map V.ref)))
theorem bQ2 {vs:List Value} {rs:List Addr} (h:vs.Perm (rs.map Value.ref)):∃ qs:List Addr,vs = qs.map Value.ref ∧ qs.Perm rs:=by
 refine ⟨vs.map fun v => match v with | .ref a => a | _ => 0,?_,?_⟩
 · rw [Cp]
   refine (List.map_id vs).symm.trans (Cg fun v hv => ?_)
   obtain ⟨r,_,rfl⟩:=Bc.mp (h.subset hv)
   rfl
 · have:=h.map fun v => match v with | .ref a => a | _ => 0
   rw [Cp] at this
   refine this.trans (List.Perm.of_eq ?_)
   refine (Cg fun r _ => ?_).trans (List.map_id rs)
   rfl
theorem vC {X:Cx} (hc:cZ X):CallR X (.builtin "sorted") (oW X.w):=by
 intro pins s σ H xs us Q I r h
 obtain ⟨p,rs,rfl,hp,hw,h64,hris,q⟩:=h
 obtain ⟨u,rfl,ru⟩:=dQ r
 cases ru
 obtain ⟨ea,hh,hcn,_⟩:=I.soft hc
 obtain ⟨⟨es,ep,t,Z,hl,hperm⟩,_⟩:=I.hok p _ hp
 have hv:(aQ X.w p ep es).Perm (rs.map Value.ref):=by
   unfold aQ
   exact ((mP X.w p ep es).map (·.2)).trans hperm
 obtain ⟨qs,eq,hq⟩:=bQ2 hv
 have hql:qs.length = rs.length:=hq.length_eq
 have hes:es.size = rs.length:=by
   have:=hperm.length_eq
   rw [Ac,Ac,Aw] at this
   exact this
 have pair:∀ x ∈ qs,∃ a b:Nat,b < 8 ∧ rkH H x = a * 8 + b ∧ ∀ h':Heap,(∀ b o,s.heap.get? b = some o → h'.get? b = some o) → rE h' (.ref x) ((a:Int),(b:Int)):=fun x hx => by
   obtain ⟨a,b,e,hb⟩:=hw x (hq.subset hx)
   refine ⟨a,b,hb,aZV e,fun h' k => ?_⟩
   obtain ⟨tits,tr,tl,_⟩:=I.tuple (SqT.of (K:=X.K) e)
   obtain ⟨o,g,c,n,d⟩:=(show s.heap.IsTuple x tits.toArray from tl)
   obtain ⟨x1,x2,rfl,⟨t1,rfl⟩,⟨t2,rfl⟩⟩:=kE tr
   exact ⟨x,t1,t2,rfl,o,k _ _ g,c,n,d⟩
 have getq:∀ i,i < qs.length → (qs.map Value.ref).getD i .none = .ref (qs.getD i 0) ∧ qs.getD i 0 ∈ qs:=fun i hi => by
   rw [Ag,Al,Ab hi,Ag,Ab hi]
   exact ⟨rfl,Bh hi⟩
 have ndr:(qs.map (rkH H)).Nodup:=(hq.map (rkH H)).nodup_iff.mpr (Eh.mpr (hris.imp fun h => Av h))
 have inj:∀ i j,i < qs.length → j < qs.length → rkH H (qs.getD i 0) = rkH H (qs.getD j 0) → i = j:=fun i j hi hj e => by
   have g:=fun k (hk:k < qs.length) => show (qs.map (rkH H))[k]'(by rw [Ac]; exact hk) = rkH H (qs.getD k 0) by rw [Eb,Ag,Ab hk]; rfl
   rcases Nat.lt_trichotomy i j with z | z | z
   · exact absurd ((g i hi).trans (e.trans (g j hj).symm)) (Bm.mp ndr i j _ _ z)
   · exact z
   · exact absurd ((g j hj).trans (e.symm.trans (g i hi).symm)) (Bm.mp ndr j i _ _ z)
 refine kG (κ:=tuples' true) (lt:=ltR fun i => rkH H (qs.getD i 0)) Z hl hh hcn (by omega) ?_ ?_ ?_ ?_
 · rw [eq]
   intro h2 h' tk k Q' E' hQ
   refine aQN (fun v hv' => ?_) (by omega) hQ
   obtain ⟨x,hx,rfl⟩:=Bc.mp hv'
   obtain ⟨a,b,_,_,g⟩:=pair x hx
   exact ⟨_,g h' k⟩
 · rw [eq]
   intro h' tk k i j C hi hj hC
   rw [Ac] at hi hj
   obtain ⟨e1,m1⟩:=getq i hi
   obtain ⟨e2,m2⟩:=getq j hj
   obtain ⟨a1,b1,l1,r1,g1⟩:=pair _ m1
   obtain ⟨a2,b2,l2,r2,g2⟩:=pair _ m2
   rw [e1,e2]
   refine aJL (g1 h' k) (g2 h' k) ?_
   have ed:aX5 ((a1:Int),(b1:Int)) ((a2:Int),(b2:Int)) = ltR (fun i => rkH H (qs.getD i 0)) i j:=by
     refine Dg.mpr ?_
     show ((a1:Int) < a2 ∨ (a1:Int) = a2 ∧ (b1:Int) < b2) ↔ rkH H (qs.getD i 0) < rkH H (qs.getD j 0)
     rw [r1,r2]
     omega
   rw [ed]
   exact hC
 · rw [eq,Ac]
   intro h2
   obtain ⟨_,⟨h1,_⟩,_⟩:=kX h2 inj
   exact h1
 · intro D h' tk c k fD hD
   have out:dO (ltR fun i => rkH H (qs.getD i 0)) (aQ X.w p ep es) = rs.map Value.ref:=by
     rw [eq]
     unfold dO
     by_cases h2:(qs.map Value.ref).length < 2
     · rw [if_pos h2]
       rw [Ac] at h2
       refine Cr (List.map Value.ref) (cY (f:=rkH H) hq ?_ hris)
       match qs,h2 with
       | [],_ => exact .nil
       | [x],_ => exact List.pairwise_singleton _ _
     · rw [if_neg h2,Ac]
       rw [Ac] at h2
       obtain ⟨z,⟨_,kr⟩,Oz,Uz⟩:=kX (r:=fun i => rkH H (qs.getD i 0)) (n:=qs.length) (by omega) inj
       rw [kr]
       have e1:(z.toList.map fun i => (qs.map Value.ref).getD i .none) = (z.toList.map fun i => qs.getD i 0).map Value.ref:=by
         rw [Cp]
         exact Cg fun i hi => (getq i (Bn.mp (Oz.perm.subset hi))).1
       rw [e1]
       refine Cr (List.map Value.ref) (cY (f:=rkH H) ?_ ?_ hris)
       · refine ((Oz.perm.map fun i => qs.getD i 0).trans (List.Perm.of_eq ?_)).trans hq
         refine List.ext_getElem (by simp) fun i h1 h3 => ?_
         rw [Eb,Gw,Ag,Ab h3]
         rfl
       · refine Eh.mpr (Bm.mpr fun i j hi hj hij => ?_)
         have sz:=Oz.size
         have g:=Uz i j hij (by rw [← sz]; simpa using hj)
         rw [Array.getD_eq_getD_getElem?,Array.getD_eq_getD_getElem?,Array.getElem?_eq_getElem (by simpa using hi),Array.getElem?_eq_getElem (by simpa using hj)] at g
         simpa using g
   rw [out] at hD
   have fH:H D = none:=I.hok.fresh fD
   have I1:Inv X pins σ H { s with heap:=h',toks:=tk }:=I.kept k
   refine ⟨.ref D,_,I1.adopt (o:=.lst (rs.map V.ref)) (I.freAt fD) fH ?_,rfl,q D fH⟩
   exact ⟨by rw [Ac]; exact bA (by omega),_,c,oY id rs,hD⟩
end L2
set_option maxHeartbeats 1000000
namespace L2
open PySem PySem.Spec PyProof.Rows
open PySem.W (KasT kas_sort)
theorem uM:∀ k:Fin 100,hashInt (((k:Nat)):Int) = ((k:Nat):Int):=by decide +kernel
theorem wR {k:Nat} (h:k < 100):hashInt ((k:Nat):Int) = (k:Int):=uM ⟨k,h⟩
theorem sV {t t':SetTable} {hs:Array Int} {wanted:Nat} {order:Array Nat} (h:t.relaid hs wanted = some (t',order)):order.size = t'.place.size:=by
 unfold SetTable.relaid SetTable.laid at h
 cases e:SetTable.layClean (SetTable.sizeAbove wanted - 1) hs with
 | none => rw [e] at h; cases h
 | some owner => rw [e] at h; cases h; simp
theorem uO {es:Array (Int × Value)} {order:Array Nat} (nd:(es.toList.map (·.1)).Nodup) (hs:order.size = es.size) (h1:(order.filterMap (es[·]?)).size = es.size) (h2:∀ e,e ∈ (order.filterMap (es[·]?)).toList ↔ e ∈ es.toList):coversAll order es.size = true:=by
 refine List.isPerm_iff.mpr (eD List.nodup_range (fun i hi => ?_) (by rw [Cs,Aw,hs]))
 have hi':i < es.size:=Bn.mp hi
 have hm:=(h2 es[i]).mpr (Dm hi')
 rw [Fp] at hm
 obtain ⟨k,hk,ek⟩:=Ce.mp hm
 have hk':k < es.size:=Gj fun z => by rw [Cm z] at ek; cases ek
 rw [Aj hk'] at ek
 have ee:es[k] = es[i]:=Bo ek
 have:k = i:=by
   have g:∀ j (hj:j < es.size),(es.toList.map (·.1))[j]'(by rw [List.length_map,Array.length_toList]; exact hj) = es[j].1:=fun j hj => by simp
   rcases Nat.lt_trichotomy k i with z | z | z
   · exact absurd ((g k hk').trans ((Cr Prod.fst ee).trans (g i hi').symm)) (Bm.mp nd k i _ _ z)
   · exact z
   · exact absurd ((g i hi').trans ((Cr Prod.fst ee).symm.trans (g k hk').symm)) (Bm.mp nd i k _ _ z)
 rw [← this]
 exact hk
theorem aQK {t:SetTable} {es:Array (Int × Value)} {wanted:Nat} (nd:(es.toList.map (·.1)).Nodup) (F:Full (SetTable.sizeAbove wanted)) (hp:0 < SetTable.sizeAbove wanted) (hs:es.size < SetTable.sizeAbove wanted) :
   ∃ es' t',relayAll t es wanted = (es',t',false) ∧ t'.mask = SetTable.sizeAbove wanted - 1 ∧ t'.dummies = #[] ∧ t'.place.size = es.size ∧ es'.size = es.size ∧ Ris t'.place ∧ (∀ e,e ∈ es'.toList ↔ e ∈ es.toList) ∧ Rch t'.mask (Occ t' es') ∧ t'.led = t.led ∧ t'.plain = t.plain:=by
 obtain ⟨t',order,h1,h2,h3,h4,h5,h6,h7,h8⟩:=lV (t:=t) (es:=es) F hp (by omega)
 refine ⟨_,t',?_,h2,h3,h4,h5,h6,h7,h8,iU h1⟩
 unfold relayAll
 rw [h1]
 dsimp only
 rw [uO nd ((sV h1).trans h4) h5 h7,gG (h4.trans h5.symm) h3 (by rw [h5,h2]; omega)]
 rfl
section
variable {prog:Program} {w:World} {A:Around} {E:Value → Shared → Prop} {s:Shared}
theorem rR {led:Bool} {old:Heap} {S:Addr} {vs:List Value} {ks:List Nat} (hk:∀ (i:Nat) v,vs[i]? = some v → ∃ t,v = .int ((ks.getD i 0:Nat):Int) t) (hl:vs.length ≤ 76) (h100:∀ i,i < vs.length → ks.getD i 0 < 100)
   (ne:∀ i j,i < j → j < vs.length → ks.getD i 0 ≠ ks.getD j 0) :
   xP prog w A old S vs (zY led (fun j => ((ks.getD j 0:Nat):Int)) (fun j => vs.getD j .none) fun i => i):=by
 intro i v s o E Q hv hold hS hJ q
 obtain ⟨tk,rfl⟩:=hk i v hv
 have hiv:i < vs.length:=(Af.mp hv).1
 have hgv:vs.getD i .none = .int ((ks.getD i 0:Nat):Int) tk:=by rw [Ag,hv]; rfl
 obtain ⟨hx,es,ep,t,hd,hlp,hmk,hdm,hps,hsz,hR,hW,hes,hin⟩:=hJ
 replace hmk:t.mask = bJ i:=hmk
 replace hsz:es.size = i:=hsz
 have hF:=aZ9 hmk
 have hle:es.size ≤ t.mask:=by rw [hsz,hmk]; exact eP (by omega)
 have hfit:=gG hps hdm hle
 have hh100:=h100 i hiv
 have hvj:∀ j,j < i → ∃ u,vs.getD j .none = .int ((ks.getD j 0:Nat):Int) u:=fun j hj => by
   obtain ⟨u,eu⟩:=hk j (vs[j]'(by omega)) (Ab (by omega))
   exact ⟨u,by rw [Ag,Ab (by omega)]; exact eu⟩
 have hel:ElemsOf (PySem.intKind prog w) es.toList:=fun e he => by
   obtain ⟨j,hj,rfl⟩:=hes e he
   obtain ⟨u,eu⟩:=hvj j hj
   dsimp only
   rw [eu]
   exact ⟨⟨_,Hw _ _ _ _,(wR (h100 j (by omega))).symm⟩,rfl⟩
 have hne:∀ e ∈ es.toList,e.1 ≠ ((ks.getD i 0:Nat):Int):=fun e he z => by
   obtain ⟨j,hj,rfl⟩:=hes e he
   have z':((ks.getD j 0:Nat):Int) = ((ks.getD i 0:Nat):Int):=z
   exact ne j i hj hiv (by exact_mod_cast z')
 unfold setAdd
 refine Bv (Aa ((PySem.intKind prog w).pyHash (k:=((ks.getD i 0:Nat):Int)) (Hw _ _ _ _) ?_))
 have hhash:(PySem.intKind prog w).hash ((ks.getD i 0:Nat):Int) = ((ks.getD i 0:Nat):Int):=wR hh100
 unfold setAddHashed
 rw [show (100000:Nat) = 99999 + 1 from rfl]
 unfold setAddHashedIn
 refine Bv (Aa (Bl hS hd hfit ?_))
 dsimp only
 rw [byScan_of rfl (by unfold scanBound; omega) hel]
 simp only [↓reduceIte]
 unfold setAddByScan
 refine Aa (Aa (wpAny_rule (Aa (wpAny_setScan_of (Hw _ _ _ _) hS hd hfit hel ?_))))
 have hnone:es.toList.findIdx? (fun e => (PySem.intKind prog w).is ((ks.getD i 0:Nat):Int) e.2) = none:=by
   refine List.findIdx?_eq_none_iff.mpr fun e he => ?_
   obtain ⟨j,hj,ej⟩:=hes e he
   obtain ⟨u,eu⟩:=hvj j hj
   rw [ej]
   dsimp only
   rw [eu]
   cases hb:(PySem.intKind prog w).is ((ks.getD i 0:Nat):Int) (.int ((ks.getD j 0:Nat):Int) u) with
   | false => rfl
   | true =>
     have:=(PySem.intKind prog w).inj _ _ _ hb (Hw _ _ _ _)
     exact absurd (by exact_mod_cast this.symm) (ne j i hj hiv)
 rw [hnone]
 dsimp only
 rw [hhash]
 generalize hH:((ks.getD i 0:Nat):Int) = hh at hne hgv hv ⊢
 have hpr0:∃ j,t.probe (sth es) hh (t.probeStart hh) = some (.empty j none):=by
   refine kB hF.1 hdm (by omega) fun k hk' => ?_
   have hk2:k < es.size:=by omega
   rw [pG (Aj hk2)]
   exact hne _ (Dm hk2)
 have hpr1:∀ j,t.probe (sth es) hh (t.probeStart hh) = some (.empty j none) → t.probe (fun _ => hh + 1) hh (t.probeStart hh) = some (.empty j none):=by
   intro j
   unfold SetTable.probe
   generalize 10 * SetTable.turns t.mask = f
   generalize t.probeStart hh = p
   induction f generalizing p with
   | zero => intro z; cases z
   | succ f ih =>
     unfold SetTable.probe.go
     cases e:t.slot p.j with
     | empty => exact fun z => z
     | dummy => exact fun z => ih _ z
     | live i' =>
       dsimp only
       rw [show (hh + 1 == hh) = false from by simp; omega]
       intro z
       by_cases hb:(sth es i' == hh) = true
       · rw [if_pos hb] at z; cases z
       · rw [if_neg hb] at z
         exact ih _ z
 obtain ⟨slot,hpr⟩:=hpr0
 have hfree:t.freeSlot hh = some (slot,false):=by
   unfold SetTable.freeSlot
   rw [hpr1 _ hpr]
   rfl
 have p1:(t.put slot).1.mask = t.mask:=rfl
 have p0:(t.put slot).1.led = led ∧ (t.put slot).1.plain = true:=hlp
 have p2:(t.put slot).1.dummies = #[]:=by
   show (if SetTable.has t.dummies slot = true then _ else t.dummies) = _
   rw [hdm]
   rfl
 have p3:(t.put slot).1.place.size = es.size + 1:=(eJ _ _ _).trans (by rw [hps])
 obtain ⟨p4,p5⟩:=nN (x:=.int hh tk) hdm hps hR hW hpr
 have p6:(t.put slot).2 ≤ es.size:=by rw [← hps]; exact (eQ hR slot).1
 have hlay:layNew t es hh (.int hh tk) = (SetTable.insertAt es (t.put slot).2 (hh,.int hh tk),(t.put slot).1.orStandIn (SetTable.insertAt es (t.put slot).2 (hh,.int hh tk)).size,false,!(t.put slot).1.fits (SetTable.insertAt es (t.put slot).2 (hh,.int hh tk)).size):=by
   unfold layNew
   rw [hfree]
 rw [hlay]
 generalize t.put slot = tp at p0 p1 p2 p3 p4 p5 p6 ⊢
 obtain ⟨t1,p⟩:=tp
 dsimp only at p0 p1 p2 p3 p4 p5 p6 ⊢
 have z1:(SetTable.insertAt es p (hh,Value.int hh tk)).size = es.size + 1:=eJ _ _ _
 have z2:∀ e ∈ (SetTable.insertAt es p (hh,Value.int hh tk)).toList,∃ j,j < i + 1 ∧ e = (((ks.getD j 0:Nat):Int),vs.getD j .none):=fun e he => by
   rcases lR he with rfl | he
   · exact ⟨i,Dx _,by rw [hH,hgv]⟩
   · obtain ⟨j,hj,ej⟩:=hes e he
     exact ⟨j,Dt hj,ej⟩
 have z3:∀ j,j < i + 1 → (((ks.getD j 0:Nat):Int),vs.getD j .none) ∈ (SetTable.insertAt es p (hh,Value.int hh tk)).toList:=fun j hj => by
   by_cases e:j = i
   · subst e
     exact fI p6 (.inl (by rw [hH,hgv]))
   · exact fI p6 (.inr (hin j (by omega)))
 generalize SetTable.insertAt es p (hh,Value.int hh tk) = es1 at z1 z2 z3 p5 ⊢
 have hi76:i < 76:=by omega
 have hml1:es.size + 1 ≤ t1.mask:=by
   rw [p1,hmk,hsz]
   unfold bJ
   split
   · omega
   · split <;> omega
 have hfit1:t1.fits es1.size = true:=gG (p3.trans z1.symm) p2 (by rw [z1]; exact hml1)
 have hnd:(es1.toList.map (·.1)).Nodup:=by
   have nd:((List.range (i + 1)).map fun j => (((ks.getD j 0:Nat):Int),vs.getD j .none)).Nodup:=by
     refine Eh.mpr (Gm (R:=(· < ·)) (fun {a b} ha hb hab z => ?_) Fq)
     have hb':=Bn.mp hb
     exact ne a b hab (by omega) (by exact_mod_cast (Prod.mk.inj z).1)
   have pm:=eD nd (M:=es1.toList) (fun x hx' => by
     obtain ⟨j,hj,rfl⟩:=Bc.mp hx'
     exact z3 j (Bn.mp hj)) (by rw [Ac,Cs,Aw,z1,hsz])
   have pm2:=pm.map (·.1)
   rw [Cp] at pm2
   refine pm2.nodup_iff.mpr (Eh.mpr (Gm (R:=(· < ·)) (fun {a b} ha hb hab z => ?_) Fq))
   have hb':=Bn.mp hb
   have z':((ks.getD a 0:Nat):Int) = ((ks.getD b 0:Nat):Int):=z
   exact ne a b hab (by omega) (by exact_mod_cast z')
 have hor:t1.orStandIn es1.size = t1:=by unfold SetTable.orStandIn; rw [if_pos hfit1]
 rw [hor,hfit1]
 refine Aa (Ae ?_)
 rw [if_pos p0.2]
 refine Aa (Ae ?_)
 simp only [↓reduceIte]
 obtain ⟨o1,ho1,hx1,hd1,sb1⟩:=qQ es1 t1 hS hx hd
 refine Aa (Hj hS hd ?_ (by rw [z1]; exact bA (by omega)))
 have hfull:t1.tooFull = decide (bJ i * 3 ≤ (i + 1) * 5):=by
   unfold SetTable.tooFull SetTable.fill
   rw [p1,p2,p3,hmk,hsz]
   rfl
 rw [hfull]
 by_cases hf:bJ i * 3 ≤ (i + 1) * 5
 · rw [Au hf]
   simp only [Bool.not_false,Bool.and_self,if_true]
   have hcase:(i = 4 ∨ i = 18):=by
     unfold bJ at hf
     split at hf
     · omega
     · split at hf <;> omega
   have hw:SetTable.sizeAbove (SetTable.grown es1.size) = bJ (i + 1) + 1:=by
     rw [z1,hsz]
     rcases hcase with z | z <;> rw [z] <;> rfl
   have hml:=eP (i:=i + 1) (by omega)
   have hm2:bJ (i + 1) ≤ 127:=by rcases hcase with z | z <;> rw [z] <;> decide
   obtain ⟨es2,t2,m0,m1,m2,m3,m4,m5,m6,m7,m8⟩:=aQK (t:=t1) (es:=es1) (wanted:=SetTable.grown es1.size) hnd (by rw [hw]; exact (jW _).1) (by omega) (by rw [hw,z1,hsz]; omega)
   rw [m0]
   refine Aa (Ae ?_)
   refine Aa (Hj (s:={ s with toks:=_,heap:=s.heap.update S (Obj.putSet es1 t1) }) ho1 hd1 ?_ (by rw [m4,z1]; exact bA (by omega)))
   obtain ⟨o2,ho2,hx2,hd2,sb2⟩:=qQ es2 t2 ho1 hx1 hd1
   refine Ae (Ae ?_)
   exact q true _ _ o2 (sb1.trans sb2) ho2 ⟨hx2,es2,_,t2,hd2,⟨m8.1.trans p0.1,m8.2.trans p0.2⟩,by rw [m1,hw]; rfl,m2,by rw [m3,m4],by rw [m4,z1,hsz],m5,m7,fun e he => z2 e ((m6 e).mp he),fun j hj => (m6 _).mpr (z3 j hj)⟩
 · rw [Bd hf]
   simp only [Bool.not_false,Bool.and_false,Bool.false_eq_true,if_false]
   have hmm:bJ (i + 1) = bJ i:=by
     unfold bJ at hf ⊢
     split at hf
     · rw [if_pos (by omega)]; rename_i h4; rw [if_pos h4]
     · rename_i h4
       rw [if_neg (by omega),if_neg h4]
       split at hf
       · rename_i h18; rw [if_pos (by omega),if_pos h18]
       · rename_i h18; rw [if_neg (by omega),if_neg h18]
   refine Ae (Ae ?_)
   exact q true _ _ o1 sb1 ho1 ⟨hx1,es1,_,t1,hd1,p0,by rw [p1,hmk,hmm],p2,by rw [p3,z1],by rw [z1,hsz],p4,p5,z2,z3⟩
end
end L2
set_option maxHeartbeats 1000000
namespace L2
open PySem PySem.Spec PyProof.Rows
open PySem.W (KasT kas_sort)
def mW (w:World) (a:Addr) (ks:List Nat):HO:=.ext fun h => ∃ es ep t,SetAt h a es ep t ∧ (w.params.followText "set-order" = true ∨ t.led = true) ∧ ∃ vs:List Value,(es.toList.map (·.2)).Perm vs ∧ IntsAre vs (ks.map fun k => ((k:Nat):Int))
def bZN (w0:World):List V → Hp → VK → Prop:=fun xs H Q => ∃ (p:Addr) (ks:List Nat),xs = [.ref p] ∧ rdL H p = some (ks.map fun k => V.int ((k:Nat):Int)) ∧ ks.length ≤ 60 ∧ (∀ k ∈ ks,k < 100) ∧ ks.Nodup ∧ ∀ r,H r = none → Q (.ref r) (upd H r (mW w0 r ks))
theorem bX1 {X:Cx} (hc:cZ X):CallR X (.type "set") (bZN X.w):=by
 intro pins s σ H xs us Q I r h
 obtain ⟨p,ks,rfl,hp,h60,h100,nd,q⟩:=h
 obtain ⟨u,rfl,ru⟩:=dQ r
 cases ru
 obtain ⟨its,rv,pl,hz⟩:=I.list (aU hp)
 have hlen:=rv.length
 rw [Ac] at hlen
 have gks:∀ i (h:i < ks.length),ks.getD i 0 = ks[i]:=fun i h => by rw [Ag,Ab h]; rfl
 have key:∀ (i:Nat) v,its[i]? = some v → ∃ t,v = .int ((ks.getD i 0:Nat):Int) t:=fun i v hv => by
   have hi:i < its.length:=(Af.mp hv).1
   have hik:i < ks.length:=by omega
   obtain ⟨v',h1,h2⟩:=rv.get (i:=i) (x:=.int ((ks[i]:Nat):Int)) (by rw [Al,Ab hik]; rfl)
   rw [hv] at h1
   cases h1
   rw [gks i hik]
   exact h2
 obtain ⟨ea,hh,hcn,_⟩:=I.soft hc
 have ne:∀ i j,i < j → j < its.length → ks.getD i 0 ≠ ks.getD j 0:=fun i j hij hj => by
   rw [gks i (by omega),gks j (by omega)]
   exact Bm.mp nd i j _ _ hij
 refine jH hh hcn pl.isList (J:=zY (!X.w.params.followText "set-order") (fun j => ((ks.getD j 0:Nat):Int)) (fun j => its.getD j .none) fun i => i) (nO _ _ _)
   (fun A' hA => rR key (by omega) (fun i hi => by rw [gks i (by omega)]; exact h100 _ (Bh _)) ne) fun h' tk o hk ho hJ => ?_
 obtain ⟨es,ep,t,hx,hd,hf,hp',hl',hR,hps,hperm⟩:=oF hJ (fun i j hij hj e => ne i j hij hj (by exact_mod_cast e)) (by omega)
 have hfresh:H s.heap.objs.size = none:=I.hok.fresh (Ai _)
 have I1:Inv X pins σ H { s with heap:=h',toks:=tk }:=I.kept hk
 refine ⟨.ref s.heap.objs.size,_,I1.adopt (o:=mW X.w s.heap.objs.size ks) (I.freAt (Ai _)) hfresh ?_,rfl,q _ hfresh⟩
 rw [fT] at hperm
 have hia:IntsAre its (ks.map fun k => ((k:Nat):Int)):=wA (by rw [Ac]; omega) fun j v x hv hx => by
   obtain ⟨t,rfl⟩:=key j v hv
   rw [Al] at hx
   obtain ⟨k,ek,rfl⟩:=Ck.mp hx
   rw [Ag,ek]
   exact ⟨t,rfl⟩
 exact ⟨⟨es,ep,t,⟨⟨o,ho,hx.1,hd⟩,hf,hp',hR,hps⟩,by rw [hl']; cases X.w.params.followText "set-order" <;> simp,its,hperm,hia⟩,⟨o,ho⟩,fun h1 h2 ⟨es,ep,t,Z,r⟩ k => ⟨es,ep,t,Z.at fun o e => k o e,r⟩⟩
def rkV:Value → Nat | .int n _ => n.toNat | _ => 0
theorem aQ7 {vs:List Value} {ks:List Nat} (h:IntsAre vs (ks.map fun k => ((k:Nat):Int))):vs.map rkV = ks ∧ ∀ v ∈ vs,∃ t,v = .int ((rkV v:Nat):Int) t:=by
 generalize hL:(ks.map fun k => ((k:Nat):Int)) = L at h
 induction h generalizing ks with
 | nil =>
   cases ks with
   | nil => exact ⟨rfl,fun v hv => nomatch hv⟩
   | cons _ _ => cases hL
 | cons n t _ ih =>
   cases ks with
   | nil => cases hL
   | cons k r =>
     obtain ⟨rfl,e⟩:=List.cons.inj hL
     obtain ⟨h1,h2⟩:=ih e
     refine ⟨by rw [Ay,h1]; exact Cr (· :: r) (Cd k),fun v hv => ?_⟩
     rcases Be.mp hv with rfl | z
     · exact ⟨t,Cr (fun n => Value.int n t) (by show (k:Int) = ((((k:Nat):Int).toNat:Nat):Int); rw [Cd])⟩
     · exact h2 v z
theorem nS {vs:List Value} (h:∀ v ∈ vs,∃ t,v = .int ((rkV v:Nat):Int) t):IntsAre vs ((vs.map rkV).map fun k => ((k:Nat):Int)):=by
 induction vs with
 | nil => exact .nil
 | cons v r ih =>
   obtain ⟨t,e⟩:=h v An
   have i:=ih fun x hx => h x (Am _ hx)
   rw [Ay,Ay]
   generalize rkV v = n at e ⊢
   subst e
   exact .cons _ t i
def oH (w0:World):List V → Hp → VK → Prop:=fun xs H Q => ∃ (p:Addr) (ks:List Nat),xs = [.ref p] ∧ H p = some (mW w0 p ks) ∧ ks.length < 64 ∧ ks.Pairwise (· < ·) ∧ ∀ D,H D = none → Q (.ref D) (upd H D (.lst (ks.map fun k => V.int ((k:Nat):Int))))
theorem vB {X:Cx} (hc:cZ X):CallR X (.builtin "sorted") (oH X.w):=by
 intro pins s σ H xs us Q I r h
 obtain ⟨p,ks,rfl,hp,h64,hris,q⟩:=h
 obtain ⟨u,rfl,ru⟩:=dQ r
 cases ru
 obtain ⟨ea,hh,hcn,_⟩:=I.soft hc
 obtain ⟨⟨es,ep,t,Z,hl,vs,hperm,hia⟩,_⟩:=I.hok p _ hp
 obtain ⟨hks,hvs⟩:=aQ7 hia
 have hv:(aQ X.w p ep es).Perm vs:=by
   unfold aQ
   exact ((mP X.w p ep es).map (·.2)).trans hperm
 have hvl:vs.length = ks.length:=by rw [← hks,Ac]
 have hes:es.size = ks.length:=by
   have:=hperm.length_eq
   rw [Ac,Aw] at this
   omega
 generalize hV:aQ X.w p ep es = V at hv
 have hVl:V.length = ks.length:=hv.length_eq.trans hvl
 have hVi:∀ v ∈ V,∃ t,v = .int ((rkV v:Nat):Int) t:=fun v h => hvs v (hv.subset h)
 have getV:∀ i,i < V.length → V.getD i .none ∈ V:=fun i hi => by
   rw [Ag,Ab hi]
   exact Bh hi
 have hpk:(V.map rkV).Perm ks:=by rw [← hks]; exact hv.map rkV
 have ndr:(V.map rkV).Nodup:=hpk.nodup_iff.mpr (hris.imp fun h => Av h)
 have inj:∀ i j,i < V.length → j < V.length → rkV (V.getD i .none) = rkV (V.getD j .none) → i = j:=fun i j hi hj e => by
   have g:=fun k (hk:k < V.length) => show (V.map rkV)[k]'(by rw [Ac]; exact hk) = rkV (V.getD k .none) by rw [Eb,Ag,Ab hk]; rfl
   rcases Nat.lt_trichotomy i j with z | z | z
   · exact absurd ((g i hi).trans (e.trans (g j hj).symm)) (Bm.mp ndr i j _ _ z)
   · exact z
   · exact absurd ((g j hj).trans (e.symm.trans (g i hi).symm)) (Bm.mp ndr j i _ _ z)
 refine kG (κ:=oneType') (lt:=ltR fun i => rkV (V.getD i .none)) Z hl hh hcn (by omega) ?_ ?_ ?_ ?_
 · rw [hV]
   intro h2 h' tk k Q' E' hQ
   have hI:=nS hVi
   match V,h2,hI with
   | v1 :: v2 :: r,_,hI => exact wpAny_of_eq (keyKind_ints hI) hQ
 · rw [hV]
   intro h' tk k i j C hi hj hC
   obtain ⟨t1,e1⟩:=hVi _ (getV i hi)
   obtain ⟨t2,e2⟩:=hVi _ (getV j hj)
   have ed:ltR (fun i => rkV (V.getD i .none)) i j = decide (((rkV (V.getD i .none):Nat):Int) < ((rkV (V.getD j .none):Nat):Int)):=by
     refine Dg.mpr ?_
     show rkV (V.getD i .none) < rkV (V.getD j .none) ↔ _
     omega
   rw [ed] at hC
   generalize rkV (V.getD i .none) = a at e1 hC
   generalize rkV (V.getD j .none) = b at e2 hC
   rw [e1,e2]
   exact PySem.W.kat_lt_int hC
 · rw [hV]
   intro h2
   obtain ⟨_,⟨h1,_⟩,_⟩:=kX h2 inj
   exact h1
 · intro D h' tk c k fD hD
   rw [hV] at hD
   have out:(dO (ltR fun i => rkV (V.getD i .none)) V).Perm V ∧ (dO (ltR fun i => rkV (V.getD i .none)) V).map rkV = ks:=by
     unfold dO
     by_cases h2:V.length < 2
     · rw [if_pos h2]
       refine ⟨.refl _,cY (f:=fun n => n) hpk ?_ hris⟩
       match V,h2 with
       | [],_ => exact .nil
       | [x],_ => exact List.pairwise_singleton _ _
     · rw [if_neg h2]
       obtain ⟨z,⟨_,kr⟩,Oz,Uz⟩:=kX (r:=fun i => rkV (V.getD i .none)) (n:=V.length) (by omega) inj
       rw [kr]
       have hp1:(z.toList.map fun i => V.getD i .none).Perm V:=by
         refine (Oz.perm.map fun i => V.getD i .none).trans (List.Perm.of_eq ?_)
         refine List.ext_getElem (by simp) fun i h1 h3 => ?_
         rw [Eb,Gw,Ag,Ab h3]
         rfl
       refine ⟨hp1,cY (f:=fun n => n) ((hp1.map rkV).trans hpk) ?_ hris⟩
       rw [Cp]
       refine Eh.mpr (Bm.mpr fun i j hi hj hij => ?_)
       have sz:=Oz.size
       have g:=Uz i j hij (by rw [← sz]; simpa using hj)
       rw [Array.getD_eq_getD_getElem?,Array.getD_eq_getD_getElem?,Array.getElem?_eq_getElem (by simpa using hi),Array.getElem?_eq_getElem (by simpa using hj)] at g
       simpa using g
   obtain ⟨o1,o2⟩:=out
   have hI:=nS (vs:=dO (ltR fun i => rkV (V.getD i .none)) V) fun v hv' => hVi v (o1.subset hv')
   rw [o2] at hI
   have fH:H D = none:=I.hok.fresh fD
   have I1:Inv X pins σ H { s with heap:=h',toks:=tk }:=I.kept k
   have hvals:=zE hI
   rw [Cp] at hvals
   refine ⟨.ref D,_,I1.adopt (o:=.lst (ks.map fun k => L2.V.int ((k:Nat):Int))) (I.freAt fD) fH ?_,rfl,q D fH⟩
   exact ⟨by rw [Ac]; exact bA (by omega),_,c,hvals,hD⟩
theorem cXC {w0:World} {H:Hp} {Q:VK} {p:Addr} {rs:List Addr} {ws:List (Nat × Nat)} (e:rdL H p = some (rs.map V.ref)) (hl:rs.length = ws.length) (hw:∀ (j:Nat) r w,rs[j]? = some r → ws[j]? = some w → H r = some (.tup [.int (w.1:Int),.int (w.2:Int)])) (h76:ws.length ≤ 76) (h8:∀ w ∈ ws,w.1 < 8 ∧ w.2 < 8) (nd:ws.Nodup)
   (h:∀ r,H r = none → Q (.ref r) (upd H r (nJ w0 r rs))):bZQ w0 [.ref p] H Q:=⟨p,rs,ws,rfl,e,hl,hw,h76,h8,nd,h⟩
theorem cQT {w0:World} {H:Hp} {Q:VK} {p:Addr} {ks:List Nat} (e:rdL H p = some (ks.map fun k => V.int ((k:Nat):Int))) (h60:ks.length ≤ 60) (h100:∀ k ∈ ks,k < 100) (nd:ks.Nodup)
   (h:∀ r,H r = none → Q (.ref r) (upd H r (mW w0 r ks))):bZN w0 [.ref p] H Q:=⟨p,ks,rfl,e,h60,h100,nd,h⟩
theorem uC {w0:World} {H:Hp} {Q:VK} {p:Addr} {rs:List Addr} (e:H p = some (nJ w0 p rs)) (hw:∀ r ∈ rs,∃ a b:Nat,H r = some (.tup [.int (a:Int),.int (b:Int)]) ∧ b < 8) (h64:rs.length < 64) (hr:rs.Pairwise (fun x y => rkH H x < rkH H y))
   (h:∀ D,H D = none → Q (.ref D) (upd H D (.lst (rs.map V.ref)))):oW w0 [.ref p] H Q:=⟨p,rs,rfl,e,hw,h64,hr,h⟩
theorem tU {w0:World} {H:Hp} {Q:VK} {p:Addr} {ks:List Nat} (e:H p = some (mW w0 p ks)) (h64:ks.length < 64) (hr:ks.Pairwise (· < ·))
   (h:∀ D,H D = none → Q (.ref D) (upd H D (.lst (ks.map fun k => V.int ((k:Nat):Int))))):oH w0 [.ref p] H Q:=⟨p,ks,rfl,e,h64,hr,h⟩
end L2
namespace Mine
open PySem L2
local macro_rules | `(tactic| walk_at "rd") => `(tactic| first | assumption | exact cK | exact jP | exact zF | exact bI (by assumption) | exact eK (by assumption) | (apply aK (aF (by assumption) _); walk_at "rd"))
local macro_rules | `(tactic| walk_at "dd") => `(tactic| first | exact dW (by assumption) | exact uJ (by assumption) | exact dW aB | assumption)
local macro_rules | `(tactic| walk_at "lo") => `(tactic| first | assumption | decide | omega | (simp only [List.length_map,List.length_append,List.length_cons,List.length_nil,Str.length_append]; omega))
local macro_rules | `(tactic| walk_at "ln") => `(tactic| first | assumption | decide | exact bA (by walk_at "lo") | exact bD (by walk_at "lo"))
local macro_rules | `(tactic| walk_at "ar") => `(tactic| first | assumption | decide | omega | exact ⟨by omega,by omega⟩ | exact Or.inl ⟨by omega,by omega⟩ | exact Or.inr ⟨by omega,by omega⟩ | (dsimp only; done) | (dsimp only; omega))
local macro_rules | `(tactic| walk_at "s") => `(tactic| first
 | (with_reducible first | refine cJR ?_ | refine bJ5 ?_ | refine dQ2 ?_ | refine cZ1 ?_ | refine bJW ?_ | refine cZ3 ?_ | refine dQD ?_ | refine qK ?_)
 | ((with_reducible refine' cZX ?sv ?_); (case sv => exact rfl))
 | (with_reducible first | refine s_c ?_ | refine dQO ?_ | refine dQX ?_ | refine cJY ?_ | refine cXA ?_ | refine bJS ?_ | refine dQ5 ?_ | refine dQN ?_ | refine aXA ?_ | refine cQS ?_ | refine bJH ?_ | refine cX8 ?_)
 | ((with_reducible refine' cZN ?se ?_); (case se => walk_at "rd"))
 | (with_reducible first | refine cXI ?_ | refine bQM ?_ | refine dQR ?_ | refine cQC ?_ | refine cJF ?_ | refine dQZ ?_ | refine cZV ?_ | refine dQ3 ?_)
 | ((with_reducible refine dQL ?sc ?_); (case sc => walk_at "ar"))
 | with_reducible refine cXB ?_
 | ((with_reducible refine bJO ?sc ?_); (case sc => walk_at "ln"))
 | (with_reducible first | refine cJE ?_ | refine dQK ?_ | refine bJ7 ?_)
 | ((with_reducible refine' cZQ ?sc ?_); (case sc => walk_at "rd"))
 | ((with_reducible refine bJ9 ?sc ?_); (case sc => walk_at "ln"))
 | ((with_reducible refine' cXF ?sc ?_); (case sc => walk_at "rd"))
 | with_reducible refine dQJ ?_
 | ((with_reducible refine' cXN ?sc ?_); (case sc => walk_at "rd"))
 | ((with_reducible refine' cZH ?se ?se2 ?_); (case se => first | exact rfl | exact xI (by assumption) | exact tyN_dK (by assumption) | exact tyN_tup (by assumption) | exact xI aB | exact tyN_dK aB); (case se2 => first | exact (show zS _ _ = some true from rfl) | exact (show zS _ _ = some false from rfl) | exact rfl))
 | (with_reducible first | refine cXG ?_ | refine bXK ?_ | refine bQ3 ?_ | refine bQ4 ?_ | refine bXC ?_ | refine bZE ?_ | refine cQP ?_ | refine bJZ ?_ | refine aX2 ?_)
 | ((with_reducible refine' cJA ?se ?_); (case se => walk_at "rd"))
 | ((with_reducible refine' cZ2 ?se ?sl ?_); (case se => walk_at "rd"); (case sl => walk_at "ln"))
 | ((with_reducible refine' cJM ?se ?sf ?sl ?_); (case se => walk_at "rd"); (case sf => walk_at "rd"); (case sl => walk_at "ln"))
 | ((with_reducible refine s_str ?sc ?_); (case sc => walk_at "ar"))
 | (with_reducible first | refine bZJ ?_ | refine cQ7 ?_ | refine cQX ?_ | refine cXP ?_ | refine bXS ?_ | refine cXD ?_)
 | ((with_reducible refine' cQJ ?se ?sn ?_); (case se => walk_at "rd"); (case sn => exact rfl))
 | (with_reducible first | refine cJQ ?_ | refine cZF ?_ | refine bQB ?_ | refine bJQ ?_ | refine bQO ?_ | refine bZH ?_ | refine bZA ?_)
 | ((with_reducible refine cZG ?sd ?_); (case sd => walk_at "dd"))
 | (with_reducible first | refine cXY ?_ | refine cZM ?_ | refine cQ2 ?_ | refine aJW ?_ | refine aQX ?_ | refine bXI ?_ | refine cQ9 ?_ | refine cZ0 ?_ | refine aJ0 ?_ | refine cQ5 ?_ | refine aXX ?_ | refine dQH ?_ | refine cQZ ?_ | refine cZB ?_ | refine dQT ?_ | refine dQ4 ?_ | refine dQF ?_)
 | dsimp only)
local macro_rules | `(tactic| walk_at "go") => `(tactic| repeat' (walk_at "s"))
def top (i:Nat):Stmt:=PySem.Challenge.pw_flaglocker_k16_just_enough_flags.main.body.getD i (.Pass ⟨0,0,0,0⟩)
abbrev bZ:Stmt:=top 20
abbrev eS:Stmt:=top 21
abbrev dS:Stmt:=top 18
abbrev dU:Stmt:=top 22
abbrev eR:Stmt:=top 19
abbrev cT:Stmt:=top 17
abbrev cR:Stmt:=top 9
abbrev bS:Stmt:=top 8
abbrev cD:Stmt:=top 12
abbrev bQ:Stmt:=top 6
abbrev cW:Stmt:=top 10
abbrev bT:Stmt:=top 13
abbrev cF:Stmt:=top 14
abbrev cU:Stmt:=cJ8 (top 2) 0
abbrev bP:Stmt:=top 15
abbrev dF:Stmt:=top 23
abbrev cS:Stmt:=top 24
abbrev iH:Stmt:=top 25
structure Gs (K:PySem.W.Frag) (mg:Str → Option Value) (Zy Zz:Addr):Prop where
 c_Lack:mg "Lack" = some (.ref Zy)
 c_TowerError:mg "TowerError" = some (.ref Zz)
 m_Lack:PySem.W.exmOne K (.ref Zy) (.ref Zy) = some true
 t1_TowerError:PySem.W.specialIn K (.ref Zz) "__getattribute__" = some (some (.builtin "type.__getattribute__"))
 t2_TowerError:PySem.W.readsIn K Zz (.type "type") = true
 t3_TowerError:PySem.W.findCls K (.ref Zz) (.type "type") "__init__" = some (.val (.builtin "ValueError.__init__"))
 xo_Lack:uL K Zy [.type "ValueError",.type "Exception",.type "BaseException",.type "object"] "ValueError.__new__" = true
 xk_Lack:PySem.W.keepIn K (.ref Zy) = true
 xe1_Lack:PySem.W.hasDictIn K Zy = true
 xe2_Lack:PySem.W.findIn K (.ref Zy) "__getattribute__" = some (some (.builtin "BaseException.__getattribute__"))
 xe3_Lack:PySem.W.findIn K (.ref Zy) "__getattr__" = some none
 xe4_Lack:PySem.W.findIn K (.ref Zy) "__class__" = some (some (.builtin "object.__class__"))
 xe5_Lack:PySem.W.specialIn K (.builtin "object.__class__") "__get__" = some (some (.builtin "getset_descriptor.__get__"))
 xe6_Lack:PySem.W.takesIn K (.builtin "object.__class__") = some true
 xe7_Lack:PySem.W.mroIn K Zy (.type "object") = some true
 xe8_Lack:PySem.W.subIn K (.ref Zy) (.type "BaseException") = some true
 xs_Lack:PySem.W.findIn K (.ref Zy) "__setattr__" = some (some (.builtin "object.__setattr__"))
 xr_Lack:cXS K Zy Zz = true
 xv_Lack:PySem.W.subIn K (.ref Zy) (.type "ValueError") = some true
 xn_Lack_wants:PySem.W.findIn K (.ref Zy) "wants" = some none
 xn_Lack_flags:PySem.W.findIn K (.ref Zy) "flags" = some none
 b_range:mg "range" = none
 b_min:mg "min" = none
 b_str:mg "str" = none
 b_len:mg "len" = none
 b_zip:mg "zip" = none
 b_enumerate:mg "enumerate" = none
 b_isinstance:mg "isinstance" = none
 b_list:mg "list" = none
 b_int:mg "int" = none
 b_sum:mg "sum" = none
 b_sorted:mg "sorted" = none
 b_bool:mg "bool" = none
 b_set:mg "set" = none
 b_dict:mg "dict" = none
 s_SUBSTITUTES:∃ t,mg "SUBSTITUTES" = some (.str "1234" t)
 s_FLAGS:∃ t,mg "FLAGS" = some (.str "abcdefghijklmnopqrstuvw1234" t)
theorem Gs.xx_Lack {K:PySem.W.Frag} {mg:Str → Option Value} {Zy Zz:Addr} (G:Gs K mg Zy Zz):ExK K Zy:=⟨G.xe1_Lack,G.xe2_Lack,G.xe3_Lack,G.xe4_Lack,G.xe5_Lack,G.xe6_Lack,G.xe7_Lack,G.xe8_Lack⟩
theorem Gs.xc_Lack {K:PySem.W.Frag} {mg:Str → Option Value} {Zy Zz:Addr} (G:Gs K mg Zy Zz):XcK K Zy Zz:=⟨G.xx_Lack,G.xs_Lack,bX2 G.xr_Lack,G.xv_Lack⟩
theorem Gs.xm_Lack {K:PySem.W.Frag} {mg:Str → Option Value} {Zy Zz:Addr} (G:Gs K mg Zy Zz):XmK K Zy:=⟨G.xo_Lack,G.xk_Lack⟩
abbrev lettersT:Str := "abcdefghijklmnopqrstuvw"
abbrev subsT:Str := "1234"
abbrev flagsT:Str := "abcdefghijklmnopqrstuvw1234"
abbrev one (c:Nat):Str:=⟨#[c]⟩
theorem uP:subsT.cps.toList = [49,50,51,52]:=by decide
theorem rZ:flagsT.cps.toList = lettersT.cps.toList ++ subsT.cps.toList:=by decide
def cV (c:Nat):Prop:=97 ≤ c ∧ c ≤ 119
def iK (c:Nat):Prop:=49 ≤ c ∧ c ≤ 52
instance (c:Nat):Decidable (cV c):=inferInstanceAs (Decidable (_ ∧ _))
instance (c:Nat):Decidable (iK c):=inferInstanceAs (Decidable (_ ∧ _))
theorem rQ {c:Nat}:c ∈ lettersT.cps.toList ↔ cV c:=by
 have h1:∀ c ∈ lettersT.cps.toList,cV c:=by decide +kernel
 have h2:∀ k:_root_.Fin 23,97 + k.val ∈ lettersT.cps.toList:=by decide +kernel
 refine ⟨h1 c,fun h => ?_⟩
 have e:=h2 ⟨c - 97,by have:=h.1; have:=h.2; omega⟩
 rwa [show 97 + (c - 97) = c by have:=h.1; omega] at e
theorem mem_subs {c:Nat}:c ∈ subsT.cps.toList ↔ iK c:=by
 have h1:∀ c ∈ subsT.cps.toList,iK c:=by decide +kernel
 have h2:∀ k:_root_.Fin 4,49 + k.val ∈ subsT.cps.toList:=by decide +kernel
 refine ⟨h1 c,fun h => ?_⟩
 have e:=h2 ⟨c - 49,by have:=h.1; have:=h.2; omega⟩
 rwa [show 49 + (c - 49) = c by have:=h.1; omega] at e
theorem zD {c:Nat}:c ∈ flagsT.cps.toList ↔ cV c ∨ iK c:=by
 rw [rZ,Ci,rQ,mem_subs]
def cQV (c:Nat) (p:Int):Prop:=cV c ∨ (iK c ∧ (c:Int) - 48 < p)
instance (c:Nat) (p:Int):Decidable (cQV c p):=inferInstanceAs (Decidable (_ ∨ _))
def aY (cs:List Nat):Str:=⟨cs.toArray⟩
theorem dE (cs:List Nat):(aY cs).length = cs.length:=by show cs.toArray.size = _; simp
theorem yC (cs:List Nat):(aY cs).cps.toList = cs:=rfl
theorem yA (cs:List Nat) (c:Nat):aY cs ++ one c = aY (cs ++ [c]):=FlT.str_ext (by rw [FlT.app_cps]; rfl)
def cX9 (z:Str):Nat:=z.cps.toList.headD 0
theorem lG {α β:Type} {f g:α → Option β}:∀ {l:List α},(∀ x ∈ l,f x = g x) → l.filterMap f = l.filterMap g
 | [],_ => rfl
 | x :: r,h => by rw [Ej,Ej,h x An,lG fun y hy => h y (Am _ hy)]
theorem gZ {β:Type} {F:Nat → Option β} {i:Nat} {b:β} (h:F i = some b):(List.range (i + 1)).filterMap F = (List.range i).filterMap F ++ [b]:=by
 rw [Dp,Cf,Fe h,Eo]
theorem gO {β:Type} {F:Nat → Option β} {i:Nat} (h:F i = none):(List.range (i + 1)).filterMap F = (List.range i).filterMap F:=by
 rw [Dp,Cf,Gk h,Eo,Bs]
theorem one_inj {a b:Nat}:one a = one b ↔ a = b:=⟨fun h => by injection h with h; injection h with h; injection h,fun h => by rw [h]⟩
theorem kS (a b:Nat):decide (one a = one b) = decide (a = b):=Dg.mpr one_inj
theorem bXW {cw:List Nat} {k:Nat} (h:k < cw.length):atI (aY cw).cps.toList ((k:Nat):Int) = some (cw.getD k 0):=by
 refine dZ ?_
 rw [yC,Ag,Ab h]
 rfl
theorem bXO {k:Nat} (h:k < 23):atI lettersT.cps.toList ((k:Nat):Int) = some (97 + k):=by
 refine dZ ?_
 have q:∀ k:_root_.Fin 23,lettersT.cps.toList[k.val]? = some (97 + k.val):=by decide +kernel
 exact q ⟨k,h⟩
theorem aZP {xs:List V} {k:Int} (h:0 ≤ k):jY xs none (some k) = xs.take k.toNat:=by
 unfold jY
 show (xs.drop 0).take ((if k < 0 then (k + (xs.length:Int)).toNat else min k.toNat xs.length) - 0) = _
 rw [if_neg (by omega),List.drop_zero,Nat.sub_zero]
 by_cases hk:k.toNat ≤ xs.length
 · rw [Nat.min_eq_left hk]
 · rw [Hl (by omega),Ds (Ai _),Ds (by omega)]
theorem wY {ns:List Int} {i:Int} (h0:0 ≤ i) (h:i < ns.length):∃ n,n ∈ ns ∧ atI (ns.map V.int) i = some (.int n):=by
 obtain ⟨v,h1,h2⟩:=aXP (xs:=ns.map V.int) (i:=i) h0 (by rw [Ac]; exact h)
 rw [Al,Ab (by omega)] at h2
 cases h2
 exact ⟨_,Bh _,h1⟩
theorem aJU {ss:List Str} {i:Int} (h0:0 ≤ i) (h:i < ss.length):∃ n,n ∈ ss ∧ atI (ss.map V.str) i = some (.str n) ∧ ss[i.toNat]? = some n:=by
 obtain ⟨v,h1,h2⟩:=aXP (xs:=ss.map V.str) (i:=i) h0 (by rw [Ac]; exact h)
 rw [Al,Ab (by omega)] at h2
 cases h2
 exact ⟨_,Bh _,h1,Ab (by omega)⟩
theorem vY {c:Nat} (h:iK c):PySem.intText? (one c) = some ((c:Int) - 48):=by
 unfold iK at h
 have:c = 49 ∨ c = 50 ∨ c = 51 ∨ c = 52:=by omega
 rcases this with rfl | rfl | rfl | rfl <;> decide +kernel
theorem fX (zs:List Str):(zs.map V.str).all aW = true:=by
 rw [Dz]
 intro x hx
 obtain ⟨z,_,rfl⟩:=Bc.mp hx
 rfl
def chF (cw:List Nat) (k n:Nat):Option Nat:=if cw.getD n 0 = cw.getD k 0 then some (49 + n) else none
def chs (cw:List Nat) (k:Nat):List Nat:=cw.getD k 0 :: (List.range (min k 4)).filterMap (chF cw k)
theorem ch_iff {cw:List Nat} {k c:Nat}:c ∈ chs cw k ↔ c = cw.getD k 0 ∨ ∃ n,n < k ∧ n < 4 ∧ cw.getD n 0 = cw.getD k 0 ∧ c = 49 + n:=by
 unfold chs
 rw [Be,Ce]
 constructor
 · rintro (h | ⟨n,hn,h⟩)
   · exact .inl h
   · have:=Bn.mp hn
     unfold chF at h
     split at h
     · cases h
       exact .inr ⟨n,by omega,by omega,by assumption,rfl⟩
     · cases h
 · rintro (h | ⟨n,h1,h2,h3,rfl⟩)
   · exact .inl h
   · exact .inr ⟨n,Bn.mpr (by omega),if_pos h3⟩
theorem xE (cw:List Nat) (k:Nat):1 ≤ (chs cw k).length ∧ (chs cw k).length ≤ 5:=by
 unfold chs
 have:=Dk (chF cw k) (List.range (min k 4))
 rw [Cs] at this
 rw [Bi]
 omega
theorem sZ {cw:List Nat} (hL:∀ d ∈ cw,cV d) {k:Nat} (hk:k < cw.length):cV (cw.getD k 0):=by
 rw [Ag,Ab hk]
 exact hL _ (Bh hk)
theorem rW {c:Nat} {cs:List Nat}:inV (.str (one c)) ((cs.map one).map V.str) = decide (c ∈ cs):=by
 induction cs with
 | nil => rfl
 | cons d r ih =>
   rw [Ay,Ay]
   show ((one d == one c) || inV (.str (one c)) ((r.map one).map V.str)) = _
   rw [ih,← pH]
   by_cases h:c = d
   · subst h
     rw [Au rfl,Bool.true_or,Au An]
   · rw [Bd (fun z => by injection z with z; exact h (one_inj.mp z).symm),Ho]
     exact Dg.mpr ⟨fun z => Am _ z,fun z => (Be.mp z).resolve_left h⟩
def lB:Sp:=fun vs H Q _ => ∃ c k:Int,vs = [.int c,.int k] ∧ 0 ≤ k ∧ k ≤ 1000 ∧ ∀ n:Int,0 ≤ n → Q (.int n) H
def oG:Sp:=fun vs H Q _ => ∃ n m:Int,vs = [.int n,.int m] ∧ 0 ≤ n ∧ 1 ≤ m ∧ m ≤ 7 ∧ ∀ (cw:List Nat) (H':Hp),Same H H' → 1 ≤ cw.length → (cw.length:Int) ≤ m → (∀ d ∈ cw,cV d) → Q (.str (aY cw)) H'
def pS (K:PySem.W.Frag):Sp:=fun vs H Q _ => ∃ (a:Addr) (ns:List Int),vs = [.ref a] ∧ SqL K H a (ns.map V.int) ∧ ns.length ≤ 63 ∧ ∀ H',Q (.bl true) H'
theorem eE {cw:List Nat} {k:Nat} {j:Int} (e:j = (k:Int)) (h:k < cw.length):atI (aY cw).cps.toList j = some (cw.getD k 0):=by
 rw [e]
 exact bXW h
theorem bZ4 {H:Hp} {Q:VK} {p:Addr} {xs:List V} {i:Int} {v:V} (e:H p = some (.tup xs)) (e':atI xs i = some v) (h:Q v H):mIx (.ref p) (.int i) H Q:=by
 have e1:rdL H p = none:=by unfold rdL; rw [e]; rfl
 unfold mIx
 simp only [e1,eI e,e']
 exact h
section
variable {P:Program} {w:World} {K:PySem.W.Frag} {mg:Str → Option Value} {base:Heap}
structure Lk (kvs:List (Key × V)) (f:Nat → Option Int):Prop where
 nd:(kvs.map (·.1)).Nodup
 ks:∀ kv ∈ kvs,∃ (c:Nat) (n:Int),kv = (Sum.inr (one c),V.int n)
 val:∀ c,bH kvs (Sum.inr (one c)) = (f c).map V.int
theorem Lk.nil:Lk [] (fun _ => none):=⟨List.nodup_nil,(fun kv h => nomatch h),fun c => rfl⟩
theorem key_one {a b:Nat}:((Sum.inr (one a):Key) = Sum.inr (one b)) ↔ a = b:=⟨fun h => one_inj.mp (Sum.inr.inj h),fun h => by rw [h]⟩
theorem wZ {α:Type}:∀ {l:List α} {k:α},l.Nodup → ¬ k ∈ l → (l ++ [k]).Nodup
 | [],k,_,_ => by simp
 | a :: r,k,h,hk => by
   obtain ⟨h1,h2⟩:=Ca.mp h
   refine Ca.mpr ⟨fun m => ?_,wZ h2 fun m => hk (Am _ m)⟩
   rcases Ci.mp m with q | q
   · exact h1 q
   · exact hk (by rw [Aq.mp q]; exact An ..)
theorem bQ6 {kvs:List (Key × V)} {k:Key} (h:bH kvs k = none):¬ k ∈ kvs.map (·.1):=fun m => by
 obtain ⟨p,hp,e⟩:=Bc.mp m
 have q:(kvs.any fun kv => decide (kv.1 = k)) = true:=List.any_eq_true.mpr ⟨p,hp,Au e⟩
 rw [cI,h] at q
 cases q
theorem tE (kvs:List (Key × V)) (k:Key) (v:V) (h:bH kvs k ≠ none):(bY kvs k v).map (·.1) = kvs.map (·.1):=by
 unfold bY
 have e:(kvs.any fun kv => decide (kv.1 = k)) = true:=by
   rw [cI]
   cases q:bH kvs k with
   | none => exact absurd q h
   | some _ => rfl
 rw [if_pos e,Cp]
 refine Cg fun kv _ => ?_
 show (if kv.1 = k then (kv.1,v) else kv).1 = kv.1
 split <;> rfl
theorem Lk.put {kvs:List (Key × V)} {f:Nat → Option Int} (h:Lk kvs f) (c:Nat) (n:Int):Lk (bY kvs (Sum.inr (one c)) (.int n)) (fun d => if d = c then some n else f d) where
 nd:=by
   cases e:bH kvs (Sum.inr (one c)) with
   | none => rw [fW _ e,Ax]; exact wZ h.nd (bQ6 e)
   | some v => rw [tE _ _ _ (by rw [e]; exact fun z => nomatch z)]; exact h.nd
 ks:=fun kv hkv => by
   unfold bY at hkv
   split at hkv
   · obtain ⟨kv',h',e⟩:=Bc.mp hkv
     obtain ⟨c',n',e'⟩:=h.ks kv' h'
     subst e'
     dsimp only at e
     split at e
     · exact ⟨c',n,e.symm⟩
     · exact ⟨c',n',e.symm⟩
   · rcases Ci.mp hkv with q | q
     · exact h.ks kv q
     · exact ⟨c,n,Aq.mp q⟩
 val:=fun d => by
   rw [aXL]
   by_cases e:d = c
   · rw [if_pos (key_one.mpr e),if_pos e]; rfl
   · rw [if_neg (fun z => e (key_one.mp z)),if_neg e]; exact h.val d
theorem aZX {kvs:List (Key × V)} (nd:(kvs.map (·.1)).Nodup) {kv:Key × V} (h:kv ∈ kvs):bH kvs kv.1 = some kv.2:=by
 induction kvs with
 | nil => cases h
 | cons p r ih =>
   obtain ⟨n1,n2⟩:=Ca.mp nd
   rcases Be.mp h with e | e
   · subst e; exact bM rfl
   · rw [bF fun z => n1 (by show p.1 ∈ _; rw [z]; exact Bc.mpr ⟨kv,e,rfl⟩)]
     exact ih n2 e
theorem aZJ {α:Type} [DecidableEq α]:∀ {l m:List α},l.Nodup → (∀ x ∈ l,x ∈ m) → l.length ≤ m.length
 | [],m,_,_ => Cq _
 | a :: r,m,h,s => by
   obtain ⟨h1,h2⟩:=Ca.mp h
   have q:=aZJ (l:=r) (m:=m.erase a) h2 fun x hx => (List.mem_erase_of_ne fun z => h1 (by rw [← z]; exact hx)).mpr (s x (Am _ hx))
   have ha:=s a (An ..)
   rw [List.length_erase_of_mem ha] at q
   have:=List.length_pos_of_mem ha
   rw [Bi]
   omega
theorem Lk.at_mem {kvs:List (Key × V)} {f:Nat → Option Int} (h:Lk kvs f) {kv:Key × V} (hkv:kv ∈ kvs):∃ c n,kv = (Sum.inr (one c),V.int n) ∧ f c = some n:=by
 obtain ⟨c,n,e⟩:=h.ks kv hkv
 have v:=aZX h.nd hkv
 rw [e] at v
 have v2:=h.val c
 rw [v2] at v
 cases q:f c with
 | none => rw [q] at v; cases v
 | some m => rw [q] at v; cases v; exact ⟨c,_,e,q⟩
theorem Lk.keys {kvs kws:List (Key × V)} {f:Nat → Option Int} (h:Lk kvs f) (h':Lk kws f):∀ x ∈ kvs.map (·.1),x ∈ kws.map (·.1):=fun x hx => by
 obtain ⟨kv,hkv,rfl⟩:=Bc.mp hx
 obtain ⟨c,n,rfl,hf⟩:=h.at_mem hkv
 have v:=h'.val c
 rw [hf] at v
 have q:(kws.any fun kv => decide (kv.1 = Sum.inr (one c))) = true:=by rw [cI,v]; rfl
 obtain ⟨p,hp,e⟩:=List.any_eq_true.mp q
 exact Bc.mpr ⟨p,hp,Br e⟩
def aL (f:Nat → Option Int) (c:Nat):Int:=(f c).getD 0
def mY (c:Nat):Prop:=cV c ∨ iK c
instance (c:Nat):Decidable (mY c):=inferInstanceAs (Decidable (_ ∨ _))
def cC (n:Nat → Int) (c:Nat):Option Int:=if mY c ∧ 0 < n c then some (n c) else none
theorem nX {n:Nat → Int} {c:Nat} (hc:mY c) (h:0 ≤ n c):aL (cC n) c = n c:=by
 unfold aL cC
 by_cases q:0 < n c
 · rw [if_pos ⟨hc,q⟩]; rfl
 · rw [if_neg fun z => q z.2]; show (0:Int) = n c; omega
theorem Lk.ext {kvs:List (Key × V)} {f g:Nat → Option Int} (h:Lk kvs f) (e:f = g):Lk kvs g:=e ▸ h
theorem gJ (f:Nat → Option Int) (c:Nat):((f c).map V.int).getD (.int 0) = .int (aL f c):=by
 unfold aL
 cases f c <;> rfl
theorem flags_mem {c:Nat}:c ∈ flagsT.cps.toList ↔ mY c:=zD
def cZT (n:Nat → Int) (i c:Nat):Option Int:=if c ∈ flagsT.cps.toList.take i ∧ 0 < n c then some (n c) else none
theorem cX2 (n:Nat → Int):cZT n 0 = fun _ => none:=by
 funext c
 unfold cZT
 rw [List.take_zero]
 exact if_neg fun z => nomatch z.1
def kvL (g:Nat → Int) (L:List Nat):List (Key × V):=L.map fun c => (Sum.inr (one c),V.int (g c))
def bU (n:Nat → Int) (i:Nat):List Nat:=(flagsT.cps.toList.take i).filter fun c => decide (0 < n c)
theorem sG {g:Nat → Int} {L:List Nat} {c:Nat} (h:c ∉ L):bH (kvL g L) (Sum.inr (one c)) = none:=by
 induction L with
 | nil => rfl
 | cons d r ih =>
   show bH ((Sum.inr (one d),V.int (g d)) :: kvL g r) _ = none
   rw [bF (fun z => h (by rw [key_one.mp z]; exact An)),ih fun z => h (Am _ z)]
theorem flags_nd:flagsT.cps.toList.Nodup:=by decide +kernel
theorem plainL_mem {n:Nat → Int} {i c:Nat}:c ∈ bU n i ↔ c ∈ flagsT.cps.toList.take i ∧ 0 < n c:=by
 unfold bU
 rw [Do,Bk]
theorem uE {n:Nat → Int} {i c:Nat} (h:flagsT.cps.toList[i]? = some c):c ∉ bU n i:=fun z => by
 have m:=(plainL_mem.mp z).1
 obtain ⟨j,hj,e⟩:=Co.mp m
 rw [By] at hj
 rw [List.getElem_take] at e
 obtain ⟨hi,e2⟩:=Af.mp h
 have:=(Gf flags_nd).mp (e.trans e2.symm)
 omega
theorem vA {n:Nat → Int} {i c:Nat} (h:flagsT.cps.toList[i]? = some c) (p:0 < n c):bU n (i + 1) = bU n i ++ [c]:=by
 unfold bU
 rw [Bq,h,Fs]
 show _ ++ [c].filter _ = _
 rw [show [c].filter (fun c => decide (0 < n c)) = [c] by simp [p]]
theorem uF {n:Nat → Int} {i c:Nat} (h:flagsT.cps.toList[i]? = some c) (p:¬ 0 < n c):bU n (i + 1) = bU n i:=by
 unfold bU
 rw [Bq,h,Fs]
 show _ ++ [c].filter _ = _
 rw [show [c].filter (fun c => decide (0 < n c)) = [] by simp; omega,List.append_nil]
theorem lT (n:Nat → Int) (i:Nat):(bU n i).length ≤ 27:=by
 unfold bU
 exact Bg (List.length_filter_le ..) (by rw [By]; exact Bg (Nat.min_le_right ..) (by decide))
theorem zM (n:Nat → Int) (i:Nat):(bU n i).Nodup:=(flags_nd.sublist (List.take_sublist ..)).filter _
def aQD (g:Nat → Int) (L:List Nat) (d:Nat):Option Int:=if d ∈ L then some (g d) else none
theorem aZR (g:Nat → Int) {r:List Nat} {c:Nat} (hc:c ∉ r) (h:Lk (kvL g r) (aQD g r)):Lk (kvL g (r ++ [c])) (aQD g (r ++ [c])):=by
 have l:=h.put c (g c)
 rw [fW _ (sG hc)] at l
 have e:kvL g (r ++ [c]) = kvL g r ++ [(Sum.inr (one c),V.int (g c))]:=by unfold kvL; rw [Ax]; rfl
 rw [e]
 refine l.ext ?_
 funext d
 unfold aQD
 by_cases hd:d = c
 · subst hd
   rw [if_pos rfl,if_pos (Az _ (Aq.mpr rfl))]
 · rw [if_neg hd]
   by_cases hr:d ∈ r
   · rw [if_pos hr,if_pos (Da _ hr)]
   · rw [if_neg hr,if_neg (fun z => (Ci.mp z).elim hr fun y => hd (Aq.mp y))]
theorem wW (g:Nat → Int):∀ (L r:List Nat),(r ++ L).Nodup → Lk (kvL g r) (aQD g r) → Lk (kvL g (r ++ L)) (aQD g (r ++ L))
 | [],r,_,h => by rw [Bs]; exact h
 | c :: L,r,nd,h => by
   have e:r ++ c :: L = (r ++ [c]) ++ L:=by rw [Fy]; rfl
   have hc:c ∉ r:=fun z => (Fa.mp nd).2.2 c z c An rfl
   rw [e] at nd ⊢
   exact wW g L (r ++ [c]) nd (aZR g hc h)
theorem cXJ (g:Nat → Int) {L:List Nat} (nd:L.Nodup):Lk (kvL g L) (fun d => if d ∈ L then some (g d) else none):=by
 have r:=wW g L [] nd (Lk.nil.ext (by funext d; unfold aQD; rw [if_neg (fun z => nomatch z)]))
 exact r
theorem yE (n:Nat → Int):Lk (kvL n (bU n 27)) (cC n):=by
 refine (cXJ n (zM n 27)).ext ?_
 funext d
 unfold cC
 have e:d ∈ bU n 27 ↔ mY d ∧ 0 < n d:=by
   rw [plainL_mem,Ds (by decide),flags_mem]
 by_cases h:d ∈ bU n 27
 · rw [if_pos h,if_pos (e.mp h)]
 · rw [if_neg h,if_neg (fun z => h (e.mpr z))]
def fL:Sp:=fun vs H Q _ => ∃ (a:Addr) (kvs:List (Key × V)) (f:Nat → Option Int),vs = [.ref a] ∧ Rd H a (.dK kvs) ∧ Lk kvs f ∧
 ∀ (r:Addr) (H':Hp),H r = none → Same H H' → H' r = some (.dK (kvL (aL f) (bU (aL f) 27))) → Q (.ref r) H'
theorem sc_plain_locker:FnScope ["locker", "plain", "flag"] ["locker"] (aG bQ):=⟨rfl,rfl,rfl,by decide +kernel,rfl,by decide +kernel,by decide +kernel⟩
theorem kN {Zy Zz:Addr} {f:Addr} {fd:FuncData} (F:Fun K "plain_locker" "plain_locker" bQ f fd) (G:Gs K mg Zy Zz)  : FnOk P w K mg base CX0 1 f fd ["locker"] fL:=by
 refine F.ok sc_plain_locker (fun vs H Q E h => ?_) (fun cdv A outer s H vs Q E hr h => ?_)
 · obtain ⟨a,kvs,f,rfl,_⟩:=h; rfl
 obtain ⟨a,kvs,f,rfl,ha,lk,q⟩:=h
 refine ⟨_,(@aD _ _ _ _ _ (@aP _ _ 1 _ _ _ _ sc_plain_locker.nd (by rfl) (by exact (Or.inl rfl)) jJ (by rfl) (by first | exact Or.inl rfl | exact Or.inr rfl)) (@aD _ _ _ _ _ (cQ Bp rfl (uG (qZ rfl G.s_FLAGS)) (aR (i:=2) sc_plain_locker.nd rfl (Or.inl rfl)) (@aI _ _ _ (dP (bK bQF (dI Bt Cy (nQ (Room.u1 hr)) (mv 0) (aA (mv 2) (aA aJ aE))) aJ (bW _)) (@aI _ _ _ (eB (Room.u1 hr) (mv 1) (mv 2) (eF (Room.u1 hr) (mv 0) (mv 2) (fun _ _ => rfl)) rfl)) bO))) (@aI _ _ _ (bE (mv 1))))),?_⟩
 walk_at "go"
 intro p hp
 walk_at "go"
 refine cX0 (fun i σ H' => ∃ (v:Option V),σ = [some (.ref a),some (.ref p),v] ∧ Same H H' ∧ H' p = some (.dK (kvL (aL f) (bU (aL f) i))))
   ⟨none,rfl,aF hp _,aB⟩ ?_ ?_
 · rintro i c σ H2 hc ⟨v,rfl,s2,hH⟩
   have hi:i < 27:=(Af.mp hc).1
   have ha2:Rd H2 a (.dK kvs):=ha.elim (fun e => .inl (s2 _ _ e)) fun ⟨o,e⟩ => .inr ⟨o,s2 _ _ e⟩
   have hd2:isD H2 a = true:=ha2.elim dW fun ⟨o,e⟩ => uJ e
   have hpl:(kvL (aL f) (bU (aL f) i)).length < sizeLine:=bD (by unfold kvL; rw [Ac]; have:=lT (aL f) i; omega)
   walk_at "go"
   refine nV (z:=one c) ha2 ?_
   rw [lk.val c,gJ]
   walk_at "go"
   refine mN (fun hd => ?_) (fun hd => ?_)
   · have hd':=Br hd
     obtain ⟨n,hn⟩:∃ n,f c = some n:=by
       cases e:f c with
       | none => rw [show aL f c = 0 by unfold aL; rw [e]; rfl] at hd'; omega
       | some n => exact ⟨n,rfl⟩
     have hcn:aL f c = n:=by unfold aL; rw [hn]; rfl
     walk_at "go"
     refine lH (z:=one c) ha2 (by rw [lk.val c,hn]; rfl) ?_
     walk_at "go"
     refine gF (z:=one c) hH hpl ?_
     refine ⟨_,rfl,bG hp s2,?_⟩
     rw [aB,fW _ (sG (uE hc)),vA hc (by omega)]
     unfold kvL
     rw [Ax,← hcn]
     rfl
   · have hd':=Ed (Du.mpr hd)
     walk_at "go"
     exact ⟨_,rfl,s2,by rw [hH,uF hc (by omega)]⟩
 · rintro σ H2 ⟨v,rfl,s2,hH⟩
   walk_at "go"
   exact q p H2 hp s2 hH
def gM:Sp:=fun vs H Q _ => ∃ (cw:List Nat) (k:Nat) (p:Int),vs = [.str (aY cw),.int p] ∧ p = (k:Int) + 1 ∧ k < cw.length ∧ cw.length ≤ 7 ∧
 ∀ (r:Addr) (H':Hp),H r = none → Same H H' → H' r = some (.lst (((chs cw k).map one).map V.str)) → Q (.ref r) H'
theorem bQC {β:Type} (G:Nat → Option β) (k:Nat):[0,1,2,3].filterMap (fun n => if n < k then G n else none) = (List.range (min k 4)).filterMap G:=by
 match k with
 | 0 => rfl
 | 1 => rfl
 | 2 => rfl
 | 3 => rfl
 | k + 4 =>
   rw [Hl (by omega)]
   exact lG fun n hn => if_pos (by simp only [List.mem_cons,List.not_mem_nil,or_false] at hn; omega)
def atF (cw:List Nat) (k:Nat) (c:Nat):Option V:=if c - 49 < k then (if cw.getD (c - 49) 0 = cw.getD k 0 then some (.str (one c)) else none) else none
theorem cJ6 (cw:List Nat) (k:Nat):subsT.cps.toList.filterMap (atF cw k) = (((List.range (min k 4)).filterMap (chF cw k)).map one).map V.str:=by
 rw [uP,show [49,50,51,52] = [0,1,2,3].map (49 + ·) from rfl,List.filterMap_map,Cp,List.map_filterMap,← bQC]
 refine lG fun n _ => ?_
 show atF cw k (49 + n) = _
 unfold atF chF
 rw [show 49 + n - 49 = n by omega]
 by_cases h1:n < k
 · rw [if_pos h1,if_pos h1]
   by_cases h2:cw.getD n 0 = cw.getD k 0
   · rw [if_pos h2,if_pos h2]; rfl
   · rw [if_neg h2,if_neg h2]; rfl
 · rw [if_neg h1,if_neg h1]
theorem sc_choices_at:FnScope ["word", "place", "letter", "above"] ["word", "place"] (aG bS):=⟨rfl,rfl,rfl,by decide +kernel,rfl,by decide +kernel,by decide +kernel⟩
theorem mV {Zy Zz:Addr} {f:Addr} {fd:FuncData} (F:Fun K "choices_at" "choices_at" bS f fd) (G:Gs K mg Zy Zz)  : FnOk P w K mg base CX0 1 f fd ["word", "place"] gM:=by
 refine F.ok sc_choices_at (fun vs H Q E h => ?_) (fun cdv A outer s H vs Q E hr h => ?_)
 · obtain ⟨cw,k,p,rfl,_⟩:=h; rfl
 obtain ⟨cw,k,pl,rfl,hpl,hk,h7,q⟩:=h
 refine ⟨_,(@aD _ _ _ _ _ (@aP _ _ 2 _ _ _ _ sc_choices_at.nd (by rfl) (by exact (Or.inr rfl)) (cL eU (mv 0) (aN gY (mv 1) aJ) (fun _ _ => rfl)) (by rfl) (by first | exact Or.inl rfl | exact Or.inr rfl)) (@aD _ _ _ _ _ (pY (i:=3) sc_choices_at.nd rfl (Or.inl rfl) rfl (uG (qZ rfl G.s_SUBSTITUTES)) (kF (N:=["sign", "place", "letter", "word"]) ["word", "place", "letter", "above"] (aG bS) [none,some 1,some 2,some 0] rfl rfl rfl (fun x h => cJ h) (by decide +kernel)) (by decide +kernel) rfl (by decide +kernel) (fun C s₀ H₀ ex => (aR (i:=0) (show List.Nodup (["sign", "place", "letter", "word"]:List Str) by decide +kernel) rfl (Or.inl rfl))) (fun C s₀ H₀ ex => (mQ (PW.pt (cXW (bK cXL (aT bZX rfl G.b_int aZ8 (aA (mv 0) aE)) (mv 1) (bW _)) (bX5 (bK bXM (cL eU (mv 3) (aN gY (aT bZX rfl G.b_int aZ8 (aA (mv 0) aE)) aJ) (fun _ _ => rfl)) (mv 2) (bW _))))))) (fun C s₀ H₀ ex => (mv 0))) (@aI _ _ _ (bE (aN cX (fB (aA (mv 2) aE)) (mv 3)))))),?_⟩
 have hwl:(aY cw).length = cw.length:=dE cw
 walk_at "go"
 refine iP (by rw [hwl]; exact bA (by omega)) (eE (k:=k) (by omega) hk) ?_
 walk_at "go"
 refine cXU (atF cw k) (bD (by decide)) (fun i c Hc A B hc' hA => ?_) (fun D hD => ?_)
 · have hs:iK c:=mem_subs.mp (As hc')
   have h49:49 ≤ c:=hs.1
   walk_at "go"
   refine ⟨Wk.set rfl (Wk.refl _),?_⟩
   walk_at "go"
   refine aZZ (vY hs) (by show 1 ≤ 640; decide) ?_
   walk_at "go"
   unfold atF at hA
   refine mN (fun hd => ?_) (fun hd => ?_)
   · have hd':=Br hd
     have hck:c - 49 < k:=by omega
     rw [if_pos hck] at hA
     walk_at "go"
     refine aZZ (vY hs) (by show 1 ≤ 640; decide) ?_
     walk_at "go"
     refine iP (by rw [hwl]; exact bA (by omega)) (eE (k:=c - 49) (by omega) (by omega)) ?_
     walk_at "go"
     rw [show decide (({ cps:=#[cw.getD (c - 49) 0] }:Str) = { cps:=#[cw.getD k 0] }) = decide (cw.getD (c - 49) 0 = cw.getD k 0) from kS _ _]
     by_cases he:cw.getD (c - 49) 0 = cw.getD k 0
     · rw [Au he]
       rw [if_pos he] at hA
       walk_at "go"
       exact hA
     · rw [Bd he]
       rw [if_neg he] at hA
       walk_at "go"
       exact hA
   · have hd':=Ed (Du.mpr hd)
     have hck:¬ c - 49 < k:=by omega
     rw [if_neg hck] at hA
     walk_at "go"
     exact hA
 · rw [show (Str.ofString "1234").cps.toList.filterMap (atF cw k) = _ from cJ6 cw k]
   walk_at "go"
   refine ⟨by show 1 ≤ sizeLine; decide,fun p hp => ?_⟩
   have hDp:D ≠ p:=fun z => by rw [z,aB] at hp; cases hp
   have hp0:H p = none:=by rw [aH (Ne.symm hDp)] at hp; exact hp
   have hlen:((((List.range (min k 4)).filterMap (chF cw k)).map one).map V.str).length ≤ 4:=by
     have:=Dk (chF cw k) (List.range (min k 4))
     rw [Cs] at this
     rw [Ac,Ac]
     omega
   walk_at "go"
   refine cQN (xs:=[V.str (one (cw.getD k 0))]) (ys:=(((List.range (min k 4)).filterMap (chF cw k)).map one).map V.str) jP (by rw [bZG hDp]; exact jP) (bA (by show 1 + _ ≤ _; omega)) fun r hr => ?_
   have hr0:H r = none:=by
     by_cases z:r = p
     · rw [z]; exact hp0
     · rw [aH z] at hr
       by_cases z2:r = D
       · rw [z2]; exact hD
       · rw [aH z2] at hr; exact hr
   walk_at "go"
   exact q r _ hr0 ((aF hD _).trans ((aF hp _).trans (aF hr _))) aB
def vD (cws:List (List Nat)) (k:Nat):List (List V):=(List.range (cws.getD k []).length).map fun j:Nat => [V.int (k:Int),V.int (1 + (j:Int))]
def iE (cws:List (List Nat)) (i:Nat):List (List V):=((List.range i).map (vD cws)).flatten
theorem fO (cws:List (List Nat)) (i:Nat):iE cws (i + 1) = iE cws i ++ vD cws i:=by
 unfold iE
 rw [Dp,Ax,List.flatten_append]
 simp
theorem aJF {cws:List (List Nat)} {k:Nat} (h7:∀ c ∈ cws,c.length ≤ 7):(vD cws k).length ≤ 7:=by
 unfold vD
 rw [Ac,Cs,Ag]
 cases e:cws[k]? with
 | none => exact Cq _
 | some c => exact h7 c (As e)
theorem iG {cws:List (List Nat)} (h7:∀ c ∈ cws,c.length ≤ 7):∀ i,(iE cws i).length ≤ 7 * i
 | 0 => Ai _
 | i + 1 => by
   rw [fO,Ar]
   have:=iG h7 i
   have:=aJF (k:=i) h7
   omega
theorem jL {cws:List (List Nat)} {i:Nat} {x:V} (h:((cws.map aY).map V.str)[i]? = some x):∃ c,cws[i]? = some c ∧ c ∈ cws ∧ x = .str (aY c):=by
 rw [Al,Al] at h
 cases e:cws[i]? with
 | none => rw [e] at h; cases h
 | some c => rw [e] at h; cases h; exact ⟨c,rfl,As e,rfl⟩
def kD:Sp:=fun vs H Q _ => ∃ (a:Addr) (cws:List (List Nat)),vs = [.ref a] ∧ rdL H a = some ((cws.map aY).map V.str) ∧ cws.length ≤ 8 ∧ (∀ c ∈ cws,c.length ≤ 7) ∧
 ∀ (r:Addr) (ps:List Addr) (H':Hp),H r = none → Same H H' → H' r = some (.lst (ps.map V.ref)) → Tups H H' ps (iE cws cws.length) → Q (.ref r) H'
theorem sc_wants_of:FnScope ["words", "wants", "number", "word"] ["words"] (aG cR):=⟨rfl,rfl,rfl,by decide +kernel,rfl,by decide +kernel,by decide +kernel⟩
theorem tO {Zy Zz:Addr} {f:Addr} {fd:FuncData} (F:Fun K "wants_of" "wants_of" cR f fd) (G:Gs K mg Zy Zz)  : FnOk P w K mg base CX0 1 f fd ["words"] kD:=by
 refine F.ok sc_wants_of (fun vs H Q E h => ?_) (fun cdv A outer s H vs Q E hr h => ?_)
 · obtain ⟨a,cws,rfl,_⟩:=h; rfl
 obtain ⟨a,cws,rfl,ha,h8,h7,q⟩:=h
 refine ⟨_,(@aD _ _ _ _ _ (@aP _ _ 1 _ _ _ _ sc_wants_of.nd (by rfl) (by exact (Or.inl rfl)) (fB aE) (by rfl) (by first | exact Or.inl rfl | exact Or.inr rfl)) (@aD _ _ _ _ _ (cQ Bp rfl (qG rfl G.b_enumerate (aA (mv 0) aE)) (kU (K:=K) (i:=2) (j:=3) (by rfl) (by rfl) sc_wants_of.nd (by rfl) (by exact (Or.inr rfl)) (by exact Or.inl rfl) (by rfl) (by exact (Or.inl rfl)) (by exact Or.inl rfl)) (@aI _ _ _ (dR (fA Dq PySem.F.slot_list_extend PySem.F.type_list_extend bZ5 (mv 1) (aA (kW rfl (oM rfl G.b_range (aA aJ (aA (aN cX (aO fK rfl G.b_len dH (aA (mv 3) aE)) aJ) aE))) (kF (N:=["place", "number"]) ["words", "wants", "number", "word"] (aG cR) [none,some 2] rfl rfl rfl (fun x h => cJ h) (by decide +kernel)) (by decide +kernel) rfl (by decide +kernel) (fun C s₀ H₀ ex => (aR (i:=0) (show List.Nodup (["place", "number"]:List Str) by decide +kernel) rfl (Or.inl rfl))) (fun C s₀ H₀ ex => pE) (fun C s₀ H₀ ex => (bJ3 (aA (mv 1) (aA (mv 0) aE))))) aE))))) (@aI _ _ _ (bE (mv 1))))),?_⟩
 walk_at "go"
 refine ⟨by decide,fun p hp => ?_⟩
 have ha1:=aK (aF hp (HO.lst [])) ha
 walk_at "go"
 refine qJ (xs:=(cws.map aY).map V.str) (fun i σ H' => ∃ (ps:List Addr) (v1 v2:Option V),σ = [some (.ref a),some (.ref p),v1,v2] ∧ Same H H' ∧ H' p = some (.lst (ps.map V.ref)) ∧ Tups H H' ps (iE cws i))
   ⟨[],_,_,rfl,aF hp _,aB,.nil⟩ (fun j σ H' _ ⟨_,_,_,_,e,_⟩ => aK e ha) ?_ ?_
 · rintro i x σ H2 pt hx ⟨ps,v1,v2,rfl,s2,hH,tp⟩ hpt
   have hi:i < cws.length:=by have:=(Af.mp hx).1; rw [Ac,Ac] at this; exact this
   obtain ⟨cw,hcw,hm,rfl⟩:=jL hx
   have hc7:=h7 cw hm
   have hwl:(aY cw).length = cw.length:=dE cw
   walk_at "go"
   rw [hwl]
   refine ⟨⟨by omega,by omega,by omega,by omega⟩,?_⟩
   rw [show ((cw.length:Int) + 1 - 1).toNat = cw.length by omega]
   have s3:=s2.trans (aF hpt (HO.tup [V.int ((0 + i:Nat):Int),V.str (aY cw)]))
   have hH3:=aF hpt (HO.tup [V.int ((0 + i:Nat):Int),V.str (aY cw)]) _ _ hH
   have tp3:=tp.keep (aF hpt (HO.tup [V.int ((0 + i:Nat):Int),V.str (aY cw)]))
   generalize upd H2 pt (HO.tup [V.int ((0 + i:Nat):Int),V.str (aY cw)]) = H3 at s3 hH3 tp3 ⊢
   refine xU (fun j => [V.int ((0 + i:Nat):Int),V.int (1 + (j:Int))]) (bD (by omega)) (fun j Hc A B hj hs hA => ?_) (fun D Hd qs hD sD hDd hqn tq => ?_)
   · walk_at "go"
     refine ⟨Wk.set rfl (Wk.refl _),?_⟩
     walk_at "go"
     exact ⟨by show 2 ≤ sizeLine; decide,fun pp hpp => hA pp _ hpp (aF hpp _) aB⟩
   · have hpd:=sD _ _ hH3
     have hpl:ps.length ≤ 7 * i:=by rw [tp.1]; exact iG h7 i
     have e:(List.range cw.length).map (fun j:Nat => [V.int ((0 + i:Nat):Int),V.int (1 + (j:Int))]) = vD cws i:=by
       unfold vD
       rw [Ag,hcw,Hr]
       rfl
     rw [e] at tq
     walk_at "go"
     refine ⟨ps ++ qs,_,_,rfl,bG hp (s3.trans sD),by rw [aB,Ax],?_⟩
     rw [fO]
     exact ((tp3.keep sD).app (tq.older s3)).put hpd
 · rintro σ H2 ⟨ps,v1,v2,rfl,s2,hH,tp⟩
   walk_at "go"
   rw [show ((cws.map aY).map V.str).length = cws.length by rw [Ac,Ac]] at tp
   exact q p ps H2 hp s2 hH tp
def cG (cws:List (List Nat)) (i:Nat):Nat:=((cws.take i).map List.length).sum
def fS (cws:List (List Nat)) (cs:List Nat) (i:Nat):List V:=(((cs.drop (cG cws i)).take (cws.getD i []).length).map one).map V.str
theorem gK {cws:List (List Nat)} {i:Nat} {cw:List Nat} (h:cws[i]? = some cw):cG cws (i + 1) = cG cws i + cw.length:=by
 unfold cG
 rw [Bq,h,Ax,List.sum_append]
 simp
theorem wX {cws:List (List Nat)} {i:Nat} (h:i ≤ cws.length):cG cws i ≤ cG cws cws.length:=by
 unfold cG
 conv => rhs; rw [← List.take_append_drop i (cws.take cws.length)]
 rw [Ax,List.sum_append,List.take_take,Nat.min_eq_left h]
 exact Gg _ _
theorem aJ5 {xs:List V} {i j:Nat} (hj:i ≤ j):jY xs (some (i:Int)) (some (j:Int)) = (xs.drop i).take (j - i):=by
 unfold jY
 show (xs.drop (if (i:Int) < 0 then ((i:Int) + (xs.length:Int)).toNat else min (i:Int).toNat xs.length)).take ((if (j:Int) < 0 then ((j:Int) + (xs.length:Int)).toNat else min (j:Int).toNat xs.length) - (if (i:Int) < 0 then ((i:Int) + (xs.length:Int)).toNat else min (i:Int).toNat xs.length)) = _
 rw [if_neg (by omega),if_neg (by omega),Cd,Cd]
 by_cases h1:i ≤ xs.length
 · rw [Nat.min_eq_left h1]
   by_cases h2:j ≤ xs.length
   · rw [Nat.min_eq_left h2]
   · rw [Hl (by omega),Ds (by rw [Fi]; omega),Ds (by rw [Fi]; omega)]
 · rw [Hl (show xs.length ≤ i by omega),List.drop_of_length_le (Ai _),List.drop_of_length_le (by omega),List.take_nil,List.take_nil]
def iS:Sp:=fun vs H Q _ => ∃ (a b:Addr) (cws:List (List Nat)) (cs:List Nat),vs = [.ref a,.ref b] ∧ rdL H a = some ((cws.map aY).map V.str) ∧ rdL H b = some ((cs.map one).map V.str) ∧ cws.length ≤ 8 ∧ (∀ c ∈ cws,c.length ≤ 7) ∧
 ∀ (r:Addr) (ps:List Addr) (H':Hp),H r = none → Same H H' → H' r = some (.lst (ps.map V.ref)) → (∀ p ∈ ps,p ≠ r) → Lsts H H' ps ((List.range cws.length).map (fS cws cs)) → Q (.ref r) H'
theorem sc_hoists_of:FnScope ["words", "flags", "hoists", "start", "word", "end"] ["words", "flags"] (aG cW):=⟨rfl,rfl,rfl,by decide +kernel,rfl,by decide +kernel,by decide +kernel⟩
theorem qC {Zy Zz:Addr} {f:Addr} {fd:FuncData} (F:Fun K "hoists_of" "hoists_of" cW f fd) (G:Gs K mg Zy Zz)  : FnOk P w K mg base CX0 1 f fd ["words", "flags"] iS:=by
 refine F.ok sc_hoists_of (fun vs H Q E h => ?_) (fun cdv A outer s H vs Q E hr h => ?_)
 · obtain ⟨a,b,cws,cs,rfl,_⟩:=h; rfl
 obtain ⟨a,b,cws,cs,rfl,ha,hb,h8,h7,q⟩:=h
 refine ⟨_,(@aD _ _ _ _ _ (@aP _ _ 2 _ _ _ _ sc_hoists_of.nd (by rfl) (by exact (Or.inl rfl)) (fB aE) (by rfl) (by first | exact Or.inl rfl | exact Or.inr rfl)) (@aD _ _ _ _ _ (@aP _ _ 3 _ _ _ _ sc_hoists_of.nd (by rfl) (by exact (Or.inl rfl)) aJ (by rfl) (by first | exact Or.inl rfl | exact Or.inr rfl)) (@aD _ _ _ _ _ (cQ Bp rfl (iV (mv 0)) (aR (i:=4) sc_hoists_of.nd rfl (Or.inl rfl)) (@aD _ _ _ _ _ (@aP _ _ 5 _ _ _ _ sc_hoists_of.nd (by rfl) (by exact (Or.inl rfl)) (aN cX (mv 3) (aO fK rfl G.b_len dH (aA (mv 4) aE))) (by rfl) (by first | exact Or.inl rfl | exact Or.inr rfl)) (@aD _ _ _ _ _ (dR (fA Dq Ff Fg wD (mv 2) (aA (aT iB rfl G.b_list dD (aA (mM cJZ (mv 1) (jD (mv 3)) (jD (mv 5))) aE)) aE))) (@aI _ _ _ (@aP _ _ 3 _ _ _ _ sc_hoists_of.nd (by rfl) (by exact (Or.inl rfl)) (mv 5) (by rfl) (by first | exact Or.inl rfl | exact Or.inr rfl)))))) (@aI _ _ _ (bE (mv 2)))))),?_⟩
 have hll:((cws.map aY).map V.str).length = cws.length:=by rw [Ac,Ac]
 walk_at "go"
 refine ⟨by decide,fun p hp => ?_⟩
 have ha1:=aK (aF hp (HO.lst [])) ha
 walk_at "go"
 refine eZ (xs:=(cws.map aY).map V.str) (fun i σ H' => ∃ (ps:List Addr) (v4 v5:Option V),σ = [some (.ref a),some (.ref b),some (.ref p),some (.int ((cG cws i:Nat):Int)),v4,v5] ∧ Same H H' ∧ H' p = some (.lst (ps.map V.ref)) ∧ (∀ x ∈ ps,x ≠ p) ∧ ps.length = i ∧ Lsts H H' ps ((List.range i).map (fS cws cs)))
   ⟨[],_,_,rfl,aF hp _,aB,(fun x hx => nomatch hx),rfl,.nil⟩ (fun j σ H' _ ⟨_,_,_,_,e,_⟩ => aK e ha) ?_ ?_
 · rintro i x σ H2 hx ⟨ps,v4,v5,rfl,s2,hH,hne,hpl,tp⟩
   have hi:i < cws.length:=by have:=(Af.mp hx).1; rw [hll] at this; exact this
   obtain ⟨cw,hcw,hm,rfl⟩:=jL hx
   have hc7:=h7 cw hm
   have hwl:(aY cw).length = cw.length:=dE cw
   have hb2:=aK s2 hb
   walk_at "go"
   rw [hwl]
   intro r1 hr1
   rw [show ((cG cws i:Nat):Int) + ((cw.length:Nat):Int) = ((cG cws i + cw.length:Nat):Int) by push_cast; rfl,aJ5 (by omega),show cG cws i + cw.length - cG cws i = cw.length by omega]
   have hrow_e:(((cs.map one).map V.str).drop (cG cws i)).take cw.length = fS cws cs i:=by
     unfold fS
     rw [Ag,hcw,List.map_take,List.map_take,List.map_drop,List.map_drop]
     rfl
   rw [hrow_e]
   walk_at "go"
   intro r2 hr2
   have hp1:r2 ≠ p:=fun z => by
     have:=aF hr1 (HO.lst (fS cws cs i)) _ _ hH
     rw [← z,hr2] at this
     cases this
   have s3:Same H2 (upd (upd H2 r1 (HO.lst (fS cws cs i))) r2 (HO.lst (fS cws cs i))):=(aF hr1 _).trans (aF hr2 _)
   have hr3:(upd (upd H2 r1 (HO.lst (fS cws cs i))) r2 (HO.lst (fS cws cs i))) r2 = some (.lst (fS cws cs i)):=aB
   have hr20:H2 r2 = none:=none_of (aF hr1 _) hr2
   generalize upd (upd H2 r1 (HO.lst (fS cws cs i))) r2 (HO.lst (fS cws cs i)) = H3 at s3 hr3 ⊢
   have hH3:=s3 _ _ hH
   have hm3:=eK hH3
   walk_at "go"
   have hne2:∀ x ∈ ps ++ [r2],x ≠ p:=fun x hx => by
     rcases Ci.mp hx with e | e
     · exact hne x e
     · rw [Aq.mp e]; exact hp1
   refine ⟨ps ++ [r2],some (.str (aY cw)),some (.int ((cG cws i + cw.length:Nat):Int)),?_,bG hp (s2.trans s3),by rw [aB,Ax]; rfl,hne2,by rw [Ar,hpl]; rfl,?_⟩
   · rw [gK hcw]
     rfl
   · rw [Dp,Ax]
     exact ((tp.keep s3).snoc (none_of s2 hr20) hr3).put hne2
 · rintro σ H2 ⟨ps,v4,v5,rfl,s2,hH,hne,hpl,tp⟩
   walk_at "go"
   rw [hll] at tp
   exact q p ps H2 hp s2 hH hne tp
abbrev Wt:=Nat × Nat
def cA (w:Wt):List Key:=[Sum.inl (w.1:Int),Sum.inl (w.2:Int)]
theorem jK {a b:Wt} (h:cA a = cA b):a = b:=by
 unfold cA at h
 injection h with h1 h2
 injection h2 with h2 _
 have e1:=Sum.inl.inj h1
 have e2:=Sum.inl.inj h2
 exact Prod.ext (by omega) (by omega)
def bX (m:List (Wt × Nat)) (w:Wt):Option Nat:=(m.find? fun x => decide (x.1 = w)).map (·.2)
def cP (m:List (Wt × Nat)) (f:Nat):List Wt:=(m.filter fun x => decide (x.2 = f)).map (·.1)
def ctm (m:List (Wt × Nat)) (f:Nat):Nat:=m.countP fun x => decide (x.2 = f)
theorem dG {x:Wt × Nat} {m:List (Wt × Nat)} {w:Wt}:bX (x :: m) w = if x.1 = w then some x.2 else bX m w:=by
 unfold bX
 rw [List.find?_cons]
 by_cases h:x.1 = w
 · simp [h]
 · simp [h]
theorem sW {m:List (Wt × Nat)} {w:Wt} {f:Nat} (h:bX m w = some f):(w,f) ∈ m:=by
 induction m with
 | nil => cases h
 | cons x m ih =>
   rw [dG] at h
   by_cases e:x.1 = w
   · rw [if_pos e] at h
     cases h
     rw [← e]
     exact An
   · rw [if_neg e] at h
     exact Am _ (ih h)
theorem jE {m:List (Wt × Nat)} (nd:(m.map (·.1)).Nodup) {w:Wt} {f:Nat} (h:(w,f) ∈ m):bX m w = some f:=by
 induction m with
 | nil => cases h
 | cons x m ih =>
   rw [dG]
   rw [Ay,Ca] at nd
   rcases Be.mp h with e | e
   · rw [← e,if_pos rfl]
   · rw [if_neg (fun z => nd.1 (by rw [z]; exact Bc.mpr ⟨_,e,rfl⟩)),ih nd.2 e]
theorem hget_none {m:List (Wt × Nat)} {w:Wt}:bX m w = none ↔ w ∉ m.map (·.1):=by
 induction m with
 | nil => exact ⟨fun _ z => (nomatch z),fun _ => rfl⟩
 | cons x m ih =>
   rw [dG,Ay,Be]
   by_cases e:x.1 = w
   · rw [if_pos e]
     exact ⟨fun z => (nomatch z),fun z => absurd (Or.inl e.symm) z⟩
   · rw [if_neg e,ih]
     exact ⟨fun z y => y.elim (fun q => e q.symm) z,fun z y => z (Or.inr y)⟩
theorem by_mem {m:List (Wt × Nat)} {f:Nat} {w:Wt}:w ∈ cP m f ↔ (w,f) ∈ m:=by
 unfold cP
 rw [Bc]
 constructor
 · rintro ⟨x,hx,rfl⟩
   rw [Do,Bk] at hx
   rw [← hx.2]
   exact hx.1
 · intro h
   exact ⟨(w,f),Do.mpr ⟨h,Au rfl⟩,rfl⟩
theorem vQ (m:List (Wt × Nat)) (f:Nat):(cP m f).length = ctm m f:=by
 unfold cP ctm
 rw [Ac,List.countP_eq_length_filter]
structure Asking (ch:Wt → List Nat) (m:List (Wt × Nat)) (first:Wt) (A:List (Nat × Wt)):Prop where
 nd:(A.map (·.1)).Nodup
 ok:∀ (j:Nat) f w,A[j]? = some (f,w) → f ∈ ch w ∧ (w = first ∨ ∃ (g:Nat) (i:Nat) (v:Wt),i < j ∧ A[i]? = some (g,v) ∧ bX m w = some g)
def bN (m:List (Wt × Nat)) (first:Wt) (A:List (Nat × Wt)):List Wt:=first :: (A.map (·.1)).flatMap (cP m)
theorem iA (m:List (Wt × Nat)) (first:Wt) (A:List (Nat × Wt)) (f:Nat) (w:Wt):bN m first (A ++ [(f,w)]) = bN m first A ++ cP m f:=by
 unfold bN
 rw [Ax,List.flatMap_append]
 simp
theorem reach_mem {m:List (Wt × Nat)} {first:Wt} {A:List (Nat × Wt)} {w:Wt}:w ∈ bN m first A ↔ w = first ∨ ∃ f ∈ A.map (·.1),(w,f) ∈ m:=by
 unfold bN
 rw [Be,List.mem_flatMap]
 constructor
 · rintro (h | ⟨f,hf,h⟩)
   · exact .inl h
   · exact .inr ⟨f,hf,by_mem.mp h⟩
 · rintro (h | ⟨f,hf,h⟩)
   · exact .inl h
   · exact .inr ⟨f,hf,by_mem.mpr h⟩
theorem lP (m:List (Wt × Nat)):∀ {fs:List Nat},fs.Nodup → (fs.flatMap (cP m)).length = m.countP (fun x => decide (x.2 ∈ fs))
 | [],_ => by simp
 | f :: fs,nd => by
   rw [List.flatMap_cons,Ar,vQ,lP m (Ca.mp nd).2]
   have hf:=(Ca.mp nd).1
   unfold ctm
   clear nd
   induction m with
   | nil => rfl
   | cons x m ih =>
     rw [Dr,Dr,Dr,← ih]
     by_cases h1:x.2 = f
     · rw [if_pos (Au h1),if_neg (by rw [Bk,h1]; exact hf),if_pos (Au (by rw [h1]; exact An))]
       omega
     · rw [if_neg (by rw [Bk]; exact h1)]
       by_cases h2:x.2 ∈ fs
       · rw [if_pos (Au h2),if_pos (Au (Am _ h2))]
         omega
       · rw [if_neg (by rw [Bk]; exact h2),if_neg (by rw [Bk]; exact fun z => (Be.mp z).elim h1 h2)]
         omega
theorem nP {m:List (Wt × Nat)} {first:Wt} {A:List (Nat × Wt)} (nd:(A.map (·.1)).Nodup):(bN m first A).length ≤ 1 + m.length:=by
 unfold bN
 rw [Bi,lP m nd]
 have:=Fv (p:=fun x:Wt × Nat => decide (x.2 ∈ A.map (·.1))) (l:=m)
 omega
theorem Asking.snoc {ch:Wt → List Nat} {m:List (Wt × Nat)} {first w:Wt} {A:List (Nat × Wt)} {f:Nat} (ndm:(m.map (·.1)).Nodup) (h:Asking ch m first A) (hf:f ∉ A.map (·.1)) (hc:f ∈ ch w) (hw:w ∈ bN m first A):Asking ch m first (A ++ [(f,w)]):=by
 refine ⟨?_,fun j g v hj => ?_⟩
 · rw [Ax]
   exact List.nodup_append.mpr ⟨h.nd,by simp,fun x hx y hy => by rw [List.mem_singleton.mp hy]; intro z; have z2:x = f:=z; rw [z2] at hx; exact hf hx⟩
 · by_cases hlt:j < A.length
   · rw [Ba hlt] at hj
     obtain ⟨h1,h2⟩:=h.ok j g v hj
     refine ⟨h1,h2.imp id ?_⟩
     rintro ⟨g',i,v',hi,hA,hg⟩
     exact ⟨g',i,v',hi,by rw [Ba (by omega)]; exact hA,hg⟩
   · have hj2:j = A.length:=by
       have:=(Af.mp hj).1
       rw [Ar] at this
       have:j < A.length + 1:=this
       omega
     subst hj2
     rw [Bf (Ai _),Nat.sub_self] at hj
     cases hj
     refine ⟨hc,?_⟩
     rcases reach_mem.mp hw with e | ⟨g',hg',hm⟩
     · exact .inl e
     · obtain ⟨x,hx,rfl⟩:=Bc.mp hg'
       obtain ⟨i,hi,ei⟩:=Co.mp hx
       exact .inr ⟨x.1,i,x.2,hi,by rw [Ba hi,Ab hi,ei],jE ndm hm⟩
structure Asked (ch:Wt → List Nat) (m:List (Wt × Nat)) (first:Wt) (A:List (Nat × Wt)):Prop extends Asking ch m first A where
 all1:∀ f ∈ ch first,f ∈ A.map (·.1)
 all:∀ w g,(w,g) ∈ m → g ∈ A.map (·.1) → ∀ f ∈ ch w,f ∈ A.map (·.1)
theorem Asking.done {ch:Wt → List Nat} {m:List (Wt × Nat)} {first:Wt} {A:List (Nat × Wt)} (h:Asking ch m first A) (hc:∀ w ∈ bN m first A,∀ f ∈ ch w,f ∈ A.map (·.1)):Asked ch m first A :=
 ⟨h,hc first (reach_mem.mpr (.inl rfl)),fun w g hm hg => hc w (reach_mem.mpr (.inr ⟨g,hg,hm⟩))⟩
def aQL (m:List (Wt × Nat)) (w:Wt) (f:Nat):List (Wt × Nat):=if (bX m w).isSome = true then m.map fun x => if x.1 = w then (x.1,f) else x else m ++ [(w,f)]
theorem aQR {m:List (Wt × Nat)} {w v:Wt} {f:Nat}:bX (m.map fun x => if x.1 = w then (x.1,f) else x) v = (bX m v).map fun g => if v = w then f else g:=by
 induction m with
 | nil => rfl
 | cons x m ih =>
   rw [Ay,dG,dG,ih]
   by_cases e:x.1 = w
   · rw [if_pos e]
     by_cases e2:x.1 = v
     · rw [if_pos e2,if_pos e2,Et,if_pos (e2.symm.trans e)]
     · rw [if_neg e2,if_neg e2]
   · rw [if_neg e]
     by_cases e2:x.1 = v
     · rw [if_pos e2,if_pos e2,Et,if_neg (fun z => e (e2.trans z))]
     · rw [if_neg e2,if_neg e2]
theorem keys_map {m:List (Wt × Nat)} {w:Wt} {f:Nat}:(m.map fun x => if x.1 = w then (x.1,f) else x).map (·.1) = m.map (·.1):=by
 rw [Cp]
 refine Cg fun x _ => ?_
 show (if x.1 = w then (x.1,f) else x).1 = x.1
 by_cases e:x.1 = w
 · rw [if_pos e]
 · rw [if_neg e]
theorem cQ6 {m:List (Wt × Nat)} {w:Wt} {f g:Nat} (nd:(m.map (·.1)).Nodup) (h:bX m w = some g) (c:Nat) :
   ctm (m.map fun x => if x.1 = w then (x.1,f) else x) c + (if c = g then 1 else 0) = ctm m c + (if c = f then 1 else 0):=by
 induction m with
 | nil => cases h
 | cons x m ih =>
   rw [Ay,Ca] at nd
   rw [dG] at h
   unfold ctm at ih ⊢
   rw [Ay,Dr,Dr]
   by_cases e:x.1 = w
   · rw [if_pos e] at h
     cases h
     have hm:(m.map fun x => if x.1 = w then (x.1,f) else x) = m:=by
       refine (Cg fun y hy => ?_).trans (List.map_id _)
       show (if y.1 = w then (y.1,f) else y) = y
       rw [if_neg (fun z => nd.1 (by rw [e,← z]; exact Bc.mpr ⟨y,hy,rfl⟩))]
     rw [if_pos e,hm]
     have e1:(decide ((x.1,f).2 = c) = true) = (c = f):=by rw [Bk]; exact propext ⟨fun z => z.symm,fun z => z.symm⟩
     have e2:(decide (x.2 = c) = true) = (c = x.2):=by rw [Bk]; exact propext ⟨fun z => z.symm,fun z => z.symm⟩
     simp only [e1,e2]
     omega
   · rw [if_neg e] at h
     rw [if_neg e]
     have r:=ih nd.2 h
     omega
structure Along (ch:Wt → List Nat) (m0:List (Wt × Nat)) (A:List (Nat × Wt)) (f0:Nat) (m:List (Wt × Nat)) (c j:Nat) (w:Wt):Prop where
 keys:m.map (·.1) = m0.map (·.1)
 ok:∀ v f,(v,f) ∈ m → f ∈ ch v
 ct:∀ f,ctm m f + (if f = c then 1 else 0) = ctm m0 f + (if f = f0 then 1 else 0)
 at_:A[j]? = some (c,w)
 same:∀ v g i u,bX m0 v = some g → A[i]? = some (g,u) → i < j → bX m v = some g
theorem bQS {A:List (Nat × Wt)} (nd:(A.map (·.1)).Nodup) {i j g:Nat} {u v:Wt} (hi:A[i]? = some (g,u)) (hj:A[j]? = some (g,v)):i = j:=by
 obtain ⟨h1,e1⟩:=Af.mp hi
 obtain ⟨h2,e2⟩:=Af.mp hj
 refine (Gf (h₀:=by rw [Ac]; exact h1) (h₁:=by rw [Ac]; exact h2) nd).mp ?_
 rw [Eb,Eb,e1,e2]
theorem Along.step {ch:Wt → List Nat} {m0 m:List (Wt × Nat)} {A:List (Nat × Wt)} {f0 c j g i:Nat} {first w v:Wt} (ha:Asking ch m0 first A) (nd0:(m0.map (·.1)).Nodup) (h:Along ch m0 A f0 m c j w) (hg:bX m0 w = some g) (hi:A[i]? = some (g,v)) (hij:i < j) :
   bX m w = some g ∧ Along ch m0 A f0 (m.map fun x => if x.1 = w then (x.1,c) else x) g i v:=by
 have nd:(m.map (·.1)).Nodup:=by rw [h.keys]; exact nd0
 have hw:=h.same w g i v hg hi hij
 refine ⟨hw,keys_map.trans h.keys,fun u f hu => ?_,fun f => ?_,hi,fun u g' i' u' h1 h2 h3 => ?_⟩
 · obtain ⟨x,hx,e⟩:=Bc.mp hu
   by_cases ex:x.1 = w
   · rw [if_pos ex] at e
     cases e
     rw [ex]
     exact (ha.ok j c w h.at_).1
   · rw [if_neg ex] at e
     exact h.ok u f (e ▸ hx)
 · have r1:=cQ6 (f:=c) nd hw f
   have r2:=h.ct f
   omega
 · rw [aQR,h.same u g' i' u' h1 h2 (by omega),Et]
   by_cases e:u = w
   · subst e
     rw [hg] at h1
     cases h1
     exact absurd (bQS ha.nd hi h2) (by omega)
   · rw [if_neg e]
theorem Along.last {ch:Wt → List Nat} {m0 m:List (Wt × Nat)} {A:List (Nat × Wt)} {f0 c j:Nat} {first:Wt} (ha:Asking ch m0 first A) (hf:first ∉ m0.map (·.1)) (h:Along ch m0 A f0 m c j first) :
   bX m first = none ∧ (m ++ [(first,c)]).map (·.1) = m0.map (·.1) ++ [first] ∧ (∀ v f,(v,f) ∈ m ++ [(first,c)] → f ∈ ch v) ∧ ∀ f,ctm (m ++ [(first,c)]) f = ctm m0 f + (if f = f0 then 1 else 0):=by
 refine ⟨hget_none.mpr (by rw [h.keys]; exact hf),by rw [Ax,h.keys]; rfl,fun v f hv => ?_,fun f => ?_⟩
 · rcases Ci.mp hv with e | e
   · exact h.ok v f e
   · cases Aq.mp e
     exact (ha.ok j c first h.at_).1
 · have r:=h.ct f
   unfold ctm at r ⊢
   rw [List.countP_append]
   have e:List.countP (fun x:Wt × Nat => decide (x.2 = f)) [(first,c)] = if f = c then 1 else 0:=by
     rw [List.countP_singleton]
     by_cases z:f = c
     · rw [if_pos z,if_pos (Au z.symm)]
     · rw [if_neg z,if_neg (by rw [Bk]; exact fun y => z y.symm)]
   rw [e]
   exact r
def fZ (m:List (Wt × Nat)) (first:Wt) (A:List (Nat × Wt)) (wl:List Wt):List Wt:=wl.filter fun w => decide (w = first) || (match bX m w with | some g => decide (g ∈ A.map (·.1)) | none => false)
def fJ (m:List (Wt × Nat)) (first:Wt) (A:List (Nat × Wt)) (w:Wt):Bool:=decide (w = first) || (match bX m w with | some g => decide (g ∈ A.map (·.1)) | none => false)
theorem rS {m:List (Wt × Nat)} {first w:Wt} {A:List (Nat × Wt)} (h:w = first):fJ m first A w = true:=by
 unfold fJ
 rw [Au h,Bool.true_or]
theorem mR {m:List (Wt × Nat)} {first w:Wt} {A:List (Nat × Wt)} (h:w ≠ first) (e:bX m w = none):fJ m first A w = false:=by
 unfold fJ
 rw [Bd h,e]
 rfl
theorem lD {m:List (Wt × Nat)} {first w:Wt} {A:List (Nat × Wt)} {g:Nat} (h:w ≠ first) (e:bX m w = some g):fJ m first A w = decide (g ∈ A.map (·.1)):=by
 unfold fJ
 rw [Bd h,e,Ho]
theorem mE {m:List (Wt × Nat)} {first:Wt} {A:List (Nat × Wt)} {ws:List Wt} {w:Wt}:fZ m first A (ws ++ [w]) = fZ m first A ws ++ if fJ m first A w = true then [w] else []:=by
 have e:∀ l,fZ m first A l = l.filter (fJ m first A):=fun l => rfl
 rw [e,e,Fs,Gh]
 rfl
theorem lackW_mem {m:List (Wt × Nat)} {first w:Wt} {A:List (Nat × Wt)} {ws:List Wt}:w ∈ fZ m first A ws ↔ w ∈ ws ∧ fJ m first A w = true:=by
 have e:∀ l,fZ m first A l = l.filter (fJ m first A):=fun l => rfl
 rw [e,Do]
theorem aZ3 {m:List (Wt × Nat)} {first:Wt} {A:List (Nat × Wt)} {l r:List Wt} (hk:m.map (·.1) = l) (nd:(l ++ first :: r).Nodup):(fZ m first A (l ++ first :: r)).length = 1 + m.countP (fun x => decide (x.2 ∈ A.map (·.1))):=by
 have hl:(m.map (·.1)).Nodup:=by rw [hk]; exact (Fa.mp nd).1
 have hfl:first ∉ l:=fun z => (Fa.mp nd).2.2 first z first An rfl
 have hfr:first ∉ r:=(Ca.mp (Fa.mp nd).2.1).1
 have hrl:∀ w ∈ r,w ∉ l:=fun w hw z => (Fa.mp nd).2.2 w z w (Am _ hw) rfl
 unfold fZ
 rw [Fs,Ar,Gh,if_pos (by rw [Au rfl]; rfl),Bi]
 have er:r.filter (fun w => decide (w = first) || (match bX m w with | some g => decide (g ∈ A.map (·.1)) | none => false)) = []:=by
   refine List.filter_eq_nil_iff.mpr fun w hw => ?_
   have e:bX m w = none:=hget_none.mpr (by rw [hk]; exact hrl w hw)
   rw [Bd (show ¬ w = first from fun z => by rw [z] at hw; exact hfr hw),e,Ho]
   exact Ao
 have el:(l.filter (fun w => decide (w = first) || (match bX m w with | some g => decide (g ∈ A.map (·.1)) | none => false))).length = m.countP (fun x => decide (x.2 ∈ A.map (·.1))):=by
   rw [← hk,List.filter_map,Ac,← List.countP_eq_length_filter]
   refine List.countP_congr fun x hx => ?_
   show (decide (x.1 = first) || (match bX m x.1 with | some g => decide (g ∈ A.map (·.1)) | none => false)) = true ↔ _
   rw [jE hl (w:=x.1) (f:=x.2) hx,Bd (fun z => hfl (by rw [← z,← hk]; exact Bc.mpr ⟨x,hx,rfl⟩)),Ho]
 rw [er,el,List.length_nil]
 omega
theorem bJN (m:List (Wt × Nat)):∀ {fs:List Nat},fs.Nodup → m.countP (fun x => decide (x.2 ∈ fs)) = (fs.map (ctm m)).sum:=fun {fs} nd => by
 rw [← lP m nd]
 induction fs with
 | nil => rfl
 | cons f fs ih => rw [List.flatMap_cons,Ar,vQ,Ay,Df,ih (Ca.mp nd).2]
def gR (cws:List (List Nat)) (k:Nat):List Wt:=(List.range (cws.getD k []).length).map fun j => (k,1 + j)
def wlP (cws:List (List Nat)) (i:Nat):List Wt:=(List.range i).flatMap (gR cws)
def wl (cws:List (List Nat)):List Wt:=wlP cws cws.length
def wV (w:Wt):List V:=[.int (w.1:Int),.int (w.2:Int)]
theorem fM (cws:List (List Nat)) (i:Nat):wlP cws (i + 1) = wlP cws i ++ gR cws i:=by
 unfold wlP
 rw [Dp,List.flatMap_append]
 simp
theorem kZ (cws:List (List Nat)):∀ i,iE cws i = (wlP cws i).map wV
 | 0 => rfl
 | i + 1 => by
   rw [fO,fM,Ax,kZ cws i]
   congr 1
   unfold vD gR
   rw [Cp]
   refine Cg fun j _ => ?_
   show [V.int ((i:Nat):Int),V.int (1 + (j:Int))] = [V.int ((i:Nat):Int),V.int ((1 + j:Nat):Int)]
   rw [show ((1 + j:Nat):Int) = 1 + (j:Int) by omega]
theorem wlP_mem {cws:List (List Nat)} {w:Wt}:∀ {i:Nat},w ∈ wlP cws i ↔ w.1 < i ∧ 1 ≤ w.2 ∧ w.2 ≤ (cws.getD w.1 []).length:=fun {i} => by
 unfold wlP gR
 rw [List.mem_flatMap]
 constructor
 · rintro ⟨k,hk,h⟩
   obtain ⟨j,hj,rfl⟩:=Bc.mp h
   have:=Bn.mp hk
   have:=Bn.mp hj
   exact ⟨by omega,by show 1 ≤ 1 + j; omega,by show 1 + j ≤ (cws.getD k []).length; omega⟩
 · rintro ⟨h1,h2,h3⟩
   refine ⟨w.1,Bn.mpr h1,Bc.mpr ⟨w.2 - 1,Bn.mpr (by omega),?_⟩⟩
   exact Prod.ext rfl (by show 1 + (w.2 - 1) = w.2; omega)
theorem iC (cws:List (List Nat)):∀ i,(wlP cws i).Nodup
 | 0 => List.nodup_nil
 | i + 1 => by
   rw [fM]
   refine Fa.mpr ⟨iC cws i,?_,fun a ha b hb e => ?_⟩
   · unfold gR
     exact List.Pairwise.map _ (fun a b h => fun z => h (by have:=Cr Prod.snd z; have e:1 + a = 1 + b:=this; omega)) List.nodup_range
   · subst e
     have h1:=(wlP_mem.mp ha).1
     unfold gR at hb
     obtain ⟨j,_,rfl⟩:=Bc.mp hb
     exact absurd h1 (Cv _)
theorem gE {cws:List (List Nat)} (h7:∀ c ∈ cws,c.length ≤ 7) (i:Nat):(wlP cws i).length ≤ 7 * i:=by
 have:=iG h7 i
 rw [kZ,Ac] at this
 exact this
def chW (cws:List (List Nat)) (w:Wt):List Nat:=chs (cws.getD w.1 []) (w.2 - 1)
def cN (ws:List Wt) (ds:List Addr):List (List Key × V):=List.zipWith (fun w d => (cA w,V.ref d)) ws ds
def cJD (H:Hp) (r:Addr) (cws:List (List Nat)) (i:Nat):Prop:=∃ ds:List Addr,ds.length = i ∧ H r = some (.dT (cN ((wl cws).take i) ds)) ∧ ∀ (j:Nat) w d,j < i → (wl cws)[j]? = some w → ds[j]? = some d → H d = some (.lst (((chW cws w).map one).map V.str))
theorem yT {ws:List Wt} {ds:List Addr} (nd:ws.Nodup) (hl:ds.length = ws.length) {j:Nat} {w:Wt} {d:Addr} (hw:ws[j]? = some w) (hd:ds[j]? = some d):bH (cN ws ds) (cA w) = some (.ref d):=by
 induction ws generalizing ds j with
 | nil => cases hw
 | cons x ws ih =>
   cases ds with
   | nil => cases hl
   | cons e ds =>
     show bH ((cA x,V.ref e) :: cN ws ds) _ = _
     cases j with
     | zero => cases hw; cases hd; exact bM rfl
     | succ j =>
       have hm:=As (show ws[j]? = some w from hw)
       rw [bF (fun z => (Ca.mp nd).1 (by rw [jK z]; exact hm))]
       exact ih (List.nodup_cons.mp nd).2 (by simpa using hl) hw hd
theorem tZ {ws:List Wt} {ds:List Addr} {w:Wt} (h:w ∉ ws):bH (cN ws ds) (cA w) = none:=by
 induction ws generalizing ds with
 | nil => rfl
 | cons x ws ih =>
   cases ds with
   | nil => rfl
   | cons e ds =>
     show bH ((cA x,V.ref e) :: cN ws ds) _ = _
     rw [bF (fun z => h (by rw [jK z]; exact An))]
     exact ih fun z => h (Am _ z)
theorem oN {ws:List Wt} {ds:List Addr} (hl:ds.length = ws.length):(cN ws ds).length = ws.length:=by
 unfold cN
 rw [List.length_zipWith]
 omega
theorem uD {ws:List Wt} {ds:List Addr} {w:Wt} {d:Addr} (hl:ds.length = ws.length):cN (ws ++ [w]) (ds ++ [d]) = cN ws ds ++ [(cA w,V.ref d)]:=by
 unfold cN
 rw [List.zipWith_append (by omega)]
 rfl
def gU:Sp:=fun vs H Q _ => ∃ (a:Addr) (cws:List (List Nat)),vs = [.ref a] ∧ rdL H a = some ((cws.map aY).map V.str) ∧ cws.length ≤ 8 ∧ (∀ c ∈ cws,c.length ≤ 7) ∧
 ∀ (r:Addr) (H':Hp),H r = none → Same H H' → cJD H' r cws (wl cws).length → Q (.ref r) H'
theorem sc_choices_of:FnScope ["words", "choices", "want"] ["words"] (aG cD):=⟨rfl,rfl,rfl,by decide +kernel,rfl,by decide +kernel,by decide +kernel⟩
theorem nA {Zy Zz:Addr} {f:Addr} {fd:FuncData} (F:Fun K "choices_of" "choices_of" cD f fd) (G:Gs K mg Zy Zz) (c_wants_of:Cal P w K mg base 1 "wants_of" ["words"] kD) (c_choices_at:Cal P w K mg base 1 "choices_at" ["word", "place"] gM):FnOk P w K mg base CX0 2 f fd ["words"] gU:=by
 refine F.ok sc_choices_of (fun vs H Q E h => ?_) (fun cdv A outer s H vs Q E hr h => ?_)
 · obtain ⟨a,cws,rfl,_⟩:=h; rfl
 obtain ⟨a,cws,rfl,ha,h8,h7,q⟩:=h
 refine ⟨_,(@aD _ _ _ _ _ (@aP _ _ 1 _ _ _ _ sc_choices_of.nd (by rfl) (by exact (Or.inl rfl)) sJ (by rfl) (by first | exact Or.inl rfl | exact Or.inr rfl)) (@aD _ _ _ _ _ (cQ Bp rfl (iV (cH c_wants_of hr (by decide) rfl (aA (mv 0) aE))) (aR (i:=2) sc_choices_of.nd rfl (Or.inl rfl)) (@aI _ _ _ (eB (Room.u1 hr) (mv 1) (mv 2) (cH c_choices_at hr (by decide) rfl (aA (cL eU (mv 0) (cL eU (mv 2) aJ (fun _ _ => rfl)) (fun _ _ => rfl)) (aA (cL eU (mv 2) aJ (fun _ _ => rfl)) aE))) rfl))) (@aI _ _ _ (bE (mv 1))))),?_⟩
 walk_at "go"
 intro pc hpc
 walk_at "go"
 refine ⟨a,cws,rfl,aK (aF hpc _) ha,h8,h7,fun r ps H1 hr s1 e1 tp => ?_⟩
 have s01:=(aF hpc (.dT [])).trans s1
 have ec1:=s1 _ _ (aB (H:=H) (a:=pc) (o:=.dT []))
 have hlw:(wl cws).length ≤ 56:=Bg (gE h7 _) (by omega)
 rw [kZ] at tp
 have hpl:ps.length = (wl cws).length:=by rw [tp.1,Ac]; rfl
 have hpm:(ps.map V.ref).length = (wl cws).length:=by rw [Ac,hpl]
 have tat:∀ (j:Nat) p w,ps[j]? = some p → (wl cws)[j]? = some w → H1 p = some (.tup (wV w)):=fun j p w hp hw => (tp.2 j p _ hp (by rw [Al]; exact Cr (Option.map wV) hw)).2
 have r1:=bI e1
 have hcr:pc ≠ r:=fun z => by rw [← z,aB] at hr; cases hr
 walk_at "go"
 refine eZ (xs:=ps.map V.ref) (fun i σ H' => ∃ (v:Option V),σ = [some (.ref a),some (.ref pc),v] ∧ Same H H' ∧ (∀ b u,b ≠ pc → H1 b = some u → H' b = some u) ∧ cJD H' pc cws i)
   ⟨_,rfl,s01,fun b u _ h => h,[],rfl,ec1,fun j w d hj => absurd hj (Ey _)⟩ (fun i σ H' _ ⟨_,_,_,k,_⟩ => bI (k _ _ (Ne.symm hcr) e1)) ?_ ?_
 · rintro i x σ H2 hx ⟨v,rfl,s2,k2,ds,dl,ed,hds⟩
   rw [Al] at hx
   cases e:ps[i]? with
   | none => rw [e] at hx; cases hx
   | some p =>
     rw [e] at hx
     cases hx
     have hi:i < (wl cws).length:=by rw [← hpl]; exact (Af.mp e).1
     have ew:(wl cws)[i]? = some (wl cws)[i]:=Ab hi
     have hm:=wlP_mem.mp (Bh hi)
     have htp1:=tat i p _ e ew
     have hpne:p ≠ pc:=fun z => by rw [z,ec1] at htp1; cases htp1
     have ht:=k2 _ _ hpne htp1
     have hnew:(wl cws)[i] ∉ (wl cws).take i:=fun z => by
       obtain ⟨j,hj,ej⟩:=Co.mp z
       rw [By] at hj
       rw [List.getElem_take] at ej
       have:=(Gf (iC cws cws.length)).mp ej
       omega
     have htk:(wl cws).take (i + 1) = (wl cws).take i ++ [(wl cws)[i]]:=by rw [Bq,ew]; rfl
     generalize hw:(wl cws)[i] = w at hm ht hnew htk ew
     obtain ⟨h1,h2,h3⟩:=hm
     have ecw:cws[w.1]? = some (cws.getD w.1 []):=by rw [Ag,Ab h1]; rfl
     have h7w:=h7 _ (As ecw)
     have ha2:=aK s2 ha
     walk_at "go"
     refine bZ4 ht (v:=.int (w.1:Int)) rfl ?_
     walk_at "go"
     refine jC ha2 (v:=.str (aY (cws.getD w.1 []))) (dZ (by rw [Al,Al,ecw]; rfl)) ?_
     walk_at "go"
     refine bZ4 ht (v:=.int (w.2:Int)) rfl ?_
     walk_at "go"
     refine ⟨cws.getD w.1 [],w.2 - 1,_,rfl,by omega,by omega,h7w,fun d H3 hd s3 e3 => ?_⟩
     walk_at "go"
     have dl2:ds.length = ((wl cws).take i).length:=by rw [dl,By]; omega
     refine pL (k:=cA w) (s3 _ _ ed) (s3 _ _ ht) (bD (by rw [oN dl2,By]; omega)) ?_
     have hdp:d ≠ pc:=fun z => by rw [z,ed] at hd; cases hd
     refine ⟨_,rfl,bG hpc (s2.trans s3),fun b u hb hu => by rw [aH hb]; exact s3 _ _ (k2 b u hb hu),ds ++ [d],by rw [Ar,dl]; rfl,?_,fun j v' d' hj hv hd' => ?_⟩
     · rw [aB,fW _ (tZ hnew),htk,uD dl2]
     · by_cases hjl:j < i
       · rw [Ba (by omega)] at hd'
         have hold:=hds j v' d' hjl hv hd'
         rw [aH (fun z => by rw [z,ed] at hold; cases hold)]
         exact s3 _ _ hold
       · have hj2:j = i:=by omega
         subst hj2
         rw [ew] at hv
         cases hv
         rw [Bf (by omega),dl,Nat.sub_self] at hd'
         cases hd'
         rw [aH hdp]
         exact e3
 · rintro σ H2 ⟨v,rfl,s2,k2,hch⟩
   rw [hpm] at hch
   walk_at "go"
   exact q pc H2 hpc s2 hch
def dY (m:List (Wt × Nat)):List (List Key × V):=m.map fun x => (cA x.1,V.str (one x.2))
theorem fY (m:List (Wt × Nat)) (w:Wt):bH (dY m) (cA w) = (bX m w).map fun f => V.str (one f):=by
 induction m with
 | nil => rfl
 | cons x m ih =>
   show bH ((cA x.1,V.str (one x.2)) :: dY m) _ = _
   rw [dG]
   by_cases e:x.1 = w
   · rw [if_pos e,bM (by show cA x.1 = cA w; rw [e])]
     rfl
   · rw [if_neg e,bF (fun z => e (jK z)),ih]
def dN (A:List (Nat × Wt)) (bs:List Addr):List (Key × V):=List.zipWith (fun x b => (Sum.inr (one x.1),V.ref b)) A bs
theorem gH {A:List (Nat × Wt)} {bs:List Addr} (hl:bs.length = A.length) (f:Nat):(bH (dN A bs) (Sum.inr (one f))).isSome = decide (f ∈ A.map (·.1)):=by
 induction A generalizing bs with
 | nil => rfl
 | cons x A ih =>
   cases bs with
   | nil => cases hl
   | cons b bs =>
     show (bH ((Sum.inr (one x.1),V.ref b) :: dN A bs) _).isSome = _
     by_cases e:x.1 = f
     · rw [bM (by show (Sum.inr (one x.1):Key) = Sum.inr (one f); rw [e]),Au (by rw [← e]; exact An)]
       rfl
     · rw [bF (fun z => e (key_one.mp z)),ih (by simpa using hl)]
       exact Dg.mpr ⟨fun z => Am _ z,fun z => (Be.mp z).resolve_left fun y => e y.symm⟩
theorem aQB {A:List (Nat × Wt)} {bs:List Addr} (hl:bs.length = A.length) {f:Nat} (h:f ∉ A.map (·.1)):bH (dN A bs) (Sum.inr (one f)) = none:=by
 have r:=gH hl f
 rw [Bd h] at r
 cases e:bH (dN A bs) (Sum.inr (one f)) with
 | none => rfl
 | some v => rw [e] at r; cases r
theorem xR {A:List (Nat × Wt)} {bs:List Addr} {x:Nat × Wt} {b:Addr} (hl:bs.length = A.length):dN (A ++ [x]) (bs ++ [b]) = dN A bs ++ [(Sum.inr (one x.1),V.ref b)]:=by
 unfold dN
 rw [List.zipWith_append (by omega)]
 rfl
theorem mJ {A:List (Nat × Wt)} {bs:List Addr} (hl:bs.length = A.length):(dN A bs).length = A.length:=by
 unfold dN
 rw [List.length_zipWith]
 omega
theorem aQS {A:List (Nat × Wt)} {bs:List Addr} (nd:(A.map (·.1)).Nodup) (hl:bs.length = A.length) {j f:Nat} {w:Wt} {b:Addr} (hA:A[j]? = some (f,w)) (hb:bs[j]? = some b):bH (dN A bs) (Sum.inr (one f)) = some (.ref b):=by
 induction A generalizing bs j with
 | nil => cases hA
 | cons x A ih =>
   cases bs with
   | nil => cases hl
   | cons e bs =>
     show bH ((Sum.inr (one x.1),V.ref e) :: dN A bs) _ = _
     rw [Ay,Ca] at nd
     cases j with
     | zero => cases hA; cases hb; exact bM rfl
     | succ j =>
       have hm:f ∈ A.map (·.1):=Bc.mpr ⟨(f,w),As (show A[j]? = some (f,w) from hA),rfl⟩
       rw [bF (fun z => nd.1 (by rw [key_one.mp z]; exact hm))]
       exact ih nd.2 (by simpa using hl) hA hb
def WtsAt (H:Hp) (rs:List Addr) (ws:List Wt):Prop:=rs.length = ws.length ∧ ∀ (j:Nat) r w,rs[j]? = some r → ws[j]? = some w → H r = some (.tup (wV w))
theorem WtsAt.keep {H H':Hp} {rs:List Addr} {ws:List Wt} (h:WtsAt H rs ws) (k:∀ r w,H r = some (.tup (wV w)) → H' r = some (.tup (wV w))):WtsAt H' rs ws:=⟨h.1,fun j r w hr hw => k _ _ (h.2 j r w hr hw)⟩
theorem WtsAt.app {H:Hp} {rs qs:List Addr} {ws vs:List Wt} (h:WtsAt H rs ws) (g:WtsAt H qs vs):WtsAt H (rs ++ qs) (ws ++ vs):=by
 refine ⟨by rw [Ar,Ar,h.1,g.1],fun j r w hr hw => ?_⟩
 by_cases hj:j < rs.length
 · rw [Ba hj] at hr
   rw [Ba (by rw [← h.1]; exact hj)] at hw
   exact h.2 j r w hr hw
 · rw [Bf (by omega)] at hr
   rw [Bf (by rw [← h.1]; omega),← h.1] at hw
   exact g.2 _ r w hr hw
theorem WtsAt.one {H:Hp} {r:Addr} {w:Wt} (h:H r = some (.tup (wV w))):WtsAt H [r] [w]:=⟨rfl,fun j q v hq hv => by
 cases j with
 | zero => cases hq; cases hv; exact h
 | succ j => cases hq⟩
def ChRd (H:Hp) (r:Addr) (cws:List (List Nat)):Prop:=∃ ds:List Addr,ds.length = (wl cws).length ∧ Rd H r (.dT (cN (wl cws) ds)) ∧ ∀ (j:Nat) w d,(wl cws)[j]? = some w → ds[j]? = some d → H d = some (.lst (((chW cws w).map one).map V.str))
theorem ChRd.keep {H H':Hp} {r:Addr} {cws:List (List Nat)} (h:ChRd H r cws) (s:Same H H'):ChRd H' r cws:=by
 obtain ⟨ds,h1,h2,h3⟩:=h
 exact ⟨ds,h1,h2.elim (fun e => .inl (s _ _ e)) fun ⟨o,e⟩ => .inr ⟨o,s _ _ e⟩,fun j w d hw hd => s _ _ (h3 j w d hw hd)⟩
structure HungOk (cws:List (List Nat)) (m:List (Wt × Nat)):Prop where
 nd:(m.map (·.1)).Nodup
 sub:∀ x ∈ m,x.1 ∈ wl cws
theorem aZD {cws:List (List Nat)} (hL:∀ c ∈ cws,c.length ≤ 7 ∧ ∀ d ∈ c,cV d) {w:Wt} (hw:w ∈ wl cws) {f:Nat} (hf:f ∈ chW cws w):mY f:=by
 obtain ⟨h1,h2,h3⟩:=wlP_mem.mp hw
 have ecw:cws[w.1]? = some (cws.getD w.1 []):=by rw [Ag,Ab h1]; rfl
 rcases ch_iff.mp hf with e | ⟨n,_,h4,_,e⟩
 · rw [e]
   exact .inl (sZ (hL _ (As ecw)).2 (by omega))
 · rw [e]
   exact .inr ⟨by omega,by omega⟩
theorem aZ6 {cws:List (List Nat)} {m:List (Wt × Nat)} {first:Wt} {A:List (Nat × Wt)} (hm:HungOk cws m) (hfw:first ∈ wl cws) (h:Asking (chW cws) m first A) {j f:Nat} {w:Wt} (hj:A[j]? = some (f,w)):w ∈ wl cws:=by
 rcases (h.ok j f w hj).2 with e | ⟨g,i,v,_,_,hg⟩
 · rw [e]; exact hfw
 · exact hm.sub _ (sW hg)
theorem xB {cws:List (List Nat)} {m:List (Wt × Nat)} {first:Wt} {A:List (Nat × Wt)} (hm:HungOk cws m) (hfw:first ∈ wl cws) (hL:∀ c ∈ cws,c.length ≤ 7 ∧ ∀ d ∈ c,cV d) (h:Asking (chW cws) m first A):A.length ≤ 27:=by
 have r:=aZJ (m:=flagsT.cps.toList) h.nd fun f hf => by
   obtain ⟨x,hx,rfl⟩:=Bc.mp hf
   obtain ⟨j,hj,e⟩:=Co.mp hx
   have hj2:A[j]? = some (x.1,x.2):=by rw [Ab hj,e]
   exact flags_mem.mpr (aZD hL (aZ6 hm hfw h hj2) (h.ok j _ _ hj2).1)
 rw [Ac] at r
 exact r
def gN:Sp:=fun vs H Q _ => ∃ (bf ac ah:Addr) (cws:List (List Nat)) (m:List (Wt × Nat)) (first:Wt),vs = [.ref bf,.ref ac,.ref ah] ∧ H bf = some (.tup (wV first)) ∧ first ∈ wl cws ∧ ChRd H ac cws ∧ H ah = some (.dT (dY m)) ∧ HungOk cws m ∧ m.length ≤ 56 ∧ cws.length ≤ 8 ∧ (∀ c ∈ cws,c.length ≤ 7 ∧ ∀ d ∈ c,cV d) ∧
 ∀ (r:Addr) (A:List (Nat × Wt)) (bs:List Addr) (H':Hp),H r = none → Same H H' → H' r = some (.dK (dN A bs)) → WtsAt H' bs (A.map (·.2)) → Asked (chW cws) m first A → Q (.ref r) H'
theorem sc_asked_from:FnScope ["first", "choices", "hung", "asked", "reached", "at", "asking", "flag"] ["first", "choices", "hung"] (aG bT):=⟨rfl,rfl,rfl,by decide +kernel,rfl,by decide +kernel,by decide +kernel⟩
theorem mS {Zy Zz:Addr} {f:Addr} {fd:FuncData} (F:Fun K "asked_from" "asked_from" bT f fd) (G:Gs K mg Zy Zz)  : FnOk P w K mg base CX0 1 f fd ["first", "choices", "hung"] gN:=by
 refine F.ok sc_asked_from (fun vs H Q E h => ?_) (fun cdv A outer s H vs Q E hr h => ?_)
 · obtain ⟨bf,ac,ah,cws,m,first,rfl,_⟩:=h; rfl
 obtain ⟨bf,ac,ah,cws,m,first,rfl,hbf,hfw,hch,hah,hm,hml,h8,hL,q⟩:=h
 refine ⟨_,(@aD _ _ _ _ _ (@aP _ _ 3 _ _ _ _ sc_asked_from.nd (by rfl) (by exact (Or.inl rfl)) jJ (by rfl) (by first | exact Or.inl rfl | exact Or.inr rfl)) (@aD _ _ _ _ _ (@aP _ _ 4 _ _ _ _ sc_asked_from.nd (by rfl) (by exact (Or.inl rfl)) (fB (aA (mv 0) aE)) (by rfl) (by first | exact Or.inl rfl | exact Or.inr rfl)) (@aD _ _ _ _ _ (@aP _ _ 5 _ _ _ _ sc_asked_from.nd (by rfl) (by exact (Or.inl rfl)) aJ (by rfl) (by first | exact Or.inl rfl | exact Or.inr rfl)) (@aD _ _ _ _ _ (rY Bp (bK cXL (mv 5) (aO fK rfl G.b_len dH (aA (mv 4) aE)) (bW _)) (@aD _ _ _ _ _ (@aP _ _ 6 _ _ _ _ sc_asked_from.nd (by rfl) (by exact (Or.inl rfl)) (cL eU (mv 4) (mv 5) (fun _ _ => rfl)) (by rfl) (by first | exact Or.inl rfl | exact Or.inr rfl)) (@aD _ _ _ _ _ (cQ Bp rfl (iV (eF (Room.u1 hr) (mv 1) (mv 6) (fun _ _ => rfl))) (aR (i:=7) sc_asked_from.nd rfl (Or.inr rfl)) (@aI _ _ _ (dP (bK (aX9 (Room.u1 hr)) (mv 7) (mv 3) (by rfl)) (@aD _ _ _ _ _ (eB (Room.u1 hr) (mv 3) (mv 7) (mv 6) rfl) (@aI _ _ _ (dR (fA Dq PySem.F.slot_list_extend PySem.F.type_list_extend bZ5 (mv 4) (aA (aJP (kW rfl (iM (mv 2)) (kF (N:=["want", "flag", "hung"]) ["first", "choices", "hung", "asked", "reached", "at", "asking", "flag"] (aG bT) [none,some 7,some 2] rfl rfl rfl (fun x h => cJ h) (by decide +kernel)) (by decide +kernel) rfl (by decide +kernel) (fun C s₀ H₀ ex => (aR (i:=0) (show List.Nodup (["want", "flag", "hung"]:List Str) by decide +kernel) rfl (Or.inl rfl))) (fun C s₀ H₀ ex => (mQ (bK bXM (eF (Room.u1 hr) (mv 2) (mv 0) (fun _ _ => rfl)) (mv 1) (bW _)))) (fun C s₀ H₀ ex => (mv 0)))) aE))))) bO))) (@aI _ _ _ (@aP _ _ 5 _ _ _ _ sc_asked_from.nd (by rfl) (by exact (Or.inl rfl)) (aN cX (mv 5) aJ) (by rfl) (by first | exact Or.inl rfl | exact Or.inr rfl)))))) (@aI _ _ _ (bE (mv 3))))))),?_⟩
 walk_at "go"
 intro pa hpa
 walk_at "go"
 refine ⟨by show 1 ≤ sizeLine; decide,fun pr hpr => ?_⟩
 have s1:=(aF hpa (.dK [])).trans (aF hpr (.lst [.ref bf]))
 have npr:pa ≠ pr:=fun z => by rw [← z,aB] at hpr; cases hpr
 have ea1:(upd (upd H pa (.dK [])) pr (.lst [.ref bf])) pa = some (.dK []):=by rw [aH npr,aB]
 have er1:(upd (upd H pa (.dK [])) pr (.lst [.ref bf])) pr = _:=aB
 have hpr0:H pr = none:=none_of (aF hpa _) hpr
 generalize upd (upd H pa (.dK [])) pr (.lst [.ref bf]) = H1 at s1 ea1 er1 ⊢
 walk_at "go"
 refine ⟨fun n σ H' => ∃ (A:List (Nat × Wt)) (bs rs:List Addr) (t:Nat) (v1 v2:Option V),σ = [some (.ref bf),some (.ref ac),some (.ref ah),some (.ref pa),some (.ref pr),some (.int (t:Int)),v1,v2] ∧ Same H H' ∧ H' pa = some (.dK (dN A bs)) ∧ WtsAt H' bs (A.map (·.2)) ∧ H' pr = some (.lst (rs.map V.ref)) ∧ WtsAt H' rs (bN m first A) ∧
     Asking (chW cws) m first A ∧ t ≤ (bN m first A).length ∧ (∀ (j:Nat) w,j < t → (bN m first A)[j]? = some w → ∀ f ∈ chW cws w,f ∈ A.map (·.1)) ∧ n = 1 + m.length - t,⟨_,[],[],[bf],0,_,_,rfl,s1,ea1,⟨rfl,fun j r w hr => (nomatch hr)⟩,er1,.one (s1 _ _ hbf),⟨List.nodup_nil,fun j f w hj => (nomatch hj)⟩,Cq _,fun j w hj => absurd hj (Ey _),rfl⟩,?_⟩
 rintro n σ H2 ⟨A,bs,rs,t,v1,v2,rfl,s2,ea2,wb2,er2,wr2,hask,htl,hcl,rfl⟩
 have hrl:(rs.map V.ref).length = (bN m first A).length:=by rw [Ac,wr2.1]
 have rr2:=bI er2
 walk_at "go"
 rw [hrl]
 refine mN (fun hd => ?_) (fun hd => ?_)
 · have hd':=Br hd
   have ht:t < (bN m first A).length:=by omega
   have hrm:=nP (m:=m) (first:=first) hask.nd
   have htr:t < rs.length:=by rw [wr2.1]; exact ht
   have ew:(bN m first A)[t]? = some (bN m first A)[t]:=Ab ht
   have er:rs[t]? = some rs[t]:=Ab htr
   have hwt:=wr2.2 t _ _ er ew
   have hww:(bN m first A)[t] ∈ wl cws:=by
     rcases reach_mem.mp (Bh ht) with e | ⟨f,_,hm2⟩
     · rw [e]; exact hfw
     · exact hm.sub _ hm2
   generalize hbw:rs[t] = b at hwt er
   generalize hwe:(bN m first A)[t] = w at hwt hww ew
   clear hbw hwe hd hd'
   obtain ⟨ds,d1,d2,d3⟩:=id hch
   obtain ⟨jw,hjw,ejw⟩:=Co.mp hww
   have ejw2:(wl cws)[jw]? = some w:=by rw [Ab hjw,ejw]
   have edw:ds[jw]? = some (ds[jw]'(by omega)):=Ab (by omega)
   have hdlH:=d3 jw w _ ejw2 edw
   have hdv:=yT (iC cws cws.length) d1 ejw2 edw
   generalize (ds[jw]'(by omega)) = dl at hdlH hdv
   have hdl:=s2 _ _ hdlH
   have d22:Rd H2 ac (.dT (cN (wl cws) ds)):=d2.elim (fun e => .inl (s2 _ _ e)) fun ⟨o,e⟩ => .inr ⟨o,s2 _ _ e⟩
   refine ⟨fun σ' H' => ∃ (A:List (Nat × Wt)) (bs rs:List Addr) (v1 v2:Option V),σ' = [some (.ref bf),some (.ref ac),some (.ref ah),some (.ref pa),some (.ref pr),some (.int ((t + 1:Nat):Int)),v1,v2] ∧ Same H H' ∧ H' pa = some (.dK (dN A bs)) ∧ WtsAt H' bs (A.map (·.2)) ∧ H' pr = some (.lst (rs.map V.ref)) ∧ WtsAt H' rs (bN m first A) ∧
     Asking (chW cws) m first A ∧ t + 1 ≤ (bN m first A).length ∧ (∀ (j:Nat) w,j < t + 1 → (bN m first A)[j]? = some w → ∀ f ∈ chW cws w,f ∈ A.map (·.1)),?_,?_⟩
   · rintro σ' H' ⟨A',bs',rs',v1',v2',rfl,g1,g2,g3,g4,g5,g6,g7,g8⟩
     exact ⟨1 + m.length - (t + 1),by omega,A',bs',rs',t + 1,v1',v2',rfl,g1,g2,g3,g4,g5,g6,g7,g8,rfl⟩
   walk_at "go"
   refine jC rr2 (v:=.ref b) (dZ (by rw [Al,er]; rfl)) ?_
   walk_at "go"
   refine uZ (k:=cA w) d22 hwt hdv ?_
   have rdl:=bI hdl
   have hcl5:=(xE (cws.getD w.1 []) (w.2 - 1)).2
   have hcm:(((chW cws w).map one).map V.str).length = (chW cws w).length:=by rw [Ac,Ac]
   walk_at "go"
   have kt:∀ {H':Hp} {p:Addr} {u u':HO},H' p = some u → (∀ ws,u ≠ .tup ws) → ∀ r w,H' r = some (.tup (wV w)) → (upd H' p u') r = some (.tup (wV w)):=fun {H' p u u'} e ne r w h => by
     rw [aH (fun z => by rw [z,e] at h; cases h; exact ne _ rfl)]
     exact h
   refine eZ (xs:=((chW cws w).map one).map V.str) (fun i σ H' => ∃ (A:List (Nat × Wt)) (bs rs:List Addr) (v2:Option V),σ = [some (.ref bf),some (.ref ac),some (.ref ah),some (.ref pa),some (.ref pr),some (.int (t:Int)),some (.ref b),v2] ∧ Same H H' ∧ H' pa = some (.dK (dN A bs)) ∧ WtsAt H' bs (A.map (·.2)) ∧ H' pr = some (.lst (rs.map V.ref)) ∧ WtsAt H' rs (bN m first A) ∧
       H' b = some (.tup (wV w)) ∧ Asking (chW cws) m first A ∧ (bN m first A)[t]? = some w ∧ (∀ (j:Nat) v,j < t → (bN m first A)[j]? = some v → ∀ f ∈ chW cws v,f ∈ A.map (·.1)) ∧ ∀ f ∈ (chW cws w).take i,f ∈ A.map (·.1))
     ⟨A,bs,rs,_,rfl,s2,ea2,wb2,er2,wr2,hwt,hask,ew,hcl,fun f hf => (nomatch hf)⟩ (fun i σ H' _ ⟨_,_,_,_,_,e,_⟩ => bI (e _ _ hdlH)) ?_ ?_
   · clear hask ew hcl hrm htl hrl rr2 wr2 er2 wb2 ea2 er
     rintro i x σ H3 hx ⟨A,bs,rs,v2,rfl,s3,ea,wb,er,wr,hb,hask,ew,hcl,hpre⟩
     rw [Al,Al] at hx
     cases ef:(chW cws w)[i]? with
     | none => rw [ef] at hx; cases hx
     | some f =>
       rw [ef] at hx
       cases hx
       have hfc:=As ef
       have htk:(chW cws w).take (i + 1) = (chW cws w).take i ++ [f]:=by rw [Bq,ef]; rfl
       have hbl:bs.length = A.length:=by rw [wb.1,Ac]
       have hAl:=xB hm hfw hL hask
       walk_at "go"
       refine bZ1 (neg:=true) (z:=one f) (.inl ea) ?_
       rw [if_pos rfl,gH hbl]
       refine mN (fun hd => ?_) (fun hd => ?_)
       · have hni:f ∉ A.map (·.1):=fun z => by rw [Au z] at hd; cases hd
         walk_at "go"
         refine gF (z:=one f) ea (bD (by rw [mJ hbl]; omega)) ?_
         rw [fW _ (aQB hbl hni),← xR (x:=(f,w)) hbl]
         have s4:Same H (upd H3 pa (.dK (dN (A ++ [(f,w)]) (bs ++ [b])))):=bG hpa s3
         have ea4:(upd H3 pa (.dK (dN (A ++ [(f,w)]) (bs ++ [b])))) pa = _:=aB
         have er4:(upd H3 pa (.dK (dN (A ++ [(f,w)]) (bs ++ [b])))) pr = _:=(aH (Ne.symm npr)).trans er
         have k4:=kt (u':=.dK (dN (A ++ [(f,w)]) (bs ++ [b]))) ea (fun ws z => nomatch z)
         have wb4:=wb.keep k4
         have wr4:=wr.keep k4
         have hb4:=k4 _ _ hb
         generalize upd H3 pa (.dK (dN (A ++ [(f,w)]) (bs ++ [b]))) = H4 at s4 ea4 er4 wb4 wr4 hb4 ⊢
         have ah4:=s4 _ _ hah
         clear k4 wb wr er ea s3 hb
         walk_at "go"
         refine pP ah4 fun o => ?_
         have fz:(upd H4 ah (.frz o (.dT (dY m)))) ah = _:=aB
         have hkl:(dY m).length = m.length:=by unfold dY; rw [Ac]
         refine jN (n:=m.length) (fun D i ys Hc => Same (upd H4 ah (.frz o (.dT (dY m)))) Hc ∧ ∃ qs,ys = qs.map V.ref ∧ WtsAt Hc qs (cP (m.take i) f)) (bD (by omega)) (fun D hD => ⟨aF hD _,[],rfl,rfl,fun j r w hr => (nomatch hr)⟩) (fun D i ys Hc _ r h => ⟨r.1 _ _ fz,by omega⟩) (fun D ys Hc _ r => ⟨r.1 _ _ fz,hkl⟩) ?_ ?_
         · rintro D i2 ys Hc x H' A' B' hD hi2 ⟨sm,qs,rfl,wq⟩ hDc ⟨rfl,kv,b2,hkv,rfl,hb2⟩ hA' hB'
           have em:m[i2]? = some m[i2]:=Ab hi2
           unfold dY at hkv
           rw [Al,em] at hkv
           cases hkv
           have hbt:H' b2 = some (.tup (wV m[i2].1)):=hb2
           have hv:bH (dY m) (cA m[i2].1) = some (.str (one m[i2].2)):=by
             rw [fY,jE hm.nd (w:=m[i2].1) (f:=m[i2].2) (Bh hi2)]
             rfl
           have tk:m.take (i2 + 1) = m.take i2 ++ [m[i2]]:=by rw [Bq,em]; rfl
           rw [tk] at hA' hB'
           generalize m[i2] = x2 at hbt hv hA' hB'
           walk_at "go"
           refine ⟨Wk.set rfl (Wk.refl _),?_⟩
           walk_at "go"
           refine uZ (k:=cA x2.1) (.inr ⟨o,sm _ _ fz⟩) hbt hv ?_
           walk_at "go"
           rw [show decide (one x2.2 = one f) = decide (x2.2 = f) from kS _ _]
           refine mN (fun he => ?_) (fun he => ?_)
           · have he':=Br he
             walk_at "go"
             refine hA' _ _ hDc ⟨bG hD sm,qs ++ [b2],by rw [Ax]; rfl,?_⟩
             rw [show cP (m.take i2 ++ [x2]) f = cP (m.take i2) f ++ [x2.1] by unfold cP; rw [List.filter_append,List.map_append]; simp [he']]
             exact (wq.app (.one hbt)).keep (kt hDc (fun ws z => nomatch z))
           · have he':=Ed (Du.mpr he)
             walk_at "go"
             refine hB' _ hDc ⟨sm,qs,rfl,?_⟩
             rw [show cP (m.take i2 ++ [x2]) f = cP (m.take i2) f by unfold cP; rw [List.filter_append,List.map_append]; simp [he']]
             exact wq
         · rintro D ys Hc hD ⟨sm,qs,rfl,wq⟩ hDc _
           rw [Cj] at wq
           have hD4:H4 D = none:=by
             by_cases z:D = ah
             · rw [z,aB] at hD; cases hD
             · rw [aH z] at hD; exact hD
           have su:=iL ah4 (fun o v z => nomatch z) sm
           have eu:=dA (Hs:=H4) hDc (fun o v z => nomatch z)
           have wqu:WtsAt (unf H4 Hc) qs (cP m f):=wq.keep fun r w h => dA h (fun o v z => nomatch z)
           generalize unf H4 Hc = Hu at su eu wqu
           have eru:=su _ _ er4
           have hmr:=eK eru
           have hmd:=eK eu
           have nDr:pr ≠ D:=aZ er4 hD4
           have hq1:qs.length ≤ 56:=by rw [wqu.1,vQ]; unfold ctm; exact Bg Fv hml
           have hr1:rs.length ≤ 57:=by rw [wr4.1]; exact Bg (nP hask.nd) (by omega)
           have hlen:(rs.map V.ref).length + (qs.map V.ref).length ≤ sizeLine:=bA (by rw [Ac,Ac]; omega)
           walk_at "go"
           have kr:=kt (u':=.lst (rs.map V.ref ++ qs.map V.ref)) eru (fun ws z => nomatch z)
           have hRt:=(Af.mp ew).1
           refine ⟨A ++ [(f,w)],bs ++ [b],rs ++ qs,_,rfl,bG hpr0 (s4.trans su),?_,?_,?_,?_,?_,hask.snoc hm.nd hni hfc (As ew),?_,fun j v hj hv => ?_,fun g hg => ?_⟩
           · rw [aH npr]
             exact su _ _ ea4
           · rw [Ax]
             exact ((wb4.keep fun r w h => su _ _ h).app (.one (su _ _ hb4))).keep kr
           · rw [aB,Ax]
           · rw [iA]
             exact ((wr4.keep fun r w h => su _ _ h).app wqu).keep kr
           · exact kr _ _ (su _ _ hb4)
           · rw [iA,Ba hRt]
             exact ew
           · rw [iA,Ba (by omega)] at hv
             intro g hg
             rw [Ax]
             exact Da _ (hcl j v hj hv g hg)
           · rw [htk] at hg
             rw [Ax]
             rcases Ci.mp hg with z | z
             · exact Da _ (hpre g z)
             · rw [Aq.mp z]; exact Az _ (Aq.mpr rfl)
       · have hin:f ∈ A.map (·.1):=by
           rw [Bool.not_eq_true,Bool.not_eq_false'] at hd
           exact Br hd
         walk_at "go"
         refine ⟨A,bs,rs,_,rfl,s3,ea,wb,er,wr,hb,hask,ew,hcl,fun g hg => ?_⟩
         rw [htk] at hg
         rcases Ci.mp hg with z | z
         · exact hpre g z
         · rw [Aq.mp z]; exact hin
   · clear hask ew hcl hrm htl hrl rr2 wr2 er2 wb2 ea2 er
     rintro σ H3 ⟨A,bs,rs,v2,rfl,s3,ea,wb,er,wr,hb,hask,ew,hcl,hpre⟩
     rw [hcm,Cj] at hpre
     walk_at "go"
     refine ⟨A,bs,rs,_,_,rfl,s3,ea,wb,er,wr,hask,(Af.mp ew).1,fun j v hj hv => ?_⟩
     by_cases hjt:j < t
     · exact hcl j v hjt hv
     · have:j = t:=by omega
       subst this
       rw [ew] at hv
       cases hv
       exact hpre
 · have hd':=Ed (Du.mpr hd)
   walk_at "go"
   refine q pa A bs H2 hpa s2 ea2 wb2 (hask.done fun w hw f hf => ?_)
   obtain ⟨j,hj,ej⟩:=Co.mp hw
   exact hcl j w (by omega) (by rw [Ab hj,ej]) f hf
theorem tG {m:List (Wt × Nat)} {w:Wt} {f:Nat}:bY (dY m) (cA w) (.str (one f)) = dY (aQL m w f):=by
 have e:((dY m).any fun kv => decide (kv.1 = cA w)) = (bX m w).isSome:=by
   rw [cI,fY]
   cases bX m w <;> rfl
 unfold bY aQL
 rw [e]
 by_cases h:(bX m w).isSome = true
 · rw [if_pos h,if_pos h]
   unfold dY
   rw [Cp,Cp]
   refine Cg fun x _ => ?_
   show (if cA x.1 = cA w then (cA x.1,V.str (one f)) else (cA x.1,V.str (one x.2))) = (fun x:Wt × Nat => (cA x.1,V.str (one x.2))) (if x.1 = w then (x.1,f) else x)
   by_cases ex:x.1 = w
   · rw [if_pos ex,if_pos (by rw [ex])]
   · rw [if_neg ex,if_neg (fun z => ex (jK z))]
 · rw [if_neg h,if_neg h]
   unfold dY
   rw [Ax]
   rfl
def gS:Sp:=fun vs H Q _ => ∃ (aa ah:Addr) (cws:List (List Nat)) (m:List (Wt × Nat)) (first:Wt) (A:List (Nat × Wt)) (bs:List Addr) (f0:Nat),vs = [.str (one f0),.ref aa,.ref ah] ∧ H aa = some (.dK (dN A bs)) ∧ WtsAt H bs (A.map (·.2)) ∧ Asking (chW cws) m first A ∧ H ah = some (.dT (dY m)) ∧ (m.map (·.1)).Nodup ∧ first ∉ m.map (·.1) ∧ (∀ v f,(v,f) ∈ m → f ∈ chW cws v) ∧ f0 ∈ A.map (·.1) ∧ m.length ≤ 56 ∧
 ∀ (m':List (Wt × Nat)) (H':Hp),(∀ b u,b ≠ ah → H b = some u → H' b = some u) → H' ah = some (.dT (dY m')) → m'.map (·.1) = m.map (·.1) ++ [first] → (∀ v f,(v,f) ∈ m' → f ∈ chW cws v) → (∀ f,ctm m' f = ctm m f + (if f = f0 then 1 else 0)) → Q .non H'
theorem sc_hang_along:FnScope ["flag", "asked", "hung", "want", "given"] ["flag", "asked", "hung"] (aG cF):=⟨rfl,rfl,rfl,by decide +kernel,rfl,by decide +kernel,by decide +kernel⟩
theorem nE {Zy Zz:Addr} {f:Addr} {fd:FuncData} (F:Fun K "hang_along" "hang_along" cF f fd) (G:Gs K mg Zy Zz)  : FnOk P w K mg base CX0 1 f fd ["flag", "asked", "hung"] gS:=by
 refine F.ok sc_hang_along (fun vs H Q E h => ?_) (fun cdv A outer s H vs Q E hr h => ?_)
 · obtain ⟨aa,ah,cws,m,first,A,bs,f0,rfl,_⟩:=h; rfl
 obtain ⟨aa,ah,cws,m,first,A,bs,f0,rfl,haa,hwb,hask,hah,nd,hnf,hmc,hf0,hml,q⟩:=h
 refine ⟨_,(@aI _ _ _ (rY Bp (bK bJY (mv 0) bJL (bW _)) (@aD _ _ _ _ _ (@aP _ _ 3 _ _ _ _ sc_hang_along.nd (by rfl) (by exact (Or.inl rfl)) (eF (Room.u1 hr) (mv 1) (mv 0) (fun _ _ => rfl)) (by rfl) (by first | exact Or.inl rfl | exact Or.inr rfl)) (@aD _ _ _ _ _ (@aP _ _ 4 _ _ _ _ sc_hang_along.nd (by rfl) (by exact (Or.inl rfl)) (dI Bt Cy (aXK (Room.u1 hr)) (mv 2) (aA (mv 3) aE)) (by rfl) (by first | exact Or.inl rfl | exact Or.inr rfl)) (@aD _ _ _ _ _ (eB (Room.u1 hr) (mv 2) (mv 3) (mv 0) rfl) (@aI _ _ _ (@aP _ _ 0 _ _ _ _ sc_hang_along.nd (by rfl) (by exact (Or.inl rfl)) (mv 4) (by rfl) (by first | exact Or.inl rfl | exact Or.inr rfl)))))))),?_⟩
 have hbl:bs.length = A.length:=by rw [hwb.1,Ac]
 have nah:aa ≠ ah:=fun z => by rw [z,hah] at haa; cases haa
 obtain ⟨x0,hx0,e0⟩:=Bc.mp hf0
 obtain ⟨j0,hj0,ej0⟩:=Co.mp hx0
 have ej:A[j0]? = some (f0,x0.2):=by rw [Ab hj0,ej0,← e0]
 walk_at "go"
 refine ⟨fun n σ H' => (∃ (m2:List (Wt × Nat)) (c j:Nat) (w:Wt) (v1 v2:Option V),σ = [some (.str (one c)),some (.ref aa),some (.ref ah),v1,v2] ∧ (∀ b u,b ≠ ah → H b = some u → H' b = some u) ∧ H' ah = some (.dT (dY m2)) ∧ Along (chW cws) m A f0 m2 c j w ∧ n = j + 1) ∨
     (∃ (m':List (Wt × Nat)) (v1 v2:Option V),σ = [some .non,some (.ref aa),some (.ref ah),v1,v2] ∧ (∀ b u,b ≠ ah → H b = some u → H' b = some u) ∧ H' ah = some (.dT (dY m')) ∧ m'.map (·.1) = m.map (·.1) ++ [first] ∧ (∀ v f,(v,f) ∈ m' → f ∈ chW cws v) ∧ (∀ f,ctm m' f = ctm m f + (if f = f0 then 1 else 0)) ∧ n = 0),
   ⟨_,.inl ⟨m,f0,j0,x0.2,none,none,rfl,fun b u _ h => h,hah,⟨rfl,hmc,fun f => rfl,ej,fun v g i u hg _ _ => hg⟩,rfl⟩⟩,?_⟩
 rintro n σ H2 (⟨m2,c,j,w,v1,v2,rfl,fr,eh,al,rfl⟩ | ⟨m',v1,v2,rfl,fr,eh,hk,hc,hct,rfl⟩)
 · walk_at "go"
   rw [show (!decide (V.str (one c) = V.non)) = true from rfl]
   walk_at "go"
   have hjl:=(Af.mp al.at_).1
   have ebj:bs[j]? = some (bs[j]'(by omega)):=Ab (by omega)
   have hbt:=hwb.2 j _ w ebj (by rw [Al,al.at_]; rfl)
   have hav:=aQS hask.nd hbl al.at_ ebj
   generalize (bs[j]'(by omega)) = b at hbt hav
   have nb:b ≠ ah:=fun z => by rw [z,hah] at hbt; cases hbt
   have haa2:=fr _ _ nah haa
   have hb2:=fr _ _ nb hbt
   have hkl:(dY m2).length < sizeLine:=by
     have:m2.length = m.length:=by rw [← Ac (f:=(·.1)) (as:=m2),al.keys,Ac]
     unfold dY
     rw [Ac]
     exact bD (by omega)
   have hdd:isD H2 ah = true:=by unfold isD; rw [eh]
   refine ⟨_,fun σ' H' h => h,?_⟩
   walk_at "go"
   refine lH (z:=one c) (.inl haa2) hav ?_
   walk_at "go"
   refine wL (k:=cA w) (.inl eh) hb2 ?_
   rw [fY]
   have fr2:∀ o,∀ b u,b ≠ ah → H b = some u → (upd H2 ah o) b = some u:=fun o b u hb hu => by rw [aH hb]; exact fr b u hb hu
   rcases (hask.ok j c w al.at_).2 with rfl | ⟨g,i,v,hij,hi,hg⟩
   · obtain ⟨l1,l2,l3,l4⟩:=al.last hask hnf
     rw [l1]
     walk_at "go"
     refine pL (k:=cA w) eh hb2 hkl ?_
     rw [tG,show aQL m2 w c = m2 ++ [(w,c)] by unfold aQL; rw [l1]; rfl]
     walk_at "go"
     exact ⟨0,by omega,.inr ⟨m2 ++ [(w,c)],_,_,rfl,fr2 _,aB,l2,l3,l4,rfl⟩⟩
   · obtain ⟨l1,l2⟩:=al.step hask nd hg hi hij
     rw [l1]
     walk_at "go"
     refine pL (k:=cA w) eh hb2 hkl ?_
     rw [tG,show aQL m2 w c = m2.map fun x => if x.1 = w then (x.1,c) else x by unfold aQL; rw [l1]; rfl]
     walk_at "go"
     exact ⟨i + 1,by omega,.inl ⟨_,g,i,v,_,_,rfl,fr2 _,aB,l2,rfl⟩⟩
 · walk_at "go"
   exact q m' H2 fr eh hk hc hct
def fG (aC:Addr):Sp:=fun vs H Q _ => ∃ (ea p q:Addr) (xs ys:List V),vs = [.ref ea,.ref p,.ref q] ∧ H ea = some (dM ea aC none) ∧ rdL H p = some xs ∧ rdL H q = some ys ∧
 ∀ (dx l1 l2:Addr) (H':Hp),(∀ b u,b ≠ ea → H b = some u → H' b = some u) → H dx = none → dx ≠ ea → H' ea = some (dM ea aC (some dx)) → H' dx = some (xdO dx [("flags",.ref l2),("wants",.ref l1)]) → H' l1 = some (.lst xs) → H' l2 = some (.lst ys) → H l1 = none → H l2 = none → Q .non H'
theorem qE:FnScope ["self", "wants", "flags"] ["self", "wants", "flags"] (aG cU):=⟨rfl,rfl,rfl,by decide +kernel,rfl,by decide +kernel,by decide +kernel⟩
theorem pI {Zy Zz:Addr} {f:Addr} {fd:FuncData} (F:Fun K "__init__" "Lack.__init__" cU f fd) (G:Gs K mg Zy Zz)  : FnOk P w K mg base CX0 1 f fd ["self", "wants", "flags"] (fG Zy):=by
 refine F.ok qE (fun vs H Q E h => ?_) (fun cdv A outer s H vs Q E hr h => ?_)
 · obtain ⟨ea,p,q,xs,ys,rfl,_⟩:=h; rfl
 obtain ⟨ea,p,q,xs,ys,rfl,he,hp,hq,qq⟩:=h
 refine ⟨_,(@aD _ _ _ _ _ (dR (aX3 rfl G.c_TowerError G.t1_TowerError G.t2_TowerError G.t3_TowerError (aA (mv 0) (aA (aT iB rfl G.b_list dD (aA (mv 1) aE)) (aA (aT iB rfl G.b_list dD (aA (mv 2) aE)) aE))))) (@aD _ _ _ _ _ (vW (mv 0) (aT iB rfl G.b_list dD (aA (mv 1) aE)) rfl) (@aI _ _ _ (vW (mv 0) (aT iB rfl G.b_list dD (aA (mv 2) aE)) rfl)))),?_⟩
 walk_at "go"
 intro l1 hl1
 have s1:=aF hl1 (.lst xs)
 generalize upd H l1 (.lst xs) = H1 at s1 ⊢
 have hq1:=aK s1 hq
 walk_at "go"
 intro l2 hl2
 have s2:=s1.trans (aF hl2 (.lst ys))
 generalize upd H1 l2 (.lst ys) = H2 at s2 ⊢
 have he2:=s2 _ _ he
 walk_at "go"
 refine ⟨ea,[.ref l1,.ref l2],Zy,Zz,none,rfl,by show 2 ≤ sizeLine; decide,he2,(fun _ z => nomatch z),G.xc_Lack,?_⟩
 have hp2:=aK s2 hp
 walk_at "go"
 intro l3 hl3
 have s3:=s2.trans (aF hl3 (.lst xs))
 have e3:(upd H2 l3 (.lst xs)) l3 = _:=aB
 generalize upd H2 l3 (.lst xs) = H3 at s3 e3 ⊢
 have he3:=s3 _ _ he
 walk_at "go"
 refine ⟨ea,Zy,Zz,rfl,G.xc_Lack,G.xn_Lack_wants,.inl ⟨he3,fun dx hdx => ?_⟩⟩
 have nde:dx ≠ ea:=fun z => by rw [z,he3] at hdx; cases hdx
 have fr4:∀ b u,b ≠ ea → H b = some u → (upd (upd H3 ea (dM ea Zy (some dx))) dx (xdO dx [("wants",.ref l3)])) b = some u:=fun b u hb hu => by
   have e:=s3 _ _ hu
   rw [aH (fun z => by rw [z,hdx] at e; cases e),aH hb]
   exact e
 have ee4:(upd (upd H3 ea (dM ea Zy (some dx))) dx (xdO dx [("wants",.ref l3)])) ea = some (dM ea Zy (some dx)):=by rw [aH nde.symm,aB]
 have ed4:(upd (upd H3 ea (dM ea Zy (some dx))) dx (xdO dx [("wants",.ref l3)])) dx = _:=aB
 have n3e:l3 ≠ ea:=fun z => by rw [z,he3] at e3; cases e3
 have n3d:l3 ≠ dx:=fun z => by rw [z,hdx] at e3; cases e3
 have el4:(upd (upd H3 ea (dM ea Zy (some dx))) dx (xdO dx [("wants",.ref l3)])) l3 = some (.lst xs):=by rw [aH n3d,aH n3e]; exact e3
 have hqe:q ≠ ea:=fun z => by rw [z] at hq; unfold rdL at hq; rw [he] at hq; cases hq
 have hq4:rdL (upd (upd H3 ea (dM ea Zy (some dx))) dx (xdO dx [("wants",.ref l3)])) q = some ys:=by
   have hq3:=aK s3 hq
   rw [uR (fun z => by rw [z] at hq3; unfold rdL at hq3; rw [hdx] at hq3; cases hq3),uR hqe]
   exact hq3
 generalize upd (upd H3 ea (dM ea Zy (some dx))) dx (xdO dx [("wants",.ref l3)]) = H4 at fr4 ee4 ed4 el4 hq4 ⊢
 walk_at "go"
 intro l4 hl4
 have s5:=aF hl4 (.lst ys)
 have e5:(upd H4 l4 (.lst ys)) l4 = _:=aB
 have ee5:=s5 _ _ ee4
 have ed5:=s5 _ _ ed4
 have el5:=s5 _ _ el4
 have n4d:l4 ≠ dx:=fun z => by rw [z,ed4] at hl4; cases hl4
 have n4e:l4 ≠ ea:=fun z => by rw [z,ee4] at hl4; cases hl4
 have h40:H l4 = none:=by
   cases e:H l4 with
   | none => rfl
   | some u => rw [fr4 _ _ n4e e] at hl4; cases hl4
 generalize upd H4 l4 (.lst ys) = H5 at s5 e5 ee5 ed5 el5 ⊢
 walk_at "go"
 refine ⟨ea,Zy,Zz,rfl,G.xc_Lack,G.xn_Lack_flags,.inr ⟨dx,_,ee5,ed5,(by show 1 < 100; decide),?_⟩⟩
 refine qq dx l3 l4 _ (fun b u hb hu => ?_) (none_of s3 hdx) nde (by rw [aH nde.symm]; exact ee5) aB (by rw [aH n3d]; exact el5) (by rw [aH n4d]; exact e5) (none_of s2 hl3) h40
 have e:=s5 _ _ (fr4 b u hb hu)
 rw [aH (fun z => by have q9:=s3 _ _ hu; rw [z,hdx] at q9; cases q9)]
 exact e
structure LackOk (cws:List (List Nat)) (n:Nat → Int) (W:List Wt) (F:List Nat):Prop where
 sub:W.Sublist (wl cws)
 flags:∃ p:Nat → Bool,F = flagsT.cps.toList.filter p
 all:∀ w ∈ W,∀ f ∈ chW cws w,f ∈ F
 few:(F.map n).sum < (W.length:Int)
def ctn (fs:List Nat) (c:Nat):Nat:=fs.countP fun x => decide (x = c)
theorem eX (g:Nat → Nat):∀ L:List Nat,(L.map fun c => ((g c:Nat):Int)).sum = (((L.map g).sum:Nat):Int)
 | [] => rfl
 | c :: r => by
   rw [Ay,Df,Ay,Df,eX g r]
   omega
theorem bQA {cws:List (List Nat)} {n0:Nat → Int} {m:List (Wt × Nat)} {first:Wt} {A:List (Nat × Wt)} {fl:Nat → Option Int} {l r:List Wt} (hw:wl cws = l ++ first :: r) (hk:m.map (·.1) = l) (hL:∀ c ∈ cws,c.length ≤ 7 ∧ ∀ d ∈ c,cV d) (hmo:HungOk cws m) (hfw:first ∈ wl cws)
   (hA:Asked (chW cws) m first A) (hct:∀ c,aL fl c = n0 c - (ctm m c:Int) ∧ 0 ≤ aL fl c) (h0:∀ c ∈ A.map (·.1),¬ 0 < aL fl c):LackOk cws n0 (fZ m first A (wl cws)) (flagsT.cps.toList.filter fun c => decide (c ∈ A.map (·.1))):=by
 have hAf:∀ c ∈ A.map (·.1),mY c:=fun c hc => by
   obtain ⟨x,hx,rfl⟩:=Bc.mp hc
   obtain ⟨j,hj,e⟩:=Co.mp hx
   have hj2:A[j]? = some (x.1,x.2):=by rw [Ab hj,e]
   exact aZD hL (aZ6 hmo hfw hA.toAsking hj2) (hA.ok j _ _ hj2).1
 have hF:∀ c,c ∈ flagsT.cps.toList.filter (fun c => decide (c ∈ A.map (·.1))) ↔ c ∈ A.map (·.1):=fun c => by
   rw [Do,Bk]
   exact ⟨fun h => h.2,fun h => ⟨flags_mem.mpr (hAf c h),h⟩⟩
 have ndF:(flagsT.cps.toList.filter fun c => decide (c ∈ A.map (·.1))).Nodup:=List.Nodup.sublist List.filter_sublist (by decide)
 have nd:=iC cws cws.length
 replace nd:(wl cws).Nodup:=nd
 refine ⟨List.filter_sublist,⟨_,rfl⟩,fun w hwm f hf => ?_,?_⟩
 · refine (hF f).mpr ?_
   have h2:=(lackW_mem.mp hwm).2
   by_cases e:w = first
   · subst e
     exact hA.all1 f hf
   · cases eg:bX m w with
     | none => rw [mR e eg] at h2; cases h2
     | some g =>
       rw [lD e eg] at h2
       exact hA.all w g (sW eg) (Br h2) f hf
 · have e1:(fZ m first A (wl cws)).length = 1 + m.countP (fun x => decide (x.2 ∈ A.map (·.1))):=by
     rw [hw] at nd ⊢
     exact aZ3 hk nd
   have e2:m.countP (fun x => decide (x.2 ∈ A.map (·.1))) = m.countP (fun x => decide (x.2 ∈ flagsT.cps.toList.filter fun c => decide (c ∈ A.map (·.1)))):=by
     congr 1
     funext x
     exact Dg.mpr (hF x.2).symm
   have e3:=bJN m ndF
   have e4:(flagsT.cps.toList.filter fun c => decide (c ∈ A.map (·.1))).map n0 = (flagsT.cps.toList.filter fun c => decide (c ∈ A.map (·.1))).map fun c => ((ctm m c:Nat):Int):=Cg fun c hc => by
     have h1:=hct c
     have h2:=h0 c ((hF c).mp hc)
     omega
   rw [e4,eX,e1,e2,e3]
   omega
def gA (aC:Addr):Sp:=fun vs H Q E => ∃ (a b:Addr) (kvs:List (Key × V)) (f:Nat → Option Int) (cws:List (List Nat)),vs = [.ref a,.ref b] ∧ Rd H a (.dK kvs) ∧ Lk kvs f ∧ rdL H b = some ((cws.map aY).map V.str) ∧ cws.length ≤ 8 ∧ (∀ c ∈ cws,c.length ≤ 7 ∧ ∀ d ∈ c,cV d) ∧
 (∀ (r:Addr) (ps:List Addr) (fs:List Nat) (H':Hp),H r = none → Same H H' → H' r = some (.lst (ps.map V.ref)) → (∀ p ∈ ps,p ≠ r) → Lsts H H' ps ((List.range cws.length).map (fS cws fs)) → fs.length = (wl cws).length → (∀ (j:Nat) w g,(wl cws)[j]? = some w → fs[j]? = some g → g ∈ chW cws w) → (∀ c,(ctn fs c:Int) ≤ aL (cC (aL f)) c) → Q (.ref r) H') ∧
 (∀ (dx l1 l2:Addr) (rs:List Addr) (W:List Wt) (F:List Nat) (H':Hp),Same H H' → H' dx = some (xdO dx [("flags",.ref l2),("wants",.ref l1)]) → H' l1 = some (.lst (rs.map V.ref)) → WtsAt H' rs W → H' l2 = some (.lst ((F.map one).map V.str)) → LackOk cws (aL (cC (aL f))) W F → H l1 = none → H l2 = none → E (.ref aC) (some dx) H')
theorem sc_hang_all:FnScope ["locker", "words", "choices", "left", "hung", "first", "asked", "free", "wants"] ["locker", "words"] (aG bP):=⟨rfl,rfl,rfl,by decide +kernel,rfl,by decide +kernel,by decide +kernel⟩
theorem rB {Zy Zz:Addr} {f:Addr} {fd:FuncData} (F:Fun K "hang_all" "hang_all" bP f fd) (G:Gs K mg Zy Zz) (c_choices_of:Cal P w K mg base 2 "choices_of" ["words"] gU) (c_plain_locker:Cal P w K mg base 1 "plain_locker" ["locker"] fL) (c_hoists_of:Cal P w K mg base 1 "hoists_of" ["words", "flags"] iS) (c_asked_from:Cal P w K mg base 1 "asked_from" ["first", "choices", "hung"] gN) (c_hang_along:Cal P w K mg base 1 "hang_along" ["flag", "asked", "hung"] gS) (c_Lack_init:bQ0 P w K mg base 1 Zy ["self", "wants", "flags"] (fG Zy)):FnOk P w K mg base (CXr P w) 3 f fd ["locker", "words"] (gA Zy):=by
 refine F.okX sc_hang_all (fun vs H Q E h => ?_) (fun cdv A outer s H vs Q E hr h => ?_)
 · obtain ⟨a,b,kvs,f,cws,rfl,_⟩:=h; rfl
 obtain ⟨a,b,kvs,f,cws,rfl,ha,lk,hb,h8,hL,q,qe⟩:=h
 refine ⟨_,(@aD _ _ _ _ _ (@aP _ _ 2 _ _ _ _ sc_hang_all.nd (by rfl) (by exact (Or.inl rfl)) (cH c_choices_of hr (by decide) rfl (aA (mv 1) aE)) (by rfl) (by first | exact Or.inl rfl | exact Or.inr rfl)) (@aD _ _ _ _ _ (@aP _ _ 3 _ _ _ _ sc_hang_all.nd (by rfl) (by exact (Or.inr rfl)) (cH c_plain_locker hr (by decide) rfl (aA (mv 0) aE)) (by rfl) (by first | exact Or.inl rfl | exact Or.inr rfl)) (@aD _ _ _ _ _ (@aP _ _ 4 _ _ _ _ sc_hang_all.nd (by rfl) (by exact (Or.inr rfl)) sJ (by rfl) (by first | exact Or.inl rfl | exact Or.inr rfl)) (@aD _ _ _ _ _ (pX (cQ PassesOwn.leaving rfl (iM (mv 2)) (aR (i:=5) sc_hang_all.nd rfl (Or.inr rfl)) (@aD _ _ _ _ _ (@aP _ _ 6 _ _ _ _ sc_hang_all.nd (by rfl) (by exact (Or.inr rfl)) (cH c_asked_from hr (by decide) rfl (aA (mv 5) (aA (mv 2) (aA (mv 4) aE)))) (by rfl) (by first | exact Or.inl rfl | exact Or.inr rfl)) (@aD _ _ _ _ _ (pX (pY (i:=7) sc_hang_all.nd rfl (Or.inl rfl) rfl (wG (mv 6)) (kF (N:=["flag", "left"]) ["locker", "words", "choices", "left", "hung", "first", "asked", "free", "wants"] (aG bP) [none,some 3] rfl rfl rfl (fun x h => cJ h) (by decide +kernel)) (by decide +kernel) rfl (by decide +kernel) (fun C s₀ H₀ ex => (aR (i:=0) (show List.Nodup (["flag", "left"]:List Str) by decide +kernel) rfl (Or.inl rfl))) (fun C s₀ H₀ ex => (mQ (bK bQF (dI Bt Cy (nQ (Room.u1 hr)) (mv 1) (aA (mv 0) (aA aJ aE))) aJ (bW _)))) (fun C s₀ H₀ ex => (mv 0)))) (@aD _ _ _ _ _ (dP (bK (cZP hr.units0) (mv 7) (fB aE) (bW _)) (@aD _ _ _ _ _ (pX (pY (i:=8) sc_hang_all.nd rfl (Or.inl rfl) rfl (iM (mv 2)) (kF (N:=["want", "first", "asked", "hung"]) ["locker", "words", "choices", "left", "hung", "first", "asked", "free", "wants"] (aG bP) [none,some 5,some 6,some 4] rfl rfl rfl (fun x h => cJ h) (by decide +kernel)) (by decide +kernel) rfl (by decide +kernel) (fun C s₀ H₀ ex => (aR (i:=0) (show List.Nodup (["want", "first", "asked", "hung"]:List Str) by decide +kernel) rfl (Or.inl rfl))) (fun C s₀ H₀ ex => (mQ (PW.pt (kC (bK (cZC hr.units0) (mv 0) (mv 1) (bW _)) (jO (bK (bJP (Room.u1 hr)) (dI Bt Cy (aXK (Room.u1 hr)) (mv 3) (aA (mv 0) aE)) (mv 2) (by rfl))))))) (fun C s₀ H₀ ex => (mv 0)))) (@aI _ _ _ (xZ bQ1 rfl rfl rfl G.c_Lack G.xm_Lack c_Lack_init hr (by decide) (aA (mv 8) (aA (kW rfl (uG (qZ rfl G.s_FLAGS)) (kF (N:=["flag", "asked"]) ["locker", "words", "choices", "left", "hung", "first", "asked", "free", "wants"] (aG bP) [none,some 6] rfl rfl rfl (fun x h => cJ h) (by decide +kernel)) (by decide +kernel) rfl (by decide +kernel) (fun C s₀ H₀ ex => (aR (i:=0) (show List.Nodup (["flag", "asked"]:List Str) by decide +kernel) rfl (Or.inl rfl))) (fun C s₀ H₀ ex => (mQ (bK (cJ5 (Room.u1 hr)) (mv 0) (mv 1) (by rfl)))) (fun C s₀ H₀ ex => (mv 0))) aE))))) bO) (@aD _ _ _ _ _ (eB (Room.u1 hr) (mv 3) (cL eU (mv 7) aJ (fun _ _ => rfl)) (aN gY (eF (Room.u1 hr) (mv 3) (cL eU (mv 7) aJ (fun _ _ => rfl)) (fun _ _ => rfl)) aJ) rfl) (@aI _ _ _ (dR (cH c_hang_along hr (by decide) rfl (aA (cL eU (mv 7) aJ (fun _ _ => rfl)) (aA (mv 6) (aA (mv 4) aE)))))))))))) (@aI _ _ _ (bE (cH c_hoists_of hr (by decide) rfl (aA (mv 1) (aA (aJP (kW rfl (iM (mv 2)) (kF (N:=["want", "hung"]) ["locker", "words", "choices", "left", "hung", "first", "asked", "free", "wants"] (aG bP) [none,some 4] rfl rfl rfl (fun x h => cJ h) (by decide +kernel)) (by decide +kernel) rfl (by decide +kernel) (fun C s₀ H₀ ex => (aR (i:=0) (show List.Nodup (["want", "hung"]:List Str) by decide +kernel) rfl (Or.inl rfl))) (fun C s₀ H₀ ex => pE) (fun C s₀ H₀ ex => (eF (Room.u1 hr) (mv 1) (mv 0) (fun _ _ => rfl))))) aE))))))))),?_⟩
 have h7:∀ c ∈ cws,c.length ≤ 7:=fun c hc => (hL c hc).1
 have hlw:(wl cws).length ≤ 56:=Bg (gE h7 _) (by omega)
 walk_at "go"
 refine ⟨b,cws,rfl,hb,h8,h7,fun ac H1 hac s1 hch => ?_⟩
 walk_at "go"
 refine ⟨a,kvs,f,rfl,ha.elim (fun e => .inl (s1 _ _ e)) (fun ⟨o,e⟩ => .inr ⟨o,s1 _ _ e⟩),lk,fun al H2 hal s2 el => ?_⟩
 walk_at "go"
 intro ah hah
 have s3:=s2.trans (aF hah (.dT []))
 have eh3:(upd H2 ah (.dT [])) ah = _:=aB
 have el3:=aF hah (.dT []) _ _ el
 generalize upd H2 ah (.dT []) = H3 at s3 eh3 el3 ⊢
 obtain ⟨ds,dl,ed,hds⟩:=hch
 rw [Cj] at ed
 have ed3:=s3 _ _ ed
 walk_at "go"
 refine pP ed3 fun o => ?_
 have fz:(upd H3 ac (.frz o (.dT (cN (wl cws) ds)))) ac = _:=aB
 have kl:(cN (wl cws) ds).length = (wl cws).length:=oN dl
 have nac:ah ≠ ac:=fun z => by have e:=s2 _ _ ed; rw [← z,hah] at e; cases e
 have nla:al ≠ ac:=fun z => by rw [z,ed3] at el3; cases el3
 have nlh:al ≠ ah:=fun z => by rw [z,eh3] at el3; cases el3
 have s13:Same H1 H3:=s3
 have hah1:H1 ah = none:=none_of s2 hah
 generalize hn0:aL (cC (aL f)) = n0
 refine aQV (fun i σ H' => ∃ (m:List (Wt × Nat)) (kl2:List (Key × V)) (fl:Nat → Option Int) (v5 v6 v7 v8:Option V),σ = [some (.ref a),some (.ref b),some (.ref ac),some (.ref al),some (.ref ah),v5,v6,v7,v8] ∧ (∀ p u,p ≠ ac → p ≠ al → p ≠ ah → H1 p = some u → H' p = some u) ∧ H' ac = some (.frz o (.dT (cN (wl cws) ds))) ∧ H' ah = some (.dT (dY m)) ∧ H' al = some (.dK kl2) ∧ Lk kl2 fl ∧ kl2.length ≤ 27 ∧ m.map (·.1) = (wl cws).take i ∧ (∀ v g,(v,g) ∈ m → g ∈ chW cws v) ∧ (∀ c,aL fl c = n0 c - (ctm m c:Int) ∧ 0 ≤ aL fl c))
   ⟨[],_,cC (aL f),_,_,_,_,rfl,fun p u h1 h2 h3 hu => by rw [aH h1]; exact s13 _ _ hu,fz,by rw [aH nac]; exact eh3,by rw [aH nla]; exact el3,yE _,by unfold kvL; rw [Ac]; exact lT _ _,rfl,(fun v g hv => nomatch hv),fun c => ?_⟩ (fun i σ H' _ ⟨_,_,_,_,_,_,_,_,_,e,_⟩ => e) ?_ ?_
 · rw [hn0]
   refine ⟨by show n0 c = n0 c - ((0:Nat):Int); omega,?_⟩
   rw [← hn0]
   show 0 ≤ (cC (aL f) c).getD 0
   unfold cC
   split
   · rename_i h; exact Int.le_of_lt h.2
   · exact Hq 0
 · rintro i kv bf σ H4 hkv hbf ⟨m,kl2,fl,v5,v6,v7,v8,rfl,fr,ec,eh,el4,lkl,l27,hk,hmc,hct⟩
   have hi:i < (wl cws).length:=by rw [← kl]; exact (Af.mp hkv).1
   have ew:(wl cws)[i]? = some (wl cws)[i]:=Ab hi
   have ekv:kv = (cA (wl cws)[i],V.ref (ds[i]'(by omega))):=by
     unfold cN at hkv
     rw [Fw,ew,Ab (show i < ds.length by omega)] at hkv
     exact (Bo hkv).symm
   rw [ekv] at hbf
   have hnd:=iC cws cws.length
   have hfw:(wl cws)[i] ∈ wl cws:=Bh hi
   have htk:(wl cws).take (i + 1) = (wl cws).take i ++ [(wl cws)[i]]:=by rw [Bq,ew]; rfl
   have hfn:(wl cws)[i] ∉ m.map (·.1):=by
     rw [hk]
     intro z
     obtain ⟨j,hj,ej⟩:=Co.mp z
     rw [By] at hj
     rw [List.getElem_take] at ej
     have:=(Gf hnd).mp ej
     omega
   have hml:m.length ≤ 56:=by
     have e:m.length = (m.map (·.1)).length:=(Ac _).symm
     rw [e,hk,By]
     omega
   have hmo:HungOk cws m:=⟨by rw [hk]; exact hnd.sublist (List.take_sublist ..),fun x hx => Ez (by rw [← hk]; exact Bc.mpr ⟨x,hx,rfl⟩)⟩
   have hcr:ChRd H4 ac cws:=⟨ds,dl,.inr ⟨o,ec⟩,fun j w d hw hd => by
     have h1:=hds j w d (Af.mp hw).1 hw hd
     exact fr d _ (fun z => by rw [z,ed] at h1; cases h1) (fun z => by rw [z,hal] at h1; cases h1) (fun z => by rw [z,hah1] at h1; cases h1) h1⟩
   replace hbf:H4 bf = some (.tup (wV (wl cws)[i])):=hbf
   clear ekv hkv
   generalize (wl cws)[i] = first at hbf ew hfw htk hfn
   walk_at "go"
   refine ⟨bf,ac,ah,cws,m,first,rfl,hbf,hfw,hcr,eh,hmo,hml,h8,hL,fun pa A bs H5 hpa s5 ea wb hask => ?_⟩
   have el5:=s5 _ _ el4
   have hbl:bs.length = A.length:=by rw [wb.1,Ac]
   have hA27:=xB hmo hfw hL hask.toAsking
   have hdl5:=dW el5
   walk_at "go"
   refine aJK ea fun oa => ?_
   have fza:(upd H5 pa (.frz oa (.dK (dN A bs)))) pa = _:=aB
   have nlp:al ≠ pa:=fun z => by rw [z,hpa] at el4; cases el4
   have elf:(upd H5 pa (.frz oa (.dK (dN A bs)))) al = _:=(aH nlp).trans el5
   refine jN (n:=A.length) (fun D i ys Hc => Same (upd H5 pa (.frz oa (.dK (dN A bs)))) Hc ∧ ys = ((((A.take i).map (·.1)).filter fun c => decide (0 < aL fl c)).map one).map V.str) (bD (by omega)) (fun D hD => ⟨aF hD _,rfl⟩) (fun D i ys Hc _ r h => ⟨r.1 _ _ fza,by rw [mJ hbl]; exact h⟩) (fun D ys Hc _ r => ⟨r.1 _ _ fza,mJ hbl⟩) ?_ ?_
   · rintro D i2 ys Hc x H' A' B' hD hi2 ⟨sm,rfl⟩ hDc ⟨rfl,kv,hkv,rfl⟩ hA' hB'
     have eA:A[i2]? = some A[i2]:=Ab hi2
     unfold dN at hkv
     rw [Fw,eA,Ab (show i2 < bs.length by omega)] at hkv
     cases hkv
     have tk:A.take (i2 + 1) = A.take i2 ++ [A[i2]]:=by rw [Bq,eA]; rfl
     rw [tk,Ax,Fs] at hA' hB'
     generalize A[i2] = xa at hA' hB'
     have elc:=sm _ _ elf
     have hdc:=dW elc
     dsimp only [kV]
     walk_at "go"
     refine ⟨Wk.set rfl (Wk.refl _),?_⟩
     walk_at "go"
     refine nV (z:=one xa.1) (.inl elc) ?_
     rw [lkl.val xa.1,gJ]
     walk_at "go"
     refine mN (fun he => ?_) (fun he => ?_)
     · have he':=Br he
       walk_at "go"
       refine hA' _ _ hDc ⟨bG hD sm,?_⟩
       rw [show ([xa].map (·.1)).filter (fun c => decide (0 < aL fl c)) = [xa.1] by simp [he'],List.map_append,List.map_append]
       rfl
     · have he':=Ed (Du.mpr he)
       walk_at "go"
       refine hB' _ hDc ⟨sm,?_⟩
       rw [show ([xa].map (·.1)).filter (fun c => decide (0 < aL fl c)) = [] by simp; omega,List.append_nil]
   · rintro D ys Hc hD ⟨sm,rfl⟩ hDc _
     rw [Cj] at hDc
     have su:=iL ea (fun o v z => nomatch z) sm
     have eu:=dA (Hs:=H5) hDc (fun o v z => nomatch z)
     refine qK ?_
     unfold zV
     dsimp only
     generalize unf H5 Hc = H6 at su eu ⊢
     have s46:=s5.trans su
     have ea6:=su _ _ ea
     have wb6:WtsAt H6 bs (A.map (·.2)):=wb.keep fun r w h => su _ _ h
     have ec6:=s46 _ _ ec
     have eh6:=s46 _ _ eh
     have el6:=s46 _ _ el4
     have hbf6:=s46 _ _ hbf
     have fr6:∀ p u,p ≠ ac → p ≠ al → p ≠ ah → H1 p = some u → H6 p = some u:=fun p u h1 h2 h3 hu => s46 _ _ (fr p u h1 h2 h3 hu)
     have hD4:H4 D = none:=by
       have h5:H5 D = none:=by
         by_cases z:D = pa
         · rw [z,aB] at hD; cases hD
         · rw [aH z] at hD; exact hD
       exact none_of s5 h5
     clear sm hDc hD fza elf hdl5 el5
     walk_at "go"
     refine ⟨by decide,fun pe hpe => ?_⟩
     refine bJA (neg:=false) (aK (aF hpe _) (bI eu)) cK (fX _) rfl ?_
     have s67:=aF hpe (.lst [])
     generalize upd H6 pe (.lst []) = H7 at s67 ⊢
     have en:∀ xs:List V,gL xs [] = xs.isEmpty:=fun xs => by cases xs <;> rfl
     rw [if_neg (by decide),en]
     cases hfr:(A.map (·.1)).filter (fun c => decide (0 < aL fl c)) with
     | nil =>
       rw [hfr] at eu
       rw [show (List.map V.str (List.map one [])).isEmpty = true from rfl]
       have ec7:=s67 _ _ ec6
       have eh7:=s67 _ _ eh6
       have ea7:=s67 _ _ ea6
       have hbf7:=s67 _ _ hbf6
       have fr7:∀ p u,p ≠ ac → p ≠ al → p ≠ ah → H1 p = some u → H7 p = some u:=fun p u h1 h2 h3 hu => s67 _ _ (fr6 p u h1 h2 h3 hu)
       clear eu wb6 hpe s67 fr6 fr ec6 eh6 ea6 hbf6 el6 su hD4 s46 hpa s5 ea wb el4 nlp
       walk_at "go"
       refine aXT ec7 ?_
       refine jN (n:=(wl cws).length) (fun D i ys Hc => Same H7 Hc ∧ ∃ rs,ys = rs.map V.ref ∧ WtsAt Hc rs (fZ m first A ((wl cws).take i))) (bD (by omega)) (fun D hD => ⟨aF hD _,[],rfl,rfl,fun j r w hr => nomatch hr⟩) (fun D i ys Hc _ r h => ⟨r.1 _ _ ec7,by rw [kl]; exact h⟩) (fun D ys Hc _ r => ⟨r.1 _ _ ec7,kl⟩) ?_ ?_
       · rintro D i2 ys Hc x H' A' B' hD hi2 ⟨sm,rs,rfl,hwt⟩ hDc ⟨rfl,kv,bk,hkv,rfl,hbk⟩ hA' hB'
         have ew2:(wl cws)[i2]? = some (wl cws)[i2]:=Ab hi2
         have ekv:kv = (cA (wl cws)[i2],V.ref (ds[i2]'(by omega))):=by
           unfold cN at hkv
           rw [Fw,ew2,Ab (show i2 < ds.length by omega)] at hkv
           exact (Bo hkv).symm
         rw [ekv] at hbk
         replace hbk:H' bk = some (.tup (wV (wl cws)[i2])):=hbk
         have tk:(wl cws).take (i2 + 1) = (wl cws).take i2 ++ [(wl cws)[i2]]:=by rw [Bq,ew2]; rfl
         rw [tk] at hA' hB'
         clear ekv hkv ew2 tk
         generalize (wl cws)[i2] = wx at hbk hA' hB'
         have ehc:=sm _ _ eh7
         have eac:=sm _ _ ea7
         have hfc:=sm _ _ hbf7
         have yes:fJ m first A wx = true → A' (.ref bk) H':=fun hb => by
           refine hA' _ _ hDc ⟨bG hD sm,rs ++ [bk],by rw [Ax]; rfl,?_⟩
           rw [mE,hb,if_pos rfl]
           refine WtsAt.keep (hwt.app (.one hbk)) fun r w h => ?_
           rw [aH (fun z => by rw [z,hDc] at h; cases h)]
           exact h
         have no:fJ m first A wx = false → B' H':=fun hb => by
           refine hB' _ hDc ⟨sm,rs,rfl,?_⟩
           rw [mE,hb,if_neg (by decide),Bs]
           exact hwt
         clear hA' hB'
         walk_at "go"
         refine ⟨Wk.set rfl (Wk.refl _),?_⟩
         walk_at "go"
         refine cZK hbk hfc ?_
         have hd2:decide ((wx.1:Int) = (first.1:Int) ∧ (wx.2:Int) = (first.2:Int)) = decide (wx = first):=Dg.mpr ⟨fun h => Prod.ext (by omega) (by omega),fun h => by rw [h]; exact ⟨rfl,rfl⟩⟩
         rw [hd2]
         by_cases e:wx = first
         · rw [Au e]
           walk_at "go"
           exact yes (rS e)
         · rw [Bd e]
           have hdd:isD H' ah = true:=by unfold isD; rw [ehc]
           walk_at "go"
           refine wL (k:=cA wx) (.inl ehc) hbk ?_
           rw [fY]
           cases eg:bX m wx with
           | none =>
             refine cQ1 (.inl eac) ?_
             walk_at "go"
             exact no (mR e eg)
           | some g =>
             have hlb:=lD (A:=A) e eg
             refine aJZ (z:=one g) (.inl eac) ?_
             rw [gH hbl]
             refine mN (fun hg => ?_) (fun hg => ?_)
             · walk_at "go"
               exact yes (hlb.trans hg)
             · walk_at "go"
               exact no (hlb.trans (Du.mpr hg))
       · rintro D ys Hc hD ⟨sm,rs,rfl,hwt⟩ hDc _
         rw [Cj] at hwt
         have su:=zU sm
         have eu:=dA (Hs:=H7) hDc (fun o v z => nomatch z)
         have hwu:WtsAt (unf H7 Hc) rs (fZ m first A (wl cws)):=hwt.keep fun r w h => dA h fun o v z => nomatch z
         refine qK ?_
         unfold zV
         dsimp only
         generalize unf H7 Hc = H8 at su eu hwu ⊢
         have ea8:=su _ _ ea7
         walk_at "go"
         refine aJ4 (fun c => if decide (c ∈ A.map (·.1)) = true then some (.str (one c)) else none) (by decide) (fun i3 c Hc2 A' B' hc sm2 hA' => ?_) (fun D2 H9 hD2 s9 hr9 => ?_)
         · have r:=hA' _ (Same.refl _)
           walk_at "go"
           refine ⟨Wk.set rfl (Wk.refl _),?_⟩
           walk_at "go"
           refine bZ1 (z:=one c) (neg:=false) (.inl (sm2 _ _ ea8)) ?_
           rw [if_neg (by decide),gH hbl]
           refine mN (fun hg => ?_) (fun hg => ?_)
           · rw [if_pos hg] at r
             walk_at "go"
             exact r
           · rw [if_neg hg] at r
             exact r
         · have ef:(Str.ofString "abcdefghijklmnopqrstuvw1234").cps.toList.filterMap (fun c => if decide (c ∈ A.map (·.1)) = true then some (V.str (one c)) else none) = ((flagsT.cps.toList.filter fun c => decide (c ∈ A.map (·.1))).map one).map V.str:=by
             rw [show (Str.ofString "abcdefghijklmnopqrstuvw1234") = flagsT from rfl]
             generalize flagsT.cps.toList = L
             induction L with
             | nil => rfl
             | cons c r ih =>
               rw [Ej,Gh]
               by_cases hg:decide (c ∈ A.map (·.1)) = true
               · rw [if_pos hg,if_pos hg,Ay,Ay,← ih]
               · rw [if_neg hg,if_neg hg,← ih]
           rw [ef] at hr9
           have eD9:=s9 _ _ eu
           walk_at "go"
           refine ⟨by show 2 ≤ sizeLine; decide,fun ea hea => ⟨ea,D,D2,_,_,rfl,aB,aK (aF hea _) (bI eD9),aK (aF hea _) (bI hr9),fun dx l1 l2 H' frx hdx nde e1 e2 e3 e4 hl1 hl2 => ⟨rfl,some dx,e1,?_⟩⟩⟩
           have n1:l1 ≠ ea:=fun z => by rw [z,e1] at e3; cases e3
           have n2:l2 ≠ ea:=fun z => by rw [z,e1] at e4; cases e4
           have go9:∀ b u,H9 b = some u → (del H' ea) b = some u:=fun b u hu => by
             have nb:b ≠ ea:=fun z => by rw [z,hea] at hu; cases hu
             rw [eM nb]
             exact frx b u nb (by rw [aH nb]; exact hu)
           have hto:∀ b u,H b = some u → H9 b = some u:=fun b u hu => by
             refine s9 _ _ (su _ _ (fr7 b u (fun z => by rw [z,hac] at hu; cases hu) (fun z => ?_) (fun z => ?_) (s1 _ _ hu)))
             · have:=s1 _ _ hu
               rw [z,hal] at this
               cases this
             · have:=s1 _ _ hu
               rw [z,hah1] at this
               cases this
           refine qe dx l1 l2 rs _ _ (del H' ea) (fun b u hu => go9 _ _ (hto b u hu)) ((eM nde).trans e2) ((eM n1).trans e3) (hwu.keep fun r w h => go9 _ _ (s9 _ _ h)) ((eM n2).trans e4) ?_ (none_of hto (by rw [aH n1] at hl1; exact hl1)) (none_of hto (by rw [aH n2] at hl2; exact hl2))
           · rw [hn0]
             refine bQA (l:=(wl cws).take i) (r:=(wl cws).drop (i + 1)) (fl:=fl) ?_ hk hL hmo hfw hask hct (fun c hc => ?_)
             · have e:=List.take_append_drop (i + 1) (wl cws)
               rw [htk,Fy] at e
               exact e.symm
             · have:=List.filter_eq_nil_iff.mp hfr c hc
               rw [Bk] at this
               exact this
     | cons f0 fr0 =>
       rw [hfr] at eu
       rw [show (List.map V.str (List.map one (f0 :: fr0))).isEmpty = false from rfl]
       have hf0m:f0 ∈ (A.map (·.1)).filter (fun c => decide (0 < aL fl c)):=by rw [hfr]; exact An
       rw [Do,Bk] at hf0m
       obtain ⟨hf0A,hf0p⟩:=hf0m
       obtain ⟨n1,hn1⟩:∃ n1,fl f0 = some n1:=by
         cases e:fl f0 with
         | none => rw [show aL fl f0 = 0 by unfold aL; rw [e]; rfl] at hf0p; omega
         | some n => exact ⟨n,rfl⟩
       have hcn1:aL fl f0 = n1:=by unfold aL; rw [hn1]; rfl
       have el7:=s67 _ _ el6
       have ea7:=s67 _ _ ea6
       have eh7:=s67 _ _ eh6
       have ec7:=s67 _ _ ec6
       have eD7:=s67 _ _ eu
       have wb7:WtsAt H7 bs (A.map (·.2)):=wb6.keep fun r w h => s67 _ _ h
       have hdl7:=dW el7
       have at0:atI (List.map V.str (List.map one (f0 :: fr0))) 0 = some (V.str (one f0)):=dZ (show (List.map V.str (List.map one (f0 :: fr0)))[0]? = some (V.str (one f0)) from rfl)
       walk_at "go"
       refine jC (bI eD7) (v:=.str (one f0)) at0 ?_
       walk_at "go"
       refine lH (z:=one f0) (.inl el7) (by rw [lkl.val f0,hn1]; rfl) ?_
       walk_at "go"
       refine jC (bI eD7) (v:=.str (one f0)) at0 ?_
       walk_at "go"
       refine gF (z:=one f0) el7 (bD (by omega)) ?_
       have nDl:D ≠ al:=fun z => by rw [z] at hD4; rw [hD4] at el4; cases el4
       have npl:pa ≠ al:=fun z => by rw [z] at hpa; rw [hpa] at el4; cases el4
       have nhl:ah ≠ al:=Ne.symm nlh
       have ncl:ac ≠ al:=Ne.symm nla
       have el8:(upd H7 al (.dK (bY kl2 (Sum.inr (one f0)) (V.int (n1 - 1))))) al = _:=aB
       have ea8:(upd H7 al (.dK (bY kl2 (Sum.inr (one f0)) (V.int (n1 - 1))))) pa = _:=(aH npl).trans ea7
       have eh8:(upd H7 al (.dK (bY kl2 (Sum.inr (one f0)) (V.int (n1 - 1))))) ah = _:=(aH nhl).trans eh7
       have ec8:(upd H7 al (.dK (bY kl2 (Sum.inr (one f0)) (V.int (n1 - 1))))) ac = _:=(aH ncl).trans ec7
       have eD8:(upd H7 al (.dK (bY kl2 (Sum.inr (one f0)) (V.int (n1 - 1))))) D = _:=(aH nDl).trans eD7
       have wb8:WtsAt (upd H7 al (.dK (bY kl2 (Sum.inr (one f0)) (V.int (n1 - 1))))) bs (A.map (·.2)):=wb7.keep fun r w h => by
         rw [aH (fun z => by rw [z,el7] at h; cases h)]
         exact h
       have fr8:∀ p u,p ≠ ac → p ≠ al → p ≠ ah → H1 p = some u → (upd H7 al (.dK (bY kl2 (Sum.inr (one f0)) (V.int (n1 - 1))))) p = some u:=fun p u h1 h2 h3 hu => by
         rw [aH h2]
         exact s67 _ _ (fr6 p u h1 h2 h3 hu)
       generalize upd H7 al (.dK (bY kl2 (Sum.inr (one f0)) (V.int (n1 - 1)))) = H8 at el8 ea8 eh8 ec8 eD8 wb8 fr8 ⊢
       walk_at "go"
       refine jC (bI eD8) (v:=.str (one f0)) at0 ?_
       walk_at "go"
       refine ⟨pa,ah,cws,m,first,A,bs,f0,rfl,ea8,wb8,hask.toAsking,eh8,hmo.nd,hfn,hmc,hf0A,hml,fun m' H9 fr9 eh9 hk9 hc9 hct9 => ?_⟩
       walk_at "go"
       refine ⟨m',_,_,_,_,_,_,rfl,fun p u h1 h2 h3 hu => fr9 p u h3 (fr8 p u h1 h2 h3 hu),fr9 _ _ (Ne.symm nac) ec8,eh9,fr9 _ _ nlh el8,lkl.put f0 (n1 - 1),?_,?_,hc9,fun c => ?_⟩
       · have hv:bH kl2 (Sum.inr (one f0)) ≠ none:=by rw [lkl.val f0,hn1]; exact fun z => nomatch z
         have e:=Cr List.length (tE kl2 (Sum.inr (one f0)) (.int (n1 - 1)) hv)
         rw [Ac,Ac] at e
         omega
       · rw [hk9,hk,htk]
       · have h1:=hct c
         have h2:=hct9 c
         have h3:aL (fun d => if d = f0 then some (n1 - 1) else fl d) c = if c = f0 then n1 - 1 else aL fl c:=by
           show ((if c = f0 then some (n1 - 1) else fl c):Option Int).getD 0 = _
           by_cases z:c = f0
           · rw [if_pos z,if_pos z]; rfl
           · rw [if_neg z,if_neg z]; rfl
         rw [h3]
         by_cases z:c = f0
         · subst z
           rw [if_pos rfl] at h2 ⊢
           omega
         · rw [if_neg z] at h2 ⊢
           omega
 · rintro σ H4 ⟨m,kl2,fl,v5,v6,v7,v8,rfl,fr,ec,eh,el4,lkl,l27,hk,hmc,hct⟩
   rw [kl,Cj] at hk
   have ec5:=qO (Hs:=H3) ec (fun o v z => by rw [ed3] at z; cases z)
   have eh5:=dA (Hs:=H3) eh (fun o v z => nomatch z)
   have sh5:Same H (unf H3 H4):=fun b u hu => by
     have h1:=s1 _ _ hu
     have h4:=fr b u (fun z => by rw [z,hac] at hu; cases hu) (fun z => by rw [z,hal] at h1; cases h1) (fun z => by rw [z,hah1] at h1; cases h1) h1
     by_cases hf:∃ o v,u = .frz o v
     · obtain ⟨o',v',rfl⟩:=hf
       exact jI h4 (s13 _ _ h1)
     · exact dA h4 fun o v z => hf ⟨o,v,z⟩
   unfold zV
   dsimp only
   generalize unf H3 H4 = H5 at ec5 eh5 sh5 ⊢
   have hml:m.length = (wl cws).length:=by rw [← hk,Ac]
   have hnd:(m.map (·.1)).Nodup:=by rw [hk]; exact iC cws cws.length
   walk_at "go"
   refine pP ec5 fun o2 => ?_
   have fz2:(upd H5 ac (.frz o2 (.dT (cN (wl cws) ds)))) ac = _:=aB
   have eh6:(upd H5 ac (.frz o2 (.dT (cN (wl cws) ds)))) ah = _:=(aH nac).trans eh5
   refine jN (n:=(wl cws).length) (fun D i ys Hc => Same (upd H5 ac (.frz o2 (.dT (cN (wl cws) ds)))) Hc ∧ ys = (((m.take i).map (·.2)).map one).map V.str) (bD (by omega)) (fun D hD => ⟨aF hD _,rfl⟩) (fun D i ys Hc _ r h => ⟨r.1 _ _ fz2,by rw [kl]; exact h⟩) (fun D ys Hc _ r => ⟨r.1 _ _ fz2,kl⟩) ?_ ?_
   · rintro D i2 ys Hc x H' A' B' hD hi2 ⟨sm,rfl⟩ hDc ⟨rfl,kv,bk,hkv,rfl,hbk⟩ hA' hB'
     have ew2:(wl cws)[i2]? = some (wl cws)[i2]:=Ab hi2
     have ekv:kv = (cA (wl cws)[i2],V.ref (ds[i2]'(by omega))):=by
       unfold cN at hkv
       rw [Fw,ew2,Ab (show i2 < ds.length by omega)] at hkv
       exact (Bo hkv).symm
     rw [ekv] at hbk
     have em:m[i2]? = some m[i2]:=Ab (by omega)
     have e1:m[i2].1 = (wl cws)[i2]:=by
       have e0:(m.map (·.1))[i2]? = some (wl cws)[i2]:=by rw [hk]; exact ew2
       rw [Al,em] at e0
       exact Bo e0
     have tk:m.take (i2 + 1) = m.take i2 ++ [m[i2]]:=by rw [Bq,em]; rfl
     rw [tk] at hA'
     replace hbk:H' bk = some (.tup ((cA m[i2].1).map kV)):=by rw [e1]; exact hbk
     have hval:bH (dY m) (cA m[i2].1) = some (.str (one m[i2].2)):=by
       have hm2:(m[i2].1,m[i2].2) ∈ m:=As em
       rw [fY,jE hnd hm2]
       rfl
     clear ekv hkv ew2 tk e1 em
     generalize m[i2] = mx at hbk hA' hval
     have ehc:=sm _ _ eh6
     walk_at "go"
     refine ⟨Wk.set rfl (Wk.refl _),?_⟩
     walk_at "go"
     refine uZ (k:=cA mx.1) (.inl ehc) hbk hval ?_
     refine hA' _ _ hDc ⟨bG hD sm,?_⟩
     rw [Ax,Ax,Ax]
     rfl
   · rintro D ys Hc hD ⟨sm,rfl⟩ hDc _
     rw [← hml,Cj] at hDc
     have su:=iL ec5 (fun o v z => nomatch z) sm
     have eu:=dA (Hs:=H5) hDc (fun o v z => nomatch z)
     generalize unf H5 Hc = H6 at su eu ⊢
     have s06:=sh5.trans su
     refine ⟨b,D,cws,m.map (·.2),rfl,aK s06 hb,bI eu,h8,h7,fun r ps H7 hr s7 er hne hls => ?_⟩
     refine q r ps (m.map (·.2)) H7 (none_of s06 hr) (s06.trans s7) er hne (hls.older s06) (by rw [Ac,hml]) (fun j w g hw hg => ?_) (fun c => ?_)
     · rw [← hk,Al] at hw
       rw [Al] at hg
       cases em:m[j]? with
       | none => rw [em] at hw; cases hw
       | some x =>
         rw [em] at hw hg
         cases hw
         cases hg
         exact hmc x.1 x.2 (As em)
     · rw [hn0]
       have h1:=hct c
       have h2:ctn (m.map (·.2)) c = ctm m c:=by
         unfold ctn ctm
         rw [List.countP_map]
         rfl
       rw [h2]
       omega
def dQU (n:Nat → Int) (cws:List (List Nat)):Prop:=∃ fs:List Nat,fs.length = (wl cws).length ∧ (∀ (j:Nat) w g,(wl cws)[j]? = some w → fs[j]? = some g → g ∈ chW cws w) ∧ ∀ c,(ctn fs c:Int) ≤ n c
theorem xK (x:Nat):∀ {F:List Nat},F.Nodup → (F.map fun c => if x = c then 1 else 0).sum = if x ∈ F then 1 else 0
 | [],_ => rfl
 | c :: r,h => by
   have n1:=Ca.mp h
   rw [Ay,Df,xK x n1.2]
   by_cases e:x = c
   · subst e
     rw [if_pos rfl,if_neg n1.1,if_pos An]
   · rw [if_neg e]
     by_cases m:x ∈ r
     · rw [if_pos m,if_pos (Am _ m)]
     · rw [if_neg m,if_neg fun z => (Be.mp z).elim e m]
theorem xH (g h:Nat → Nat):∀ F:List Nat,(F.map fun c => g c + h c).sum = (F.map g).sum + (F.map h).sum
 | [] => rfl
 | c :: r => by
   rw [Ay,Df,xH g h r,Ay,Df,Ay,Df]
   omega
theorem kY {F:List Nat} (nd:F.Nodup):∀ fs:List Nat,(F.map (ctn fs)).sum = fs.countP fun x => decide (x ∈ F)
 | [] => by
   have:∀ F:List Nat,(F.map (ctn [])).sum = 0:=fun F => by
     induction F with
     | nil => rfl
     | cons c r ih => rw [Ay,Df,ih]; rfl
   rw [this]
   rfl
 | x :: r => by
   have e:ctn (x :: r) = fun c => ctn r c + if x = c then 1 else 0:=by
     funext c
     unfold ctn
     rw [Dr]
     by_cases h:x = c
     · rw [if_pos h,if_pos (Au h)]
     · rw [if_neg h,if_neg (by rw [Bk]; exact h)]
   rw [e,xH,kY nd r,xK x nd,Dr]
   by_cases h:x ∈ F
   · rw [if_pos h,if_pos (Au h)]
   · rw [if_neg h,if_neg (by rw [Bk]; exact h)]
theorem lC {α β:Type} {p:α → Bool} {q:β → Bool}:∀ (L:List α) (M:List β),L.length = M.length → (∀ (j:Nat) a b,L[j]? = some a → M[j]? = some b → p a = true → q b = true) → L.countP p ≤ M.countP q
 | [],_,_,_ => Cq _
 | a :: L,[],h,_ => by cases h
 | a :: L,b :: M,h,hpq => by
   rw [Dr,Dr]
   have ih:=lC L M (by simpa using h) fun j x y hx hy => hpq (j + 1) x y hx hy
   have h0:=hpq 0 a b rfl rfl
   by_cases pa:p a = true
   · rw [if_pos pa,if_pos (h0 pa)]; omega
   · rw [if_neg pa]; omega
theorem iO {g h:Nat → Int} (e:∀ c,g c ≤ h c):∀ F:List Nat,(F.map g).sum ≤ (F.map h).sum
 | [] => Hq _
 | c :: r => by
   rw [Ay,Df,Ay,Df]
   have:=iO e r
   have:=e c
   omega
theorem zO {W L:List Wt} (s:W.Sublist L):W.length ≤ L.countP fun w => decide (w ∈ W):=by
 have h:=s.countP_le (p:=fun w => decide (w ∈ W))
 have e:W.countP (fun w => decide (w ∈ W)) = W.length:=Ft.mpr fun w hw => Au hw
 omega
theorem aJ6 {cws:List (List Nat)} {n:Nat → Int} {W:List Wt} {F:List Nat} (h:LackOk cws n W F):F.Nodup:=by
 obtain ⟨p,rfl⟩:=h.flags
 exact List.Nodup.sublist List.filter_sublist (by decide)
theorem aXF {cws:List (List Nat)} {n:Nat → Int} {W:List Wt} {F:List Nat} (h:LackOk cws n W F):¬ dQU n cws:=by
 rintro ⟨fs,hl,hch,hct⟩
 have h1:=zO h.sub
 have h2:((wl cws).countP fun w => decide (w ∈ W)) ≤ fs.countP fun x => decide (x ∈ F):=lC _ _ hl.symm fun j w g hw hg hp => Au (h.all w (Br hp) g (hch j w g hw hg))
 have h3:=kY (aJ6 h) fs
 have h4:=iO hct F
 rw [eX (ctn fs) F] at h4
 have h5:=h.few
 omega
theorem tW:FnScope ["_law_cell", "_law_k"] ["_law_cell", "_law_k"] (aG dS):=⟨rfl,rfl,rfl,by decide +kernel,rfl,by decide +kernel,by decide +kernel⟩
theorem uT {Zy Zz:Addr} {f:Addr} {fd:FuncData} (F:Fun K "_law_mixed" "_law_mixed" dS f fd) (G:Gs K mg Zy Zz)  : FnOk P w K mg base CX0 1 f fd ["_law_cell", "_law_k"] lB:=by
 refine F.ok tW (fun vs H Q E h => ?_) (fun cdv A outer s H vs Q E hr h => ?_)
 · obtain ⟨c,k,rfl,_⟩:=h; rfl
 obtain ⟨c,k,rfl,h0,h1,q⟩:=h
 refine ⟨_,(@aI _ _ _ (bE (aN gQ (aN pC (aN cX (aN cX (aN cX (aN gQ (mv 0) aJ) (aN pC (aN pC aJ (mv 1)) (mv 1))) (mv 1)) aJ) aJ) aJ))),?_⟩
 walk_at "go"
 exact q _ (Ew _ (by decide))
theorem sc_l_word:FnScope ["_law_number", "_law_most", "_law_letters", "_law_kinds", "_law_base", "_law_word_here", "_law_k"] ["_law_number", "_law_most"] (aG eR):=⟨rfl,rfl,rfl,by decide +kernel,rfl,by decide +kernel,by decide +kernel⟩
theorem yB {Zy Zz:Addr} {f:Addr} {fd:FuncData} (F:Fun K "_law_word" "_law_word" eR f fd) (G:Gs K mg Zy Zz)  : FnOk P w K mg base CX0 1 f fd ["_law_number", "_law_most"] oG:=by
 refine F.ok sc_l_word (fun vs H Q E h => ?_) (fun cdv A outer s H vs Q E hr h => ?_)
 · obtain ⟨n,m,rfl,_⟩:=h; rfl
 obtain ⟨n,m,rfl,h0,hm1,hm7,q⟩:=h
 refine ⟨_,(@aD _ _ _ _ _ (@aP _ _ 2 _ _ _ _ sc_l_word.nd (by rfl) (by exact (Or.inl rfl)) pV (by rfl) (by first | exact Or.inl rfl | exact Or.inr rfl)) (@aD _ _ _ _ _ (@aP _ _ 3 _ _ _ _ sc_l_word.nd (by rfl) (by exact (Or.inl rfl)) (@cL _ _ _ _ _ _ _ eU (@fB _ _ _ _ (aA aJ (aA aJ (aA aJ (aA aJ aE))))) (aN gQ (mv 0) aJ) (fun _ _ => rfl)) (by rfl) (by first | exact Or.inl rfl | exact Or.inr rfl)) (@aD _ _ _ _ _ (@aP _ _ 4 _ _ _ _ sc_l_word.nd (by rfl) (by exact (Or.inl rfl)) (aN gQ (aN pQ (mv 0) aJ) aJ) (by rfl) (by first | exact Or.inl rfl | exact Or.inr rfl)) (@aD _ _ _ _ _ (@aP _ _ 5 _ _ _ _ sc_l_word.nd (by rfl) (by exact (Or.inl rfl)) pV (by rfl) (by first | exact Or.inl rfl | exact Or.inr rfl)) (@aD _ _ _ _ _ (cQ Bp rfl (oZ rfl G.b_range (aA (aN cX aJ (aN gQ (aN pQ (mv 0) aJ) (mv 1))) aE)) (aR (i:=6) sc_l_word.nd rfl (Or.inl rfl)) (@aD _ _ _ _ _ (@aP _ _ 0 _ _ _ _ sc_l_word.nd (by rfl) (by exact (Or.inl rfl)) (aN gQ (aN pC (aN cX (aN cX (mv 0) (mv 6)) aJ) aJ) aJ) (by rfl) (by first | exact Or.inl rfl | exact Or.inr rfl)) (@aI _ _ _ (@aP _ _ 5 _ _ _ _ sc_l_word.nd (by rfl) (by exact (Or.inl rfl)) (aN cX (mv 5) (cL eU (mv 2) (aN gQ (aN cX (mv 4) (aN pC (aN gQ (aN pQ (mv 0) aJ) (mv 3)) aJ)) aJ) (fun _ _ => rfl))) (by rfl) (by first | exact Or.inl rfl | exact Or.inr rfl))))) (@aI _ _ _ (bE (mv 5)))))))),?_⟩
 walk_at "go"
 refine ⟨by decide,fun p hp => ?_⟩
 walk_at "go"
 obtain ⟨kn,hkn,akn⟩:=wY (ns:=[1,2,3,23]) (i:=n % 4) (by omega) (by show n % 4 < 4; omega)
 have hk:1 ≤ kn:=(by decide:∀ x ∈ ([1,2,3,23]:List Int),1 ≤ x) kn hkn
 have hk2:kn ≤ 23:=(by decide:∀ x ∈ ([1,2,3,23]:List Int),x ≤ 23) kn hkn
 refine jC (xs:=([1,2,3,23]:List Int).map V.int) cK akn ?_
 have z0:=Ew (n / 92) (show m ≠ 0 by omega)
 have z1:=Gv (n / 92) (show 0 < m by omega)
 walk_at "go"
 generalize n / 92 % m = l at z0 z1 ⊢
 refine ⟨⟨by omega,by omega⟩,?_⟩
 have s1:Same H (upd H p (.lst [V.int 1,V.int 2,V.int 3,V.int 23])):=aF hp _
 generalize upd H p (.lst [V.int 1,V.int 2,V.int 3,V.int 23]) = H1 at s1 ⊢
 refine jF (fun i σ H' => ∃ (x:Int) (cw:List Nat) (v:Option V),σ = [some (.int x),some (.int m),some (.str (Str.ofString "abcdefghijklmnopqrstuvw")),some (.int kn),some (.int (n / 4 % 23)),some (.str (aY cw)),v] ∧ 0 ≤ x ∧ cw.length = i ∧ (∀ d ∈ cw,cV d) ∧ H' = H1)
   ⟨n,[],none,rfl,h0,rfl,(fun d hd => nomatch hd),rfl⟩ ?_ ?_
 · rintro i σ H' hi ⟨x,cw,v,rfl,hx0,hn,hL,rfl⟩
   have hwl:(aY cw).length = cw.length:=dE cw
   walk_at "go"
   generalize (x + (0 + (i:Int)) + 1) * 69621 % 2147483647 / 7 % kn * 5 = y
   have y0:=Ew (n / 4 % 23 + y) (show (23:Int) ≠ 0 by decide)
   have y1:=Gv (n / 4 % 23 + y) (show (0:Int) < 23 by decide)
   have e1:=bXO (k:=((n / 4 % 23 + y) % 23).toNat) (by omega)
   rw [show ((((n / 4 % 23 + y) % 23).toNat:Nat):Int) = (n / 4 % 23 + y) % 23 by omega] at e1
   refine iP (by decide) e1 ?_
   have h1l:(⟨#[97 + ((n / 4 % 23 + y) % 23).toNat]⟩:Str).length = 1:=rfl
   walk_at "go"
   refine ⟨(x + (0 + (i:Int)) + 1) * 69621 % 2147483647,cw ++ [97 + ((n / 4 % 23 + y) % 23).toNat],some (.int (0 + (i:Int))),?_,Ew _ (show (2147483647:Int) ≠ 0 by decide),by rw [Ar,hn]; rfl,fun d hd => ?_,rfl⟩
   · rw [← yA]
     rfl
   · rcases Ci.mp hd with z | z
     · exact hL d z
     · rw [Aq.mp z]
       exact ⟨by omega,by omega⟩
 · rintro σ H' ⟨x,cw,v,rfl,hx0,hn,hL,rfl⟩
   walk_at "go"
   exact q cw _ s1 (by omega) (by omega) hL
def iT (K:PySem.W.Frag):Sp:=fun vs H Q _ => ∃ (a:Addr) (ns:List Int) (k:Int),vs = [.ref a,.int k] ∧ SqL K H a (ns.map V.int) ∧ 0 ≤ k ∧ ∀ n:Int,Q (.int n) H
theorem qU:FnScope ["_law_script", "_law_k"] ["_law_script", "_law_k"] (aG cT):=⟨rfl,rfl,rfl,by decide +kernel,rfl,by decide +kernel,by decide +kernel⟩
theorem pW {Zy Zz:Addr} {f:Addr} {fd:FuncData} (F:Fun K "_law_cell_at" "_law_cell_at" cT f fd) (G:Gs K mg Zy Zz)  : FnOk P w K mg base CX0 1 f fd ["_law_script", "_law_k"] (iT K):=by
 refine F.ok qU (fun vs H Q E h => ?_) (fun cdv A outer s H vs Q E hr h => ?_)
 · obtain ⟨a,ns,k,rfl,_⟩:=h; rfl
 obtain ⟨a,ns,k,rfl,hS,h0,q⟩:=h
 refine ⟨_,(@aD _ _ _ _ _ (dP (bK cXL (mv 1) (aO qB rfl G.b_len dH (aA (mv 0) aE)) (bW _)) (@aI _ _ _ (bE (cL ix_list (mv 0) (mv 1) (fun _ _ => rfl)))) bO) (@aI _ _ _ (bE aJ))),?_⟩
 walk_at "go"
 refine ⟨_,_,rfl,.inl hS,?_⟩
 have hnl:(ns.map V.int).length = ns.length:=Ac ..
 rw [hnl]
 walk_at "go"
 refine mN (fun hd => ?_) (fun hd => ?_)
 · have hd':=Br hd
   obtain ⟨n,_,an⟩:=wY (ns:=ns) (i:=k) h0 hd'
   walk_at "go"
   exact cZ4 hS an (q n)
 · walk_at "go"
   exact q 0
def cE:Sp:=fun vs H Q _ => ∃ (cw:List Nat) (k:Nat) (p:Int),vs = [.str (aY cw),.int p] ∧ p = (k:Int) + 1 ∧ k < cw.length ∧ cw.length ≤ 7 ∧
 ∀ (r:Addr) (H':Hp),H r = none → Same H H' → H' r = some (.lst (((chs cw k).map one).map V.str)) → Q (.ref r) H'
theorem xO:∀ n:Nat,n < 4 → Str.ofString (toString (1 + (n:Int))) = one (49 + n)
 | 0,_ => by decide +kernel
 | 1,_ => by decide +kernel
 | 2,_ => by decide +kernel
 | 3,_ => by decide +kernel
 | n + 4,h => absurd h (by omega)
theorem sc_l_choices:FnScope ["_law_word_here", "_law_place", "_law_found", "_law_n"] ["_law_word_here", "_law_place"] (aG bZ):=⟨rfl,rfl,rfl,by decide +kernel,rfl,by decide +kernel,by decide +kernel⟩
theorem qX {Zy Zz:Addr} {f:Addr} {fd:FuncData} (F:Fun K "_law_choices" "_law_choices" bZ f fd) (G:Gs K mg Zy Zz)  : FnOk P w K mg base CX0 1 f fd ["_law_word_here", "_law_place"] cE:=by
 refine F.ok sc_l_choices (fun vs H Q E h => ?_) (fun cdv A outer s H vs Q E hr h => ?_)
 · obtain ⟨cw,k,p,rfl,_⟩:=h; rfl
 obtain ⟨cw,k,pl,rfl,hpl,hk,h7,q⟩:=h
 refine ⟨_,(@aD _ _ _ _ _ (@aP _ _ 2 _ _ _ _ sc_l_choices.nd (by rfl) (by exact (Or.inl rfl)) (fB (aA (cL eU (mv 0) (aN gY (mv 1) aJ) (fun _ _ => rfl)) aE)) (by rfl) (by first | exact Or.inl rfl | exact Or.inr rfl)) (@aD _ _ _ _ _ (cQ Bp rfl (oM rfl G.b_range (aA aJ (aA (aO (cZ5 rfl) rfl G.b_min aXI (aA aJ (aA (mv 1) aE))) aE))) (aR (i:=3) sc_l_choices.nd rfl (Or.inl rfl)) (@aI _ _ _ (dP (bK bXM (cL eU (mv 0) (aN gY (mv 3) aJ) (fun _ _ => rfl)) (cL eU (mv 0) (aN gY (mv 1) aJ) (fun _ _ => rfl)) (bW _)) (@aI _ _ _ (dR (fA Dq Ff Fg wD (mv 2) (aA (aT bZM rfl G.b_str aZS (aA (mv 3) aE)) aE)))) bO))) (@aI _ _ _ (bE (mv 2))))),?_⟩
 have hwl:(aY cw).length = cw.length:=dE cw
 walk_at "go"
 refine iP (by rw [hwl]; exact bA (by omega)) (eE (k:=k) (by omega) hk) ?_
 walk_at "go"
 refine ⟨by show 1 ≤ sizeLine; decide,fun p hp => ?_⟩
 walk_at "go"
 have em:(if pl < (5:Int) then pl else 5) = 1 + ((min k 4:Nat):Int):=by split <;> omega
 rw [em]
 refine ⟨⟨by omega,by omega,by omega,by omega⟩,?_⟩
 rw [show (1 + ((min k 4:Nat):Int) - 1).toNat = min k 4 by omega]
 refine jF (fun i σ H' => ∃ v,σ = [some (.str (aY cw)),some (.int pl),some (.ref p),v] ∧ Same H H' ∧ H' p = some (.lst (((cw.getD k 0 :: (List.range i).filterMap (chF cw k)).map one).map V.str)))
   ⟨none,rfl,aF hp _,aB⟩ ?_ ?_
 · rintro i σ H' hi ⟨v,rfl,sm,hH⟩
   have hi2:i < min k 4:=hi
   have hm:=eK hH
   have hlen:((((cw.getD k 0 :: (List.range i).filterMap (chF cw k)).map one).map V.str)).length < sizeLine:=by
     have:=Dk (chF cw k) (List.range i)
     rw [Cs] at this
     rw [Ac,Ac,Bi]
     exact bD (by omega)
   walk_at "go"
   refine iP (by rw [hwl]; exact bA (by omega)) (eE (k:=i) (by omega) (by omega)) ?_
   walk_at "go"
   refine iP (by rw [hwl]; exact bA (by omega)) (eE (k:=k) (by omega) hk) ?_
   walk_at "go"
   rw [show decide (({ cps:=#[cw.getD i 0] }:Str) = { cps:=#[cw.getD k 0] }) = decide (cw.getD i 0 = cw.getD k 0) from kS _ _]
   refine mN (fun hc => ?_) (fun hc => ?_)
   · have he:=Br hc
     walk_at "go"
     refine s_str (by have : (1 + (i : Int)).natAbs = 1 + i := by omega
                      rw [this]
                      exact Gu (Nat.log2_le_self _) (by omega)) ?_
     rw [xO i (by omega)]
     walk_at "go"
     refine ⟨_,rfl,bG hp sm,?_⟩
     rw [aB,gZ (F:=chF cw k) (if_pos he),← List.cons_append,Ax,Ax]
     rfl
   · have he:=Ed (Du.mpr hc)
     walk_at "go"
     refine ⟨_,rfl,sm,?_⟩
     rw [hH,gO (F:=chF cw k) (if_neg he)]
 · rintro σ H' ⟨v,rfl,sm,hH⟩
   walk_at "go"
   exact q p H' hp sm hH
theorem mZ {Zy Zz:Addr} {f:Addr} {fd:FuncData} (F:Fun K "_law_choices" "_law_choices" bZ f fd) (G:Gs K mg Zy Zz)  : FnOkS P w K mg base 1 f fd ["_law_word_here", "_law_place"] cE:=by
 refine F.okS sc_l_choices (fun vs H Q E h => ?_) (fun cdv A ea0 outer s H vs Q hr hsf h => ?_)
 · obtain ⟨cw,k,p,rfl,_⟩:=h; rfl
 obtain ⟨cw,k,pl,rfl,hpl,hk,h7,q⟩:=h
 refine ⟨_,(@aD _ _ _ _ _ (@aP _ _ 2 _ _ _ _ sc_l_choices.nd (by rfl) (by exact (Or.inl rfl)) (fB (aA (cL eU (mv 0) (aN gY (mv 1) aJ) (fun _ _ => rfl)) aE)) (by rfl) (by first | exact Or.inl rfl | exact Or.inr rfl)) (@aD _ _ _ _ _ (rA Bp (cO hsf) (uI rfl G.b_range (aA aJ (aA (aO (cQ3 (cO hsf)) rfl G.b_min aXI (aA aJ (aA (mv 1) aE))) aE))) (aR (i:=3) sc_l_choices.nd rfl (Or.inl rfl)) (@aI _ _ _ (dP (bK bXM (cL eU (mv 0) (aN gY (mv 3) aJ) (fun _ _ => rfl)) (cL eU (mv 0) (aN gY (mv 1) aJ) (fun _ _ => rfl)) (bW _)) (@aI _ _ _ (dR (fA Dq Ff Fg wD (mv 2) (aA (aT bZM rfl G.b_str aZS (aA (mv 3) aE)) aE)))) bO))) (@aI _ _ _ (bE (mv 2))))),?_⟩
 have hwl:(aY cw).length = cw.length:=dE cw
 walk_at "go"
 refine iP (by rw [hwl]; exact bA (by omega)) (eE (k:=k) (by omega) hk) ?_
 walk_at "go"
 refine ⟨by show 1 ≤ sizeLine; decide,fun p hp => ?_⟩
 walk_at "go"
 have em:(if pl < (5:Int) then pl else 5) = 1 + ((min k 4:Nat):Int):=by split <;> omega
 rw [em]
 refine ⟨⟨by omega,by omega,by omega,by omega⟩,?_⟩
 rw [show (1 + ((min k 4:Nat):Int) - 1).toNat = min k 4 by omega]
 refine jF (fun i σ H' => ∃ v,σ = [some (.str (aY cw)),some (.int pl),some (.ref p),v] ∧ Same H H' ∧ H' p = some (.lst (((cw.getD k 0 :: (List.range i).filterMap (chF cw k)).map one).map V.str)))
   ⟨none,rfl,aF hp _,aB⟩ ?_ ?_
 · rintro i σ H' hi ⟨v,rfl,sm,hH⟩
   have hi2:i < min k 4:=hi
   have hm:=eK hH
   have hlen:((((cw.getD k 0 :: (List.range i).filterMap (chF cw k)).map one).map V.str)).length < sizeLine:=by
     have:=Dk (chF cw k) (List.range i)
     rw [Cs] at this
     rw [Ac,Ac,Bi]
     exact bD (by omega)
   walk_at "go"
   refine iP (by rw [hwl]; exact bA (by omega)) (eE (k:=i) (by omega) (by omega)) ?_
   walk_at "go"
   refine iP (by rw [hwl]; exact bA (by omega)) (eE (k:=k) (by omega) hk) ?_
   walk_at "go"
   rw [show decide (({ cps:=#[cw.getD i 0] }:Str) = { cps:=#[cw.getD k 0] }) = decide (cw.getD i 0 = cw.getD k 0) from kS _ _]
   refine mN (fun hc => ?_) (fun hc => ?_)
   · have he:=Br hc
     walk_at "go"
     refine s_str (by have : (1 + (i : Int)).natAbs = 1 + i := by omega
                      rw [this]
                      exact Gu (Nat.log2_le_self _) (by omega)) ?_
     rw [xO i (by omega)]
     walk_at "go"
     refine ⟨_,rfl,bG hp sm,?_⟩
     rw [aB,gZ (F:=chF cw k) (if_pos he),← List.cons_append,Ax,Ax]
     rfl
   · have he:=Ed (Du.mpr hc)
     walk_at "go"
     refine ⟨_,rfl,sm,?_⟩
     rw [hH,gO (F:=chF cw k) (if_neg he)]
 · rintro σ H' ⟨v,rfl,sm,hH⟩
   walk_at "go"
   exact q p H' hp sm hH
theorem iW {cws:List (List Nat)}:∀ i,i ≤ cws.length → (wlP cws i).length = cG cws i
 | 0,_ => rfl
 | i + 1,h => by
   have e:cws[i]? = some cws[i]:=Ab (by omega)
   rw [fM,Ar,iW i (by omega),gK e]
   unfold gR
   rw [Ac,Cs,Ag,e]
   rfl
theorem bZZ {cws:List (List Nat)} {i k:Nat} {cw:List Nat} (hi:cws[i]? = some cw) (hk:k < cw.length):(wl cws)[cG cws i + k]? = some (i,1 + k):=by
 have hil:=(Af.mp hi).1
 have h:∀ n,i < n → n ≤ cws.length → (wlP cws n)[cG cws i + k]? = some (i,1 + k):=fun n => by
   induction n with
   | zero => intro h; omega
   | succ n ih =>
     intro h1 h2
     rw [fM]
     by_cases hn:i = n
     · subst hn
       have e:=iW (cws:=cws) i (by omega)
       rw [Bf (by omega),show cG cws i + k - (wlP cws i).length = k by omega]
       unfold gR
       rw [Al,Ag,hi]
       show ((List.range cw.length)[k]?).map _ = _
       rw [List.getElem?_range hk]
       rfl
     · have r:=ih (by omega) (by omega)
       rw [Ba (Af.mp r).1]
       exact r
 exact h cws.length hil (Ai _)
theorem aZW {fs:List Nat} {j g:Nat} (h:fs[j]? = some g) (c:Nat):ctn (fs.take (j + 1)) c = ctn (fs.take j) c + if c = g then 1 else 0:=by
 unfold ctn
 rw [Bq,h,List.countP_append]
 show _ + List.countP _ [g] = _
 rw [List.countP_singleton]
 by_cases z:c = g
 · rw [if_pos z,if_pos (Au z.symm)]
 · rw [if_neg z,if_neg (by rw [Bk]; exact fun y => z y.symm)]
def lN:Sp:=fun vs H Q _ => ∃ (a b r:Addr) (kvs:List (Key × V)) (f:Nat → Option Int) (cws:List (List Nat)) (ps:List Addr) (fs:List Nat) (H0:Hp),vs = [.ref a,.ref b,.ref r] ∧ H a = some (.dK kvs) ∧ Lk kvs f ∧ rdL H b = some ((cws.map aY).map V.str) ∧ cws.length ≤ 8 ∧ (∀ c ∈ cws,c.length ≤ 7) ∧
 H r = some (.lst (ps.map V.ref)) ∧ Lsts H0 H ps ((List.range cws.length).map (fS cws fs)) ∧ fs.length = (wl cws).length ∧ (∀ (j:Nat) w g,(wl cws)[j]? = some w → fs[j]? = some g → g ∈ chW cws w) ∧ (∀ c,(ctn fs c:Int) ≤ aL f c) ∧ ∀ H',Same H H' → Q (.bl true) H'
theorem sc_l_hangs:FnScope ["_law_locker", "_law_words", "_law_hoists", "_law_used", "_law_word_here", "_law_hoist", "_law_k", "_law_flag"] ["_law_locker", "_law_words", "_law_hoists"] (aG dU):=⟨rfl,rfl,rfl,by decide +kernel,rfl,by decide +kernel,by decide +kernel⟩
theorem uQ {Zy Zz:Addr} {f:Addr} {fd:FuncData} (F:Fun K "_law_hangs" "_law_hangs" dU f fd) (G:Gs K mg Zy Zz) (c_l_choices:Cal P w K mg base 1 "_law_choices" ["_law_word_here", "_law_place"] cE):FnOk P w K mg base CX0 2 f fd ["_law_locker", "_law_words", "_law_hoists"] lN:=by
 refine F.ok sc_l_hangs (fun vs H Q E h => ?_) (fun cdv A outer s H vs Q E hr h => ?_)
 · obtain ⟨a,b,r,kvs,f,cws,ps,fs,H0,rfl,_⟩:=h; rfl
 obtain ⟨a,b,r,kvs,f,cws,ps,fs,H0,rfl,ha,lk,hb,h8,h7,her,hls,hfl,hch,hct,q⟩:=h
 refine ⟨_,(@aD _ _ _ _ _ (dP (PW.pt (kC (jT (dX (aO sO rfl G.b_isinstance cM (aA (mv 2) (aA (lA rfl G.b_list dD) aE))))) (jO (bK cJ9 (aO fK rfl G.b_len dH (aA (mv 2) aE)) (aO fK rfl G.b_len dH (aA (mv 1) aE)) (bW _))))) (@aI _ _ _ (bE eV)) bO) (@aD _ _ _ _ _ (@aP _ _ 3 _ _ _ _ sc_l_hangs.nd (by rfl) (by exact (Or.inl rfl)) jJ (by rfl) (by first | exact Or.inl rfl | exact Or.inr rfl)) (@aD _ _ _ _ _ (cQ Bp rfl (cXO rfl G.b_zip (aA (mv 1) (aA (mv 2) aE))) (kU (K:=K) (i:=4) (j:=5) (by rfl) (by rfl) sc_l_hangs.nd (by rfl) (by exact (Or.inl rfl)) (by exact Or.inl rfl) (by rfl) (by exact (Or.inl rfl)) (by exact Or.inl rfl)) (@aD _ _ _ _ _ (dP (PW.pt (kC (jT (dX (aO sO rfl G.b_isinstance cM (aA (mv 5) (aA (lA rfl G.b_list dD) aE))))) (jO (bK cJ9 (aO fK rfl G.b_len dH (aA (mv 5) aE)) (aO fK rfl G.b_len dH (aA (mv 4) aE)) (bW _))))) (@aI _ _ _ (bE eV)) bO) (@aI _ _ _ (cQ Bp rfl (qG rfl G.b_enumerate (aA (mv 5) aE)) (kU (K:=K) (i:=6) (j:=7) (by rfl) (by rfl) sc_l_hangs.nd (by rfl) (by exact (Or.inl rfl)) (by exact Or.inl rfl) (by rfl) (by exact (Or.inl rfl)) (by exact Or.inl rfl)) (@aD _ _ _ _ _ (dP (bK sI (mv 7) (cH c_l_choices hr (by decide) rfl (aA (mv 4) (aA (aN cX (mv 6) aJ) aE))) (by rfl)) (@aI _ _ _ (bE eV)) bO) (@aI _ _ _ (eB (Room.u1 hr) (mv 3) (mv 7) (aN cX (dI Bt Cy (nQ (Room.u1 hr)) (mv 3) (aA (mv 7) (aA aJ aE))) aJ) rfl))))))) (@aD _ _ _ _ _ (pX (cQ Bp rfl (wG (mv 3)) (aR (i:=7) sc_l_hangs.nd rfl (Or.inl rfl)) (@aI _ _ _ (dP (bK bQF (eF (Room.u1 hr) (mv 3) (mv 7) (fun _ _ => rfl)) (dI Bt Cy (nQ (Room.u1 hr)) (mv 0) (aA (mv 7) (aA aJ aE))) (bW _)) (@aI _ _ _ (bE eV)) bO)))) (@aI _ _ _ (bE eV)))))),?_⟩
 have hll:((cws.map aY).map V.str).length = cws.length:=by rw [Ac,Ac]
 have hpl:ps.length = cws.length:=by rw [hls.1,Ac,Cs]
 have hpl2:(ps.map V.ref).length = cws.length:=by rw [Ac,hpl]
 have rr:=bI her
 have hfo:fs.length = cG cws cws.length:=by rw [hfl]; exact iW _ (Ai _)
 have hf56:fs.length ≤ 56:=by rw [hfl]; exact Bg (gE h7 _) (by omega)
 walk_at "go"
 rw [hll,hpl2,Au rfl]
 walk_at "go"
 intro pu hpu
 have s1:=aF hpu (.dK [])
 have e1:(upd H pu (.dK [])) pu = _:=aB
 generalize upd H pu (.dK []) = H1 at s1 e1 ⊢
 have hb1:=aK s1 hb
 have rr1:=aK s1 rr
 walk_at "go"
 refine bJ8 (xs:=(cws.map aY).map V.str) (ys:=ps.map V.ref) (fun i σ H' => ∃ (kvu:List (Key × V)) (g:Nat → Option Int) (v4 v5 v6 v7:Option V),σ = [some (.ref a),some (.ref b),some (.ref r),some (.ref pu),v4,v5,v6,v7] ∧ Same H H' ∧ H' pu = some (.dK kvu) ∧ Lk kvu g ∧ kvu.length ≤ cG cws i ∧ ∀ c,aL g c = (ctn (fs.take (cG cws i)) c:Int))
   ⟨[],_,_,_,_,_,rfl,s1,e1,.nil,Ai _,fun c => rfl⟩ (fun i σ H' _ _ ⟨_,_,_,_,_,_,_,e,_⟩ => ⟨aK e hb,aK e rr⟩) ?_ ?_
 · rintro i x y σ H2 pt hx hy ⟨kvu,g,v4,v5,v6,v7,rfl,s2,eu,lu,hul,hg⟩ hpt
   have hi:i < cws.length:=by have:=(Af.mp hx).1; rw [hll] at this; exact this
   obtain ⟨cw,hcw,hm,rfl⟩:=jL hx
   have hc7:=h7 cw hm
   have hwl:(aY cw).length = cw.length:=dE cw
   have ho1:=gK hcw
   have ho2:=wX (cws:=cws) (i:=i + 1) hi
   rw [Al] at hy
   obtain ⟨hp,ehp⟩:∃ p,ps[i]? = some p:=⟨_,Ab (by omega)⟩
   rw [ehp] at hy
   cases hy
   have hrow_e:fS cws fs i = (((fs.drop (cG cws i)).take cw.length).map one).map V.str:=by
     unfold fS
     rw [Ag,hcw]
     rfl
   have hhp:=(hls.2 i hp (fS cws fs i) ehp (by rw [Al,List.getElem?_range hi]; rfl)).2
   rw [hrow_e] at hhp
   have hrl:((((fs.drop (cG cws i)).take cw.length).map one).map V.str).length = cw.length:=by rw [Ac,Ac,By,Fi]; omega
   have s3:=s2.trans (aF hpt (.tup [.str (aY cw),.ref hp]))
   have eu3:=aF hpt (.tup [.str (aY cw),.ref hp]) _ _ eu
   have et3:(upd H2 pt (.tup [.str (aY cw),.ref hp])) pt = _:=aB
   generalize upd H2 pt (.tup [.str (aY cw),.ref hp]) = H3 at s3 eu3 et3 ⊢
   have hhp3:=s3 _ _ hhp
   have rh3:=bI hhp3
   have tt3:=eI et3
   walk_at "go"
   rw [hwl,hrl,Au rfl]
   walk_at "go"
   refine qJ (xs:=(((fs.drop (cG cws i)).take cw.length).map one).map V.str) (fun k σ H' => ∃ (kvu:List (Key × V)) (g:Nat → Option Int) (v6 v7:Option V),σ = [some (.ref a),some (.ref b),some (.ref r),some (.ref pu),some (.str (aY cw)),some (.ref hp),v6,v7] ∧ Same H H' ∧ H' pu = some (.dK kvu) ∧ Lk kvu g ∧ kvu.length ≤ cG cws i + k ∧ ∀ c,aL g c = (ctn (fs.take (cG cws i + k)) c:Int))
     ⟨kvu,g,_,_,rfl,s3,eu3,lu,hul,hg⟩ (fun k σ H' _ ⟨_,_,_,_,_,e,_⟩ => aK e (bI hhp)) ?_ ?_
   · rintro k x σ H4 pk hx ⟨kvu,g,v6,v7,rfl,s4,eu4,lu,hul,hg⟩ hpk
     have hk:k < cw.length:=by have:=(Af.mp hx).1; rw [hrl] at this; exact this
     obtain ⟨d,hd⟩:∃ d,fs[cG cws i + k]? = some d:=⟨_,Ab (by omega)⟩
     have ex:x = .str (one d):=by
       rw [Al,Al,List.getElem?_take,if_pos hk,List.getElem?_drop,hd] at hx
       exact (Bo hx).symm
     subst ex
     have hdc:=hch _ _ _ (bZZ hcw hk) hd
     replace hdc:d ∈ chs cw k:=by
       unfold chW at hdc
       rw [Ag,hcw,show (i,1 + k).2 - 1 = k by show 1 + k - 1 = k; omega] at hdc
       exact hdc
     have s5:=s4.trans (aF hpk (.tup [.int ((0 + k:Nat):Int),.str (one d)]))
     have eu5:=aF hpk (.tup [.int ((0 + k:Nat):Int),.str (one d)]) _ _ eu4
     have et5:(upd H4 pk (.tup [.int ((0 + k:Nat):Int),.str (one d)])) pk = _:=aB
     generalize upd H4 pk (.tup [.int ((0 + k:Nat):Int),.str (one d)]) = H5 at s5 eu5 et5 ⊢
     have tt5:=eI et5
     walk_at "go"
     refine ⟨cw,k,_,rfl,by omega,hk,hc7,fun rc H6 hrc s6 er6 => ?_⟩
     refine aQ8 (neg:=true) (bI er6) rfl (fX _) ?_
     rw [rW,Au hdc,show (if true = true then !true else true) = false from rfl]
     have eu6:=s6 _ _ eu5
     have hdu6:=dW eu6
     walk_at "go"
     refine nV (z:=one d) (.inl eu6) ?_
     rw [lu.val d,gJ]
     walk_at "go"
     refine gF (z:=one d) eu6 (bD (by omega)) ?_
     refine ⟨_,_,_,_,rfl,bG hpu (s5.trans s6),aB,lu.put d _,?_,fun c => ?_⟩
     · have:=dJ kvu (Sum.inr (one d)) (.int (aL g d + 1))
       omega
     · rw [show cG cws i + (k + 1) = cG cws i + k + 1 by omega,aZW hd c]
       have h1:=hg c
       show ((if c = d then some (aL g d + 1) else g c):Option Int).getD 0 = _
       by_cases z:c = d
       · subst z
         rw [if_pos rfl,if_pos rfl]
         show aL g c + 1 = _
         omega
       · rw [if_neg z,if_neg z]
         exact h1
   · rintro σ H4 ⟨kvu,g,v6,v7,rfl,s4,eu4,lu,hul,hg⟩
     rw [hrl] at hul hg
     rw [← ho1] at hul hg
     walk_at "go"
     exact ⟨kvu,g,_,_,_,_,rfl,s4,eu4,lu,hul,hg⟩
 · rintro σ H2 ⟨kvu,g,v4,v5,v6,v7,rfl,s2,eu,lu,hul,hg⟩
   rw [hll,hpl2,Nat.min_self] at hul hg
   rw [← hfo,Cj] at hg
   walk_at "go"
   refine aJK eu fun o => ?_
   have fz:(upd H2 pu (.frz o (.dK kvu))) pu = _:=aB
   have nau:a ≠ pu:=fun z => by rw [z,hpu] at ha; cases ha
   have ha2:(upd H2 pu (.frz o (.dK kvu))) a = _:=(aH nau).trans (s2 _ _ ha)
   refine aJ9 (fun i σ H' => ∃ (v4 v5 v6 v7:Option V),σ = [some (.ref a),some (.ref b),some (.ref r),some (.ref pu),v4,v5,v6,v7] ∧ H' = upd H2 pu (.frz o (.dK kvu)))
     ⟨_,_,_,_,rfl,rfl⟩ (fun i σ H' _ ⟨_,_,_,_,_,e⟩ => by rw [e]; exact fz) ?_ ?_
   · rintro i kv σ H3 hkv ⟨v4,v5,v6,v7,rfl,rfl⟩
     obtain ⟨c,n1,ekv,hn1⟩:=lu.at_mem (As hkv)
     have hcn:aL g c = n1:=by unfold aL; rw [hn1]; rfl
     rw [ekv]
     dsimp only [kV]
     have hdu:=uJ fz
     have hda:=dW ha2
     walk_at "go"
     refine lH (z:=one c) (.inr ⟨o,fz⟩) (by rw [lu.val c,hn1]; rfl) ?_
     walk_at "go"
     refine nV (z:=one c) (.inl ha2) ?_
     rw [lk.val c,gJ]
     have h1:=hct c
     have h2:=hg c
     walk_at "go"
     rw [show decide (n1 > aL f c) = false from Bd (by omega)]
     walk_at "go"
     exact ⟨_,_,_,_,rfl,rfl⟩
   · rintro σ H3 ⟨v4,v5,v6,v7,rfl,rfl⟩
     have su:=iL eu (fun o v z => nomatch z) (Same.refl (upd H2 pu (.frz o (.dK kvu))))
     unfold zV
     dsimp only
     generalize unf H2 (upd H2 pu (.frz o (.dK kvu))) = H4 at su ⊢
     walk_at "go"
     exact q _ (s2.trans su)
def bQ8 (kvs:List (Key × V)):List Nat:=kvs.map fun kv => match kv.1 with | Sum.inr z => cX9 z | _ => 0
theorem Lk.keysC {kvs:List (Key × V)} {f:Nat → Option Int} (h:Lk kvs f):kvs.map (·.1) = ((bQ8 kvs).map one).map Sum.inr:=by
 unfold bQ8
 rw [Cp,Cp]
 refine Cg fun kv hkv => ?_
 obtain ⟨c,n,rfl⟩:=h.ks kv hkv
 rfl
theorem Lk.mem_keyC {kvs:List (Key × V)} {f:Nat → Option Int} (h:Lk kvs f) (c:Nat):c ∈ bQ8 kvs ↔ f c ≠ none:=by
 constructor
 · intro hm
   obtain ⟨kv,hkv,e⟩:=Bc.mp hm
   obtain ⟨c',n,rfl,hf⟩:=h.at_mem hkv
   have:c' = c:=e
   rw [← this,hf]
   exact fun z => nomatch z
 · intro hn
   have v:=h.val c
   have q:(kvs.any fun kv => decide (kv.1 = Sum.inr (one c))) = true:=by
     rw [cI,v]
     cases e:f c with
     | none => exact absurd e hn
     | some n => rfl
   obtain ⟨kv,hkv,e⟩:=List.any_eq_true.mp q
   obtain ⟨c',n,rfl⟩:=h.ks kv hkv
   have e2:c' = c:=key_one.mp (Br e)
   exact Bc.mpr ⟨_,hkv,e2⟩
theorem pT {F:List Nat} {j:Nat} {x:V} (h:((F.map one).map V.str)[j]? = some x):∃ d,F[j]? = some d ∧ x = .str (one d):=by
 rw [Al,Al] at h
 cases e:F[j]? with
 | none => rw [e] at h; cases h
 | some d => rw [e] at h; cases h; exact ⟨d,rfl,rfl⟩
theorem wB {ps:List Addr} {j:Nat} {x:V} (h:(ps.map V.ref)[j]? = some x):∃ p,ps[j]? = some p ∧ x = .ref p:=by
 rw [Al] at h
 cases e:ps[j]? with
 | none => rw [e] at h; cases h
 | some p => rw [e] at h; cases h; exact ⟨p,rfl,rfl⟩
theorem vU (F:List Nat) (g:Nat → Int) (n:Nat):(List.range n).filterMap (fun j => (F[j]?).map fun c => V.int (g c)) = ((F.take n).map g).map V.int:=by
 rw [Cp]
 induction n with
 | zero => rfl
 | succ n ih =>
   rw [Dp,Cf,ih,Bq,Ax]
   congr 1
   cases e:F[n]? with
   | none => simp [e]
   | some c => simp [e]
theorem sP {f:Nat → Option Int} (hf0:∀ c,0 ≤ aL f c) (c:Nat):aL (cC (aL f)) c ≤ aL f c:=by
 show (cC (aL f) c).getD 0 ≤ _
 unfold cC
 split
 · exact Hq _
 · exact hf0 c
theorem LackOk.plain {cws:List (List Nat)} {f:Nat → Option Int} {W:List Wt} {F:List Nat} (hf0:∀ c,0 ≤ aL f c) (h:LackOk cws (aL (cC (aL f))) W F):LackOk cws (aL f) W F:=by
 refine ⟨h.sub,h.flags,h.all,?_⟩
 have e:F.map (aL f) = F.map (aL (cC (aL f))):=Cg fun c hc => by
   obtain ⟨p,hp⟩:=h.flags
   rw [hp] at hc
   exact (nX (flags_mem.mp (Do.mp hc).1) (hf0 c)).symm
 rw [e]
 exact h.few
def fIx (c:Nat):Nat:=flagsT.cps.toList.idxOf c
theorem bQQ:flagsT.cps.toList.map fIx = List.range 27:=by decide +kernel
theorem bQ9:∀ c ∈ flagsT.cps.toList,Txt.find flagsT (one c) = ((fIx c:Nat):Int):=by decide +kernel
theorem bZF {F:List Nat} {p:Nat → Bool} (h:F = flagsT.cps.toList.filter p):(F.map fIx).Pairwise (· < ·) ∧ (∀ k ∈ F.map fIx,k < 27) ∧ F.length ≤ 27:=by
 have s:(F.map fIx).Sublist (List.range 27):=by
   rw [← bQQ,h]
   exact List.filter_sublist.map fIx
 refine ⟨List.pairwise_lt_range.sublist s,fun k hk => Bn.mp (s.subset hk),?_⟩
 have:=s.length_le
 rw [Ac,Cs] at this
 exact this
theorem aQP (cws:List (List Nat)):∀ i,(∀ c ∈ cws,c.length ≤ 7) → (wlP cws i).Pairwise fun a b => a.1 * 8 + a.2 < b.1 * 8 + b.2
 | 0,_ => List.Pairwise.nil
 | i + 1,h7 => by
   rw [fM]
   refine List.pairwise_append.mpr ⟨aQP cws i h7,?_,fun a ha b hb => ?_⟩
   · unfold gR
     refine Eh.mpr (Fq.imp fun {a b} h => ?_)
     show i * 8 + (1 + a) < i * 8 + (1 + b)
     omega
   · obtain ⟨h1,h2,h3⟩:=wlP_mem.mp ha
     have ha7:(cws.getD a.1 []).length ≤ 7:=by
       by_cases z:a.1 < cws.length
       · rw [Ag,Ab z]
         exact h7 _ (Bh z)
       · rw [Ag,List.getElem?_eq_none (by omega)]
         exact Cq _
     unfold gR at hb
     obtain ⟨k,_,rfl⟩:=Bc.mp hb
     show _ < i * 8 + (1 + k)
     omega
theorem aZO {H:Hp}:∀ {rs:List Addr} {W:List Wt},WtsAt H rs W → (W.Pairwise fun a b => a.1 * 8 + a.2 < b.1 * 8 + b.2) → rs.Pairwise fun x y => rkH H x < rkH H y
 | [],[],_,_ => .nil
 | [],_ :: _,h,_ => by cases h.1
 | _ :: _,[],h,_ => by cases h.1
 | r :: rs,w :: W,h,hp => by
   obtain ⟨h1,h2⟩:=Gx.mp hp
   have ht:WtsAt H rs W:=⟨by simpa using h.1,fun j r' w' hr hw => h.2 (j + 1) r' w' hr hw⟩
   have e0:rkH H r = w.1 * 8 + w.2:=aZV (h.2 0 r w rfl rfl)
   refine Gx.mpr ⟨fun y hy => ?_,aZO ht h2⟩
   obtain ⟨j,hj⟩:=Dw.mp hy
   have hjl:=(Af.mp hj).1
   have hl:=ht.1
   have ew:W[j]? = some W[j]:=Ab (by omega)
   rw [e0,aZV (ht.2 j y _ hj ew)]
   exact h1 _ (Bh _)
theorem bZW {cws:List (List Nat)} {fs:List Nat} (hL:∀ c ∈ cws,∀ d ∈ c,cV d) (hl:fs.length = (wl cws).length) (hch:∀ (j:Nat) w g,(wl cws)[j]? = some w → fs[j]? = some g → g ∈ chW cws w):∀ c ∈ fs,mY c:=fun c hc => by
 obtain ⟨j,hj⟩:=Dw.mp hc
 have hjl:=(Af.mp hj).1
 obtain ⟨w,ew⟩:∃ w,(wl cws)[j]? = some w:=⟨_,Ab (by omega)⟩
 have hm:=hch j w c ew hj
 obtain ⟨m1,m2,m3⟩:=wlP_mem.mp (As ew)
 unfold chW at hm
 rcases ch_iff.mp hm with e | ⟨n,_,h4,_,e⟩
 · rw [e]
   refine .inl (sZ (fun d hd => ?_) (by omega))
   rw [Ag,Ab m1] at hd
   exact hL _ (Bh m1) d hd
 · rw [e]
   exact .inr ⟨by omega,by omega⟩
theorem bXB {cws:List (List Nat)} {fs:List Nat} {n:Nat → Int} (hL:∀ c ∈ cws,∀ d ∈ c,cV d) (hl:fs.length = (wl cws).length) (hch:∀ (j:Nat) w g,(wl cws)[j]? = some w → fs[j]? = some g → g ∈ chW cws w) (hct:∀ c,(ctn fs c:Int) ≤ n c):((wl cws).length:Int) ≤ (flagsT.cps.toList.map n).sum:=by
 have h1:=kY flags_nd fs
 have h2:fs.countP (fun x => decide (x ∈ flagsT.cps.toList)) = fs.length:=Ft.mpr fun c hc => Au (flags_mem.mpr (bZW hL hl hch c hc))
 have h3:=iO hct flagsT.cps.toList
 rw [eX,h1,h2,hl] at h3
 exact h3
theorem sN {g h:Nat → Int} (e:∀ c,g c ≤ h c) {d:Nat} (hs:g d < h d):∀ {F:List Nat},d ∈ F → (F.map g).sum < (F.map h).sum
 | [],hd => nomatch hd
 | c :: r,hd => by
   rw [Ay,Df,Ay,Df]
   have h1:=e c
   have h2:=iO e r
   rcases Be.mp hd with z | z
   · subst z; omega
   · have:=sN e hs z; omega
theorem bZI {fs:List Nat} {c:Nat} (h:1 ≤ ctn fs c):c ∈ fs:=by
 obtain ⟨x,h1,h2⟩:=List.countP_pos_iff.mp (show 0 < fs.countP fun x => decide (x = c) from h)
 exact Br h2 ▸ h1
theorem bQG {fs:List Nat}:(flagsT.cps.toList.map fun c => ((ctn fs c:Nat):Int)).sum ≤ (fs.length:Int):=by
 rw [eX,kY flags_nd]
 exact Int.ofNat_le.mpr Fv
def iF:Sp:=fun vs H Q _ => ∃ (a b l1 l2:Addr) (kvs:List (Key × V)) (f:Nat → Option Int) (cws:List (List Nat)) (rs:List Addr) (W:List Wt) (F:List Nat),vs = [.ref a,.ref b,.ref l1,.ref l2] ∧ H a = some (.dK kvs) ∧ Lk kvs f ∧ (∀ c,0 ≤ aL f c ∧ aL f c ≤ 1000) ∧ rdL H b = some ((cws.map aY).map V.str) ∧ cws.length ≤ 8 ∧ (∀ c ∈ cws,c.length ≤ 7) ∧
 H l1 = some (.lst (rs.map V.ref)) ∧ WtsAt H rs W ∧ H l2 = some (.lst ((F.map one).map V.str)) ∧ LackOk cws (aL f) W F ∧ ∀ H',Same H H' → Q (.bl true) H'
theorem aJT {ks:List Nat}:inV (V.int (-1)) (ks.map fun k => V.int ((k:Nat):Int)) = false:=by
 unfold inV
 rw [List.any_eq_false]
 intro x hx
 obtain ⟨k,_,rfl⟩:=Bc.mp hx
 show ¬ (((k:Nat):Int) == -1) = true
 rw [Gc]
 omega
theorem kT (ks:List Nat):(ks.map fun k => V.int ((k:Nat):Int)).all aW = true:=by
 rw [Dz]
 intro x hx
 obtain ⟨k,_,rfl⟩:=Bc.mp hx
 rfl
theorem bXL (ks:List Nat):gL (ks.map fun k => V.int ((k:Nat):Int)) (ks.map fun k => V.int ((k:Nat):Int)) = true:=by
 rw [kA rfl,Dz]
 intro j hj
 exact mD (eW (kT ks) j)
theorem sc_l_lacks:FnScope ["_law_locker", "_law_words", "_law_wants", "_law_flags", "_law_order", "_law_number", "_law_place", "_law_flag"] ["_law_locker", "_law_words", "_law_wants", "_law_flags"] (aG dF):=⟨rfl,rfl,rfl,by decide +kernel,rfl,by decide +kernel,by decide +kernel⟩
theorem rG {Zy Zz:Addr} {f:Addr} {fd:FuncData} (F:Fun K "_law_lacks" "_law_lacks" dF f fd) (G:Gs K mg Zy Zz) (m_l_choices:xT P w K mg base 1 "_law_choices" ["_law_word_here", "_law_place"] cE):FnOkS P w K mg base 2 f fd ["_law_locker", "_law_words", "_law_wants", "_law_flags"] iF:=by
 refine F.okS sc_l_lacks (fun vs H Q E h => ?_) (fun cdv A ea0 outer s H vs Q hr hsf h => ?_)
 · obtain ⟨a,b,l1,l2,kvs,f,cws,rs,W,F,rfl,_⟩:=h; rfl
 obtain ⟨a,b,l1,l2,kvs,f,cws,rs,W,F,rfl,ha,lk,hf,hb,h8,h7,el1,hwt,el2,hlo,q⟩:=h
 refine ⟨_,(@aD _ _ _ _ _ (dP (PW.pt (kC (jT (dX (aO sO rfl G.b_isinstance cM (aA (mv 2) (aA (lA rfl G.b_list dD) aE))))) (jO (jT (dX (aO sO rfl G.b_isinstance cM (aA (mv 3) (aA (lA rfl G.b_list dD) aE)))))))) (@aI _ _ _ (bE eV)) bO) (@aD _ _ _ _ _ (aXN (i:=4) sc_l_lacks.nd rfl (Or.inl rfl) (cO hsf) (iN (mv 3)) (cJJ (N:=["_law_flag"]) (by decide +kernel) (by decide +kernel)) (by decide +kernel) rfl (by decide +kernel) (fun C s₀ H₀ ex sx => (aR (i:=0) (show List.Nodup (["_law_flag"]:List Str) by decide +kernel) rfl (Or.inl rfl))) (fun C s₀ H₀ ex sx => pE) (fun C s₀ H₀ ex sx => (fA PySem.F.plainAttrs_str PySem.F.slot_str_find PySem.F.type_str_find bJM pV (aA (mv 0) aE)))) (@aD _ _ _ _ _ (dP (PW.pt (kC (bK (dQG (Room.unitsM hr)) (mv 2) (aO (vC (cO hsf)) rfl G.b_sorted jS (aA (aT (bQD (Room.unitsM hr) (cO hsf)) rfl G.b_set (by decide +kernel) (aA (mv 2) aE)) aE)) (bW _)) (kC (bK (cX4 (Room.units0M hr)) (mv 4) (aO (vB (cO hsf)) rfl G.b_sorted jS (aA (aT (bX1 (cO hsf)) rfl G.b_set (by decide +kernel) (aA (mv 4) aE)) aE)) (bW _)) (jO (bK cJL (cJH dQC aJ) (mv 4) (by rfl)))))) (@aI _ _ _ (bE eV)) bO) (@aD _ _ _ _ _ (rA Bp (cO hsf) (iN (mv 2)) (aXJ (K:=K) (i:=5) (j:=6) (by rfl) (cO hsf) sc_l_lacks.nd (by rfl) (by exact (Or.inl rfl)) (by exact Or.inl rfl) (by rfl) (by exact (Or.inl rfl)) (by exact Or.inl rfl)) (@aD _ _ _ _ _ (dP (PW.pt (kC (dX (aO sO rfl G.b_isinstance cM (aA (mv 5) (aA (lA rfl G.b_bool bZB) aE)))) (kC (bK rJ (mv 5) (aT aZM rfl G.b_range rN (aA (aO fK rfl G.b_len dH (aA (mv 1) aE)) aE)) (by rfl)) (jO (bK rJ (mv 6) (aT aZM rfl G.b_range rN (aA aJ (aA (aN cX (aO fK rfl G.b_len dH (aA (cL eU (mv 1) (mv 5) (fun _ _ => rfl)) aE)) aJ) aE))) (by rfl)))))) (@aI _ _ _ (bE eV)) bO) (@aI _ _ _ (rA Bp (cO hsf) (iN (bXZ m_l_choices (bXA hsf) hr (by decide) rfl (aA (cL eU (mv 1) (mv 5) (fun _ _ => rfl)) (aA (mv 6) aE)))) (aR (i:=7) sc_l_lacks.nd rfl (Or.inl rfl)) (@aI _ _ _ (dP (bK sI (mv 7) (mv 3) (by rfl)) (@aI _ _ _ (bE eV)) bO)))))) (@aI _ _ _ (bE (bQJ bQF (aO fK rfl G.b_len dH (aA (mv 2) aE)) (aO (cXH (cO hsf)) rfl G.b_sum cQF (aA (aJB (cO hsf) (iN (mv 3)) (kF (N:=["_law_flag", "_law_locker"]) ["_law_locker", "_law_words", "_law_wants", "_law_flags", "_law_order", "_law_number", "_law_place", "_law_flag"] (aG dF) [none,some 0] rfl rfl rfl (fun x h => cJ h) (by decide +kernel)) (by decide +kernel) rfl (by decide +kernel) (fun C s₀ H₀ ex sx => (aR (i:=0) (show List.Nodup (["_law_flag", "_law_locker"]:List Str) by decide +kernel) rfl (Or.inl rfl))) (fun C s₀ H₀ ex sx => pE) (fun C s₀ H₀ ex sx => (dI Bt Cy (nQ (Room.u1M hr)) (mv 1) (aA (mv 0) (aA aJ aE))))) aE)) (bW _)))))))),?_⟩
 have hrl:(rs.map V.ref).length = W.length:=by rw [Ac,hwt.1]
 have hFl:((F.map one).map V.str).length = F.length:=by rw [Ac,Ac]
 have hwl56:(wl cws).length ≤ 56:=Bg (gE h7 _) (by omega)
 have hW56:W.length ≤ 56:=Bg hlo.sub.length_le hwl56
 obtain ⟨pF,hpF⟩:=hlo.flags
 obtain ⟨hkr,hk27,hF27⟩:=bZF hpF
 have hFm:∀ c ∈ F,c ∈ flagsT.cps.toList:=fun c hc => by rw [hpF] at hc; exact (Do.mp hc).1
 have r1:=bI el1
 have r2:=bI el2
 walk_at "go"
 refine rX (xs:=(F.map one).map V.str) (fun j => (F[j]?).map fun c => V.int ((fIx c:Nat):Int)) r2 (by rw [hFl]; exact bD (by omega)) (fun j x Hc A B hx sm hA hB => ?_) (fun D1 H1 hD1 s1 hr1 => ?_)
 · obtain ⟨d,hd,rfl⟩:=pT hx
   have r:=hA (.int ((fIx d:Nat):Int)) (by rw [hd]; rfl)
   walk_at "go"
   refine ⟨Wk.set rfl (Wk.refl _),?_⟩
   walk_at "go"
   refine cQ4 ?_
   rw [show Txt.find (Str.ofString "abcdefghijklmnopqrstuvw1234") (one d) = ((fIx d:Nat):Int) from bQ9 d (hFm d (As hd))]
   exact r _ (Same.refl _)
 have ek:((F.map fun c => ((fIx c:Nat):Int)).map V.int) = ((F.map fIx).map fun k => V.int ((k:Nat):Int)):=by rw [Cp,Cp]; rfl
 rw [vU,hFl,Cj,ek] at hr1
 generalize F.map fIx = ks at hr1 hkr hk27 ek
 have hkl:ks.length ≤ 27:=by
   have:=Cr List.length ek
   rw [Ac,Ac,Ac] at this
   omega
 have r11:=aK s1 r1
 have wt1:=hwt.keep fun r w e => s1 _ _ e
 have hsub:=hlo.sub
 have hw8:∀ w ∈ W,w.1 < 8 ∧ w.2 < 8:=fun w hw => by
   obtain ⟨m1,m2,m3⟩:=wlP_mem.mp (hsub.subset hw)
   have:(cws.getD w.1 []).length ≤ 7:=by rw [Ag,Ab m1]; exact h7 _ (Bh m1)
   omega
 have hwr:W.Pairwise fun a b => a.1 * 8 + a.2 < b.1 * 8 + b.2:=(aQP cws cws.length h7).sublist hsub
 walk_at "go"
 refine cXC (ws:=W) r11 wt1.1 (fun j r w hr hw => wt1.2 j r w hr hw) (by omega) hw8 ((iC cws cws.length).sublist hsub) fun p2 hp2 => ?_
 have s2:=aF hp2 (nJ w p2 rs)
 have e2:(upd H1 p2 (nJ w p2 rs)) p2 = some (nJ w p2 rs):=aB
 have ed2:=s2 _ _ hr1
 change bQH _ (upd H1 p2 (nJ w p2 rs)) _
 generalize upd H1 p2 (nJ w p2 rs) = H2 at s2 e2 ed2 ⊢
 have wt2:=wt1.keep fun r w e => s2 _ _ e
 walk_at "go"
 refine uC e2 (fun r hr => ?_) (by rw [hwt.1]; omega) (aZO wt2 hwr) fun p3 hp3 => ?_
 · obtain ⟨j,hj⟩:=Dw.mp hr
   have hjl:=(Af.mp hj).1
   have ew:W[j]? = some (W[j]'(by rw [← hwt.1]; exact hjl)):=Ab _
   exact ⟨_,_,wt2.2 j r _ hj ew,(hw8 _ (As ew)).2⟩
 have s3:=aF hp3 (.lst (rs.map V.ref))
 have s03:=s1.trans (s2.trans s3)
 have ed3:=s3 _ _ ed2
 refine cJB 0 (aK s03 r1) cK rfl (fun j x y hx hy => ?_) ?_
 · rw [hx] at hy
   cases hy
   obtain ⟨p,_,rfl⟩:=wB hx
   exact Alx.same (.inr ⟨p,rfl⟩)
 generalize upd H2 p3 (.lst (rs.map V.ref)) = H3 at s3 s03 ed3 ⊢
 have rd3:=bI ed3
 walk_at "go"
 refine cQT rd3 (by omega) (fun k hk => by have:=hk27 k hk; omega) (hkr.imp fun h => Av h) fun p4 hp4 => ?_
 have s4:=aF hp4 (mW w p4 ks)
 have e4:(upd H3 p4 (mW w p4 ks)) p4 = some (mW w p4 ks):=aB
 have ed4:=s4 _ _ ed3
 change bQH _ (upd H3 p4 (mW w p4 ks)) _
 generalize upd H3 p4 (mW w p4 ks) = H4 at s4 e4 ed4 ⊢
 walk_at "go"
 refine tU e4 (by omega) hkr fun p5 hp5 => ?_
 have s5:=aF hp5 (.lst (ks.map fun k => V.int ((k:Nat):Int)))
 have s05:=s03.trans (s4.trans s5)
 have rd5:=aK s5 (bI ed4)
 refine bJA rd5 cK (kT _) (kT _) ?_
 rw [if_pos rfl,bXL]
 generalize upd H4 p5 (.lst (ks.map fun k => V.int ((k:Nat):Int))) = H5 at s5 s05 rd5 ⊢
 walk_at "go"
 refine aQ8 (neg:=false) rd5 rfl (kT _) ?_
 rw [if_neg (by decide),aJT]
 have r15:=aK s05 r1
 walk_at "go"
 refine eZ (xs:=rs.map V.ref) (fun i σ H' => ∃ (v5 v6 v7:Option V),σ = [some (.ref a),some (.ref b),some (.ref l1),some (.ref l2),some (.ref D1),v5,v6,v7] ∧ Same H H') ⟨_,_,_,rfl,s05⟩ (fun i σ H' _ ⟨_,_,_,_,e⟩ => aK e r1) ?_ ?_
 · rintro i x σ H6 hx ⟨v5,v6,v7,rfl,s6⟩
   obtain ⟨p,ep,rfl⟩:=wB hx
   have hi:i < W.length:=by rw [← hwt.1]; exact (Af.mp ep).1
   obtain ⟨w',ew⟩:∃ w,W[i]? = some w:=⟨_,Ab hi⟩
   have hwm:=As ew
   obtain ⟨m1,m2,m3⟩:=wlP_mem.mp (hlo.sub.subset hwm)
   have hall:=hlo.all w' hwm
   have tt:iZ H6 p = some [V.int ((w'.1:Nat):Int),V.int ((w'.2:Nat):Int)]:=eI (s6 _ _ (hwt.2 i p w' ep ew))
   have hb6:=aK s6 hb
   have ec:cws[w'.1]? = some cws[w'.1]:=Ab m1
   have eg:cws.getD w'.1 [] = cws[w'.1]:=by rw [Ag,ec]; rfl
   rw [eg] at m3
   have h7c:=h7 _ (Bh m1)
   have hll:((cws.map aY).map V.str).length = cws.length:=by rw [Ac,Ac]
   walk_at "go"
   rw [hll]
   refine bXT fun r7 hr7 => ?_
   have s7:=aF hr7 (HO.rng 0 ((cws.length:Nat):Int))
   have g7:(upd H6 r7 (HO.rng 0 ((cws.length:Nat):Int))) r7 = some (HO.rng 0 ((cws.length:Nat):Int)):=aB
   generalize upd H6 r7 (HO.rng 0 ((cws.length:Nat):Int)) = H7 at s7 g7 ⊢
   refine tH g7 ?_
   rw [Au (show (0:Int) ≤ ((w'.1:Nat):Int) ∧ ((w'.1:Nat):Int) < ((cws.length:Nat):Int) from ⟨by omega,by omega⟩)]
   have s07:=s6.trans s7
   have hb7:=aK s07 hb
   walk_at "go"
   refine jC hb7 (v:=V.str (aY cws[w'.1])) (dZ (by rw [Al,Al,ec]; rfl)) ?_
   have hcl:(aY cws[w'.1]).length = cws[w'.1].length:=dE _
   walk_at "go"
   rw [hcl]
   refine bXU fun r8 hr8 => ?_
   have s8:=aF hr8 (HO.rng 1 ((cws[w'.1].length:Int) + 1))
   have g8:(upd H7 r8 (HO.rng 1 ((cws[w'.1].length:Int) + 1))) r8 = some (HO.rng 1 ((cws[w'.1].length:Int) + 1)):=aB
   generalize upd H7 r8 (HO.rng 1 ((cws[w'.1].length:Int) + 1)) = H8 at s8 g8 ⊢
   refine tH g8 ?_
   rw [Au (show (1:Int) ≤ ((w'.2:Nat):Int) ∧ ((w'.2:Nat):Int) < (cws[w'.1].length:Int) + 1 from ⟨by omega,by omega⟩)]
   have s08:=s07.trans s8
   have hb8:=aK s08 hb
   walk_at "go"
   refine jC hb8 (v:=V.str (aY cws[w'.1])) (dZ (by rw [Al,Al,ec]; rfl)) ?_
   walk_at "go"
   refine ⟨cws[w'.1],w'.2 - 1,_,rfl,by omega,by omega,h7c,fun rc H9 hrc s9 ec9 => ?_⟩
   have s09:=s08.trans s9
   have ec9':H9 rc = some (.lst (((chW cws w').map one).map V.str)):=by unfold chW; rw [eg]; exact ec9
   have rc9:=bI ec9'
   walk_at "go"
   refine eZ (xs:=((chW cws w').map one).map V.str) (fun j σ H' => ∃ v7:Option V,σ = [some (.ref a),some (.ref b),some (.ref l1),some (.ref l2),some (.ref D1),some (.int ((w'.1:Nat):Int)),some (.int ((w'.2:Nat):Int)),v7] ∧ Same H9 H') ⟨_,rfl,Same.refl _⟩ (fun j σ H' _ ⟨_,_,e⟩ => aK e rc9) ?_ ?_
   · rintro j x σ H10 hx ⟨v7',rfl,s10⟩
     obtain ⟨c,hc,rfl⟩:=pT hx
     have s010:=s09.trans s10
     have r210:=aK s010 r2
     walk_at "go"
     refine aQ8 (neg:=true) r210 rfl (fX _) ?_
     rw [if_pos rfl,rW,Au (hall c (As hc))]
     rw [show (!true) = false from rfl]
     walk_at "go"
     exact ⟨_,rfl,s10⟩
   · rintro σ H10 ⟨v7',rfl,s10⟩
     exact ⟨_,_,_,rfl,s09.trans s10⟩
 · rintro σ H6 ⟨v5,v6,v7,rfl,s6⟩
   have r16:=aK s6 r1
   have r26:=aK s6 r2
   walk_at "go"
   refine rX (xs:=(F.map one).map V.str) (fun j => (F[j]?).map fun c => V.int (aL f c)) r26 (by rw [hFl]; exact bD (by omega)) (fun j x Hc A B hx sm hA hB => ?_) (fun D7 H7 hD7 s7 hr7 => ?_)
   · obtain ⟨d,hd,rfl⟩:=pT hx
     have r:=hA (.int (aL f d)) (by rw [hd]; rfl)
     have hac:=sm _ _ (s6 _ _ ha)
     walk_at "go"
     refine ⟨Wk.set rfl (Wk.refl _),?_⟩
     have hdd:=dW hac
     walk_at "go"
     refine nV (z:=one d) (.inl hac) ?_
     rw [lk.val d,gJ]
     exact r _ (Same.refl _)
   · rw [vU,hFl,Cj] at hr7
     walk_at "go"
     refine cJ3 (bI hr7) (fun n hn => by obtain ⟨c,_,rfl⟩:=Bc.mp hn; exact ⟨by have:=(hf c).1; omega,by have:=(hf c).2; omega⟩) (by rw [Ac]; omega) ?_
     walk_at "go"
     rw [hrl,Au (show (F.map (aL f)).sum < ((W.length:Nat):Int) from hlo.few)]
     exact q _ (s6.trans s7)
def jB:Sp:=fun vs H Q _ => ∃ (a b:Addr) (kvs:List (Key × V)) (f:Nat → Option Int) (cws:List (List Nat)),vs = [.ref a,.ref b] ∧ H a = some (.dK kvs) ∧ Lk kvs f ∧ (∀ c,0 ≤ aL f c ∧ aL f c ≤ 1000) ∧ rdL H b = some ((cws.map aY).map V.str) ∧ cws.length ≤ 8 ∧ (∀ c ∈ cws,c.length ≤ 7 ∧ ∀ d ∈ c,cV d) ∧ (flagsT.cps.toList.map (aL f)).sum < ((wl cws).length:Int) ∧ ∀ H',Same H H' → Q (.bl true) H'
theorem sc_l_refused:FnScope ["_law_locker", "_law_words", "e"] ["_law_locker", "_law_words"] (aG cS):=⟨rfl,rfl,rfl,by decide +kernel,rfl,by decide +kernel,by decide +kernel⟩
theorem pZ {Zy Zz:Addr} {f:Addr} {fd:FuncData} (F:Fun K "_law_refused" "_law_refused" cS f fd) (G:Gs K mg Zy Zz) (c_hang_all:aXW P w K mg base 3 "hang_all" ["locker", "words"] (gA Zy)) (m_l_lacks:xT P w K mg base 2 "_law_lacks" ["_law_locker", "_law_words", "_law_wants", "_law_flags"] iF):FnOk P w K mg base CX0 4 f fd ["_law_locker", "_law_words"] jB:=by
 refine F.ok sc_l_refused (fun vs H Q E h => ?_) (fun cdv A outer s H vs Q E hr h => ?_)
 · obtain ⟨a,b,kvs,f,cws,rfl,_⟩:=h; rfl
 obtain ⟨a,b,kvs,f,cws,rfl,ha,lk,hf,hb,h8,hL,hfew,q⟩:=h
 refine ⟨_,(@aD _ _ _ _ _ (bXV (i:=2) rfl rfl rfl sc_l_refused.nd rfl rfl rfl G.c_Lack (fun pins R => (@aI _ _ _ (dR (bXY c_hang_all (uK rfl) hr (by decide) rfl (aA (aT lQ rfl G.b_dict qM (aA (mv 0) aE)) (aA (aT iB rfl G.b_list dD (aA (mv 1) aE)) aE)))))) (fun pins ea => (@aI _ _ _ (bE (bXR m_l_lacks hr (by decide) rfl (aA (mv 0) (aA (mv 1) (aA (sY (K:=K) rfl (mv 2) rfl) (aA (sY (K:=K) rfl (mv 2) rfl) aE))))))))) (@aI _ _ _ (bE eV))),?_⟩
 have hf0:∀ c,0 ≤ aL f c:=fun c => (hf c).1
 walk_at "go"
 refine lX (.inl ha) fun p hp => ?_
 have s1:=aF hp (.dK kvs)
 have e1:(upd H p (.dK kvs)) p = _:=aB
 generalize upd H p (.dK kvs) = H1 at s1 e1 ⊢
 have hb1:=aK s1 hb
 walk_at "go"
 intro r hr
 have s2:=aF hr (.lst ((cws.map aY).map V.str))
 have r2:rdL (upd H1 r (.lst ((cws.map aY).map V.str))) r = _:=cK
 have e2:=s2 _ _ e1
 generalize upd H1 r (.lst ((cws.map aY).map V.str)) = H2 at s2 r2 e2 ⊢
 have s02:=s1.trans s2
 refine ⟨p,r,kvs,f,cws,rfl,.inl e2,lk,r2,by omega,hL,fun rh ps fs H3 hrh s3 er hne hls hfl hch hct => ?_,fun dx l1 l2 rs W F H3 s3 ed el1 hwt el2 hlo _ _ => ⟨G.m_Lack,fun ea oe hoe hea => ?_⟩⟩
 · have h1:=bXB (fun c hc => (hL c hc).2) hfl hch fun c => Int.le_trans (hct c) (sP hf0 c)
   omega
 · have k5:=aF hea (.frz oe (lE ea (.ref Zy) (some dx)))
   have e5:(upd H3 ea (.frz oe (lE ea (.ref Zy) (some dx)))) ea = some (.frz oe (lE ea (.ref Zy) (some dx))):=aB
   generalize upd H3 ea (.frz oe (lE ea (.ref Zy) (some dx))) = H5 at k5 e5 ⊢
   have s5:=s3.trans k5
   have s05:=s02.trans s5
   walk_at "go"
   refine ⟨ea,Zy,dx,_,_,oe,rfl,e5,k5 _ _ ed,G.xx_Lack,G.xn_Lack_wants,rfl,?_⟩
   walk_at "go"
   refine ⟨ea,Zy,dx,_,_,oe,rfl,e5,k5 _ _ ed,G.xx_Lack,G.xn_Lack_flags,rfl,?_⟩
   walk_at "go"
   refine ⟨⟨_,_,e5,hoe⟩,a,b,l1,l2,kvs,f,cws,rs,W,F,rfl,s05 _ _ ha,lk,hf,aK s05 hb,h8,fun c hc => (hL c hc).1,k5 _ _ el1,hwt.keep fun r w e => k5 _ _ e,k5 _ _ el2,hlo.plain hf0,fun H6 s6 => ?_⟩
   exact q _ (s05.trans s6)
def nY:Sp:=fun vs H Q _ => ∃ (n:Int) (b:Addr) (cws:List (List Nat)),vs = [.int n,.ref b] ∧ 0 ≤ n ∧ rdL H b = some ((cws.map aY).map V.str) ∧ cws.length ≤ 8 ∧ (∀ c ∈ cws,c.length ≤ 7) ∧
 ∀ (r:Addr) (kvs:List (Key × V)) (f:Nat → Option Int) (fs:List Nat) (H':Hp),H r = none → Same H H' → H' r = some (.dK kvs) → Lk kvs f → kvs.length ≤ 56 → fs.length = (wl cws).length → (∀ (j:Nat) w g,(wl cws)[j]? = some w → fs[j]? = some g → g ∈ chW cws w) → (∀ c,aL f c = (ctn fs c:Int)) → (∀ c,f c ≠ none → 1 ≤ aL f c) → Q (.ref r) H'
theorem aJ1 {fs:List Nat} {g c:Nat}:ctn (fs ++ [g]) c = ctn fs c + if c = g then 1 else 0:=by
 unfold ctn
 rw [List.countP_append]
 show _ + List.countP _ [g] = _
 rw [List.countP_singleton]
 by_cases z:c = g
 · rw [if_pos z,if_pos (Au z.symm)]
 · rw [if_neg z,if_neg (by rw [Bk]; exact fun y => z y.symm)]
theorem sc_l_just:FnScope ["_law_number", "_law_words", "_law_locker", "_law_word_here", "_law_k", "_law_choices_here", "_law_flag"] ["_law_number", "_law_words"] (aG eS):=⟨rfl,rfl,rfl,by decide +kernel,rfl,by decide +kernel,by decide +kernel⟩
theorem zL {Zy Zz:Addr} {f:Addr} {fd:FuncData} (F:Fun K "_law_just" "_law_just" eS f fd) (G:Gs K mg Zy Zz) (c_l_choices:Cal P w K mg base 1 "_law_choices" ["_law_word_here", "_law_place"] cE):FnOk P w K mg base CX0 2 f fd ["_law_number", "_law_words"] nY:=by
 refine F.ok sc_l_just (fun vs H Q E h => ?_) (fun cdv A outer s H vs Q E hr h => ?_)
 · obtain ⟨n,b,cws,rfl,_⟩:=h; rfl
 obtain ⟨n,b,cws,rfl,hn,hb,h8,h7,q⟩:=h
 refine ⟨_,(@aD _ _ _ _ _ (@aP _ _ 2 _ _ _ _ sc_l_just.nd (by rfl) (by exact (Or.inl rfl)) jJ (by rfl) (by first | exact Or.inl rfl | exact Or.inr rfl)) (@aD _ _ _ _ _ (cQ Bp rfl (iV (mv 1)) (aR (i:=3) sc_l_just.nd rfl (Or.inl rfl)) (@aI _ _ _ (cQ Bp rfl (oZ rfl G.b_range (aA (aO fK rfl G.b_len dH (aA (mv 3) aE)) aE)) (aR (i:=4) sc_l_just.nd rfl (Or.inl rfl)) (@aD _ _ _ _ _ (@aP _ _ 0 _ _ _ _ sc_l_just.nd (by rfl) (by exact (Or.inl rfl)) (aN gQ (aN pC (aN cX (aN cX (mv 0) (mv 4)) aJ) aJ) aJ) (by rfl) (by first | exact Or.inl rfl | exact Or.inr rfl)) (@aD _ _ _ _ _ (@aP _ _ 5 _ _ _ _ sc_l_just.nd (by rfl) (by exact (Or.inl rfl)) (cH c_l_choices hr (by decide) rfl (aA (mv 3) (aA (aN cX (mv 4) aJ) aE))) (by rfl) (by first | exact Or.inl rfl | exact Or.inr rfl)) (@aD _ _ _ _ _ (@aP _ _ 6 _ _ _ _ sc_l_just.nd (by rfl) (by exact (Or.inl rfl)) (cL eU (mv 5) (aN gQ (aN pQ (mv 0) aJ) (aO fK rfl G.b_len dH (aA (mv 5) aE))) (fun _ _ => rfl)) (by rfl) (by first | exact Or.inl rfl | exact Or.inr rfl)) (@aI _ _ _ (eB (Room.u1 hr) (mv 2) (mv 6) (aN cX (dI Bt Cy (nQ (Room.u1 hr)) (mv 2) (aA (mv 6) (aA aJ aE))) aJ) rfl)))))))) (@aI _ _ _ (bE (mv 2))))),?_⟩
 have hll:((cws.map aY).map V.str).length = cws.length:=by rw [Ac,Ac]
 have hoe:(wl cws).length = cG cws cws.length:=iW _ (Ai _)
 have hw56:(wl cws).length ≤ 56:=Bg (gE h7 _) (by omega)
 walk_at "go"
 intro pd hpd
 have s1:=aF hpd (.dK [])
 have e1:(upd H pd (.dK [])) pd = _:=aB
 generalize upd H pd (.dK []) = H1 at s1 e1 ⊢
 have hb1:=aK s1 hb
 walk_at "go"
 refine eZ (xs:=(cws.map aY).map V.str) (fun i σ H' => ∃ (n':Int) (kvs:List (Key × V)) (f:Nat → Option Int) (fs:List Nat) (v3 v4 v5 v6:Option V),σ = [some (.int n'),some (.ref b),some (.ref pd),v3,v4,v5,v6] ∧ 0 ≤ n' ∧ Same H H' ∧ H' pd = some (.dK kvs) ∧ Lk kvs f ∧ kvs.length ≤ fs.length ∧ fs.length = cG cws i ∧ (∀ (j:Nat) w g,(wl cws)[j]? = some w → fs[j]? = some g → g ∈ chW cws w) ∧ (∀ c,aL f c = (ctn fs c:Int)) ∧ (∀ c,f c ≠ none → 1 ≤ aL f c))
   ⟨n,[],_,[],_,_,_,_,rfl,hn,s1,e1,.nil,Ai _,rfl,(fun j w g _ h => by cases h),(fun c => rfl),fun c hc => absurd rfl hc⟩ (fun i σ H' _ ⟨_,_,_,_,_,_,_,_,_,_,e,_⟩ => aK e hb) ?_ ?_
 · rintro i x σ H2 hx ⟨n',kvs,f,fs,v3,v4,v5,v6,rfl,hn',s2,ed,lk,hkl,hfl,hch,hcn,hpos⟩
   have hi:i < cws.length:=by have:=(Af.mp hx).1; omega
   obtain ⟨cw,hcw,hm,rfl⟩:=jL hx
   have hc7:=h7 cw hm
   have ho1:=gK hcw
   have ho2:=wX (cws:=cws) (i:=i + 1) hi
   have hwl:(aY cw).length = cw.length:=dE cw
   walk_at "go"
   rw [hwl]
   refine ⟨⟨by omega,by omega⟩,?_⟩
   rw [show ((cw.length:Nat):Int).toNat = cw.length from Cd _]
   refine jF (fun k σ H' => ∃ (n':Int) (kvs:List (Key × V)) (f:Nat → Option Int) (fs:List Nat) (v4 v5 v6:Option V),σ = [some (.int n'),some (.ref b),some (.ref pd),some (.str (aY cw)),v4,v5,v6] ∧ 0 ≤ n' ∧ Same H H' ∧ H' pd = some (.dK kvs) ∧ Lk kvs f ∧ kvs.length ≤ fs.length ∧ fs.length = cG cws i + k ∧ (∀ (j:Nat) w g,(wl cws)[j]? = some w → fs[j]? = some g → g ∈ chW cws w) ∧ (∀ c,aL f c = (ctn fs c:Int)) ∧ (∀ c,f c ≠ none → 1 ≤ aL f c))
     ⟨n',kvs,f,fs,_,_,_,rfl,hn',s2,ed,lk,hkl,hfl,hch,hcn,hpos⟩ ?_ ?_
   · rintro k σ H4 hk ⟨n4,kvs,f,fs,v4,v5,v6,rfl,hn4,s4,ed4,lk,hkl,hfl,hch,hcn,hpos⟩
     have hk':k < cw.length:=hk
     have hcl:=xE cw k
     walk_at "go"
     generalize hn5:(n4 + (0 + (k:Int)) + 1) * 69621 % 2147483647 = n5
     have hn50:0 ≤ n5:=by rw [← hn5]; exact Ew _ (by decide)
     refine ⟨cw,k,_,rfl,by omega,hk',by omega,fun rc H5 hrc s5 er5 => ?_⟩
     have rr5:=bI er5
     have ed5:=s5 _ _ ed4
     have hdd:=dW ed5
     have hll5:(((chs cw k).map one).map V.str).length = (chs cw k).length:=by rw [Ac,Ac]
     walk_at "go"
     rw [hll5]
     have y0:=Ew (n5 / 7) (show (((chs cw k).length:Nat):Int) ≠ 0 by omega)
     have y1:=Gv (n5 / 7) (show (0:Int) < (((chs cw k).length:Nat):Int) by omega)
     obtain ⟨z,hz,az,_⟩:=aJU (ss:=(chs cw k).map one) (i:=n5 / 7 % (((chs cw k).length:Nat):Int)) y0 (by rw [Ac]; exact y1)
     obtain ⟨d,hd,rfl⟩:=Bc.mp hz
     refine jC rr5 az ?_
     walk_at "go"
     refine nV (z:=one d) (.inl ed5) ?_
     rw [lk.val d,gJ]
     walk_at "go"
     refine gF (z:=one d) ed5 (bD (by omega)) ?_
     refine ⟨n5,_,_,fs ++ [d],_,_,_,rfl,hn50,bG hpd (s4.trans s5),aB,lk.put d _,?_,by rw [Ar,hfl]; rfl,fun j w g hw hg => ?_,fun c => ?_,fun c hc => ?_⟩
     · have:=dJ kvs (Sum.inr (one d)) (.int (aL f d + 1))
       rw [Ar]
       show _ ≤ fs.length + 1
       omega
     · by_cases hj:j < fs.length
       · rw [Ba hj] at hg
         exact hch j w g hw hg
       · have hj2:j = cG cws i + k:=by
           have:=(Af.mp hg).1
           rw [Ar] at this
           have:j < fs.length + 1:=this
           omega
         subst hj2
         rw [bZZ hcw hk'] at hw
         rw [← hfl,Bf (Ai _),Nat.sub_self] at hg
         cases hw
         cases hg
         unfold chW
         rw [Ag,hcw,show (i,1 + k).2 - 1 = k by show 1 + k - 1 = k; omega]
         exact hd
     · rw [aJ1]
       have h1:=hcn c
       show ((if c = d then some (aL f d + 1) else f c):Option Int).getD 0 = _
       by_cases z:c = d
       · subst z
         rw [if_pos rfl,if_pos rfl]
         show aL f c + 1 = _
         omega
       · rw [if_neg z,if_neg z]
         exact h1
     · show 1 ≤ ((if c = d then some (aL f d + 1) else f c):Option Int).getD 0
       by_cases z:c = d
       · rw [if_pos z]
         show 1 ≤ aL f d + 1
         have:=hcn d
         omega
       · rw [if_neg z]
         refine hpos c ?_
         have hc':((if c = d then some (aL f d + 1) else f c):Option Int) ≠ none:=hc
         rw [if_neg z] at hc'
         exact hc'
   · rintro σ H4 ⟨n4,kvs,f,fs,v4,v5,v6,rfl,hn4,s4,ed4,lk,hkl,hfl,hch,hcn,hpos⟩
     exact ⟨n4,kvs,f,fs,_,_,_,_,rfl,hn4,s4,ed4,lk,hkl,by rw [hfl,ho1],hch,hcn,hpos⟩
 · rintro σ H2 ⟨n',kvs,f,fs,v3,v4,v5,v6,rfl,hn',s2,ed,lk,hkl,hfl,hch,hcn,hpos⟩
   rw [hll] at hfl
   walk_at "go"
   exact q pd kvs f fs H2 hpd s2 ed lk (by omega) (by omega) hch hcn hpos
theorem yD (ns:List Int) (lo m:Int) (h:0 ≤ lo) (h2:0 ≤ m):∃ ms:List Int,jY (ns.map V.int) (some lo) (some (lo + m)) = ms.map V.int ∧ ms.length ≤ m.toNat:=by
 refine ⟨(ns.drop (min lo.toNat ns.length)).take (min (lo + m).toNat ns.length - min lo.toNat ns.length),?_,?_⟩
 · unfold jY
   rw [List.map_take,List.map_drop]
   show ((ns.map V.int).drop (if lo < 0 then (lo + ((ns.map V.int).length:Int)).toNat else min lo.toNat (ns.map V.int).length)).take ((if lo + m < 0 then (lo + m + ((ns.map V.int).length:Int)).toNat else min (lo + m).toNat (ns.map V.int).length) - (if lo < 0 then (lo + ((ns.map V.int).length:Int)).toNat else min lo.toNat (ns.map V.int).length)) = _
   rw [if_neg (by omega),if_neg (by omega),Ac]
 · rw [By,Fi]; omega
theorem cXQ {f:Nat → Option Int} {d:Nat} {n:Int} (h:n ≤ aL f d) (c:Nat):aL (fun e => if e = d then some n else f e) c ≤ aL f c:=by
 show ((if c = d then some n else f c):Option Int).getD 0 ≤ _
 by_cases z:c = d
 · rw [if_pos z,z]; exact h
 · rw [if_neg z]; exact Hq _
theorem bJV {f:Nat → Option Int} {d:Nat} {n:Int}:aL (fun e => if e = d then some n else f e) d = n:=by
 show ((if d = d then some n else f d):Option Int).getD 0 = n
 rw [if_pos rfl]
 rfl
theorem sc_law:FnScope ["_law_script", "_law_words", "_law_k", "_law_cell", "_law_locker", "_law_flag", "_law_less"] ["_law_script"] (aG iH):=⟨rfl,rfl,rfl,by decide +kernel,rfl,by decide +kernel,by decide +kernel⟩
theorem bJT {Zy Zz:Addr} {f:Addr} {fd:FuncData} (F:Fun K "law" "law" iH f fd) (G:Gs K mg Zy Zz) (c_l_just:Cal P w K mg base 2 "_law_just" ["_law_number", "_law_words"] nY) (c_l_mixed:Cal P w K mg base 1 "_law_mixed" ["_law_cell", "_law_k"] lB) (c_l_hangs:Cal P w K mg base 2 "_law_hangs" ["_law_locker", "_law_words", "_law_hoists"] lN) (c_l_word:Cal P w K mg base 1 "_law_word" ["_law_number", "_law_most"] oG) (c_l_cell_at:Cal P w K mg base 1 "_law_cell_at" ["_law_script", "_law_k"] (iT K)) (c_hang_all:aXW P w K mg base 3 "hang_all" ["locker", "words"] (gA Zy)) (c_l_refused:Cal P w K mg base 4 "_law_refused" ["_law_locker", "_law_words"] jB):FnOk P w K mg base CX0 5 f fd ["_law_script"] (pS K):=by
 refine F.ok sc_law (fun vs H Q E h => ?_) (fun cdv A outer s H vs Q E hr h => ?_)
 · obtain ⟨a,ns,rfl,_⟩:=h; rfl
 obtain ⟨a,ns,rfl,hS,h63,q⟩:=h
 refine ⟨_,(@aD _ _ _ _ _ (@aP _ _ 1 _ _ _ _ sc_law.nd (by rfl) (by exact (Or.inl rfl)) (fB (@bJ2 _ _ _ _ _ _ aE)) (by rfl) (by first | exact Or.inl rfl | exact Or.inr rfl)) (@aD _ _ _ _ _ (cQ Bp rfl (qG rfl G.b_enumerate (aA (mM sl_list (mv 0) (jD aJ) (jD aJ)) aE)) (kU (K:=K) (i:=2) (j:=3) (by rfl) (by rfl) sc_law.nd (by rfl) (by exact (Or.inl rfl)) (by exact Or.inl rfl) (by rfl) (by exact (Or.inl rfl)) (by exact Or.inl rfl)) (@aI _ _ _ (dR (fA Dq Ff Fg wD (mv 1) (aA (cH c_l_word hr (by decide) rfl (aA (cH c_l_mixed hr (by decide) rfl (aA (mv 3) (aA (mv 2) aE))) (aA aJ aE))) aE))))) (@aD _ _ _ _ _ (@aP _ _ 4 _ _ _ _ sc_law.nd (by rfl) (by exact (Or.inl rfl)) (cH c_l_just hr (by decide) rfl (aA (cH c_l_mixed hr (by decide) rfl (aA (cH c_l_cell_at hr (by decide) rfl (aA (mv 0) (aA aJ aE))) (aA aJ aE))) (aA (mv 1) aE))) (by rfl) (by first | exact Or.inl rfl | exact Or.inr rfl)) (@aD _ _ _ _ _ (dP (jT (dX (cH c_l_hangs hr (by decide) rfl (aA (mv 4) (aA (mv 1) (aA (bXX c_hang_all yR hr (by decide) rfl (aA (aT lQ rfl G.b_dict qM (aA (mv 4) aE)) (aA (aT iB rfl G.b_list dD (aA (mv 1) aE)) aE))) aE)))))) (@aI _ _ _ (bE eV)) bO) (@aD _ _ _ _ _ (cQ Bp rfl (iV (mM cJZ (aO (yI rfl) rfl G.b_sorted jS (aA (mv 4) aE)) bQZ (jD aJ))) (aR (i:=5) sc_law.nd rfl (Or.inl rfl)) (@aD _ _ _ _ _ (@aP _ _ 6 _ _ _ _ sc_law.nd (by rfl) (by exact (Or.inl rfl)) (aT lQ rfl G.b_dict qM (aA (mv 4) aE)) (by rfl) (by first | exact Or.inl rfl | exact Or.inr rfl)) (@aD _ _ _ _ _ (eB (Room.u1 hr) (mv 6) (mv 5) (aN gY (eF (Room.u1 hr) (mv 6) (mv 5) (fun _ _ => rfl)) aJ) rfl) (@aI _ _ _ (dP (jT (dX (cH c_l_refused hr (by decide) rfl (aA (mv 6) (aA (mv 1) aE))))) (@aI _ _ _ (bE eV)) bO))))) (@aI _ _ _ (bE eV))))))),?_⟩
 walk_at "go"
 refine ⟨by decide,fun pw hpw => ?_⟩
 have s1:=aF hpw (.lst [V.str (Str.ofString "abba")])
 have e1:(upd H pw (.lst [V.str (Str.ofString "abba")])) pw = some (.lst ((([[97,98,98,97]]:List (List Nat)).map aY).map V.str)):=aB
 generalize upd H pw (.lst [V.str (Str.ofString "abba")]) = H1 at s1 e1 ⊢
 have hS1:=s1.seq hS
 walk_at "go"
 refine cJK hS1 fun r1 hr1 => ?_
 obtain ⟨ms,em,hml⟩:=yD ns 1 7 (by decide) (by decide)
 rw [show (1:Int) + 7 = 8 from rfl] at em
 rw [em]
 have s2:=aF hr1 (HO.lst (ms.map V.int))
 have er2:rdL (upd H1 r1 (HO.lst (ms.map V.int))) r1 = some (ms.map V.int):=cK
 have ew2:=s2 _ _ e1
 generalize upd H1 r1 (HO.lst (ms.map V.int)) = H2 at s2 er2 ew2 ⊢
 have n1w:r1 ≠ pw:=fun z => by rw [z,e1] at hr1; cases hr1
 have s02:=s1.trans s2
 have hml7:ms.length ≤ 7:=hml
 walk_at "go"
 refine qJ (xs:=ms.map V.int) (fun i σ H' => ∃ (cws:List (List Nat)) (v2 v3 v4 v5 v6:Option V),σ = [some (.ref a),some (.ref pw),v2,v3,v4,v5,v6] ∧ Same H H' ∧ rdL H' r1 = some (ms.map V.int) ∧ H' pw = some (.lst ((cws.map aY).map V.str)) ∧ cws.length = i + 1 ∧ ∀ c ∈ cws,c.length ≤ 7 ∧ ∀ d ∈ c,cV d)
   ⟨[[97,98,98,97]],_,_,_,_,_,rfl,s02,er2,ew2,rfl,fun c hc => by rw [Aq.mp hc]; exact ⟨by decide,by decide⟩⟩ (fun i σ H' _ ⟨_,_,_,_,_,_,_,_,e,_⟩ => e) ?_ ?_
 · rintro i x σ H3 pt hx ⟨cws,v2,v3,v4,v5,v6,rfl,s3,er3,ew3,hcl,hL⟩ hpt
   have hi:i < 7:=by have:=(Af.mp hx).1; rw [Ac] at this; omega
   obtain ⟨n0,rfl⟩:∃ n,x = .int n:=by
     rw [Al] at hx
     cases e:ms[i]? with
     | none => rw [e] at hx; cases hx
     | some n => rw [e] at hx; cases hx; exact ⟨n,rfl⟩
   have k4:=aF hpt (.tup [.int ((0 + i:Nat):Int),.int n0])
   have et4:(upd H3 pt (.tup [.int ((0 + i:Nat):Int),.int n0])) pt = some (.tup [.int ((0 + i:Nat):Int),.int n0]):=aB
   generalize upd H3 pt (.tup [.int ((0 + i:Nat):Int),.int n0]) = H4 at k4 et4 ⊢
   have tt4:=eI et4
   have s4:=s3.trans k4
   have er4:=aK k4 er3
   have ew4:=k4 _ _ ew3
   walk_at "go"
   refine ⟨n0,_,rfl,by omega,by omega,fun n hn => ?_⟩
   walk_at "go"
   refine ⟨n,7,rfl,hn,by decide,by decide,fun cw H5 s5 h1 h7 hLc => ?_⟩
   have ew5:=s5 _ _ ew4
   have hm5:=eK ew5
   have hwl:((cws.map aY).map V.str).length ≤ 8:=by rw [Ac,Ac]; omega
   walk_at "go"
   refine ⟨cws ++ [cw],_,_,_,_,_,rfl,bG hpw (s4.trans s5),?_,by rw [aB,Ax,Ax]; rfl,by rw [Ar,hcl]; rfl,fun c hc => ?_⟩
   · exact (uR n1w).trans (aK s5 er4)
   · rcases Ci.mp hc with e | e
     · exact hL c e
     · rw [Aq.mp e]
       exact ⟨by omega,hLc⟩
 · rintro σ H3 ⟨cws,v2,v3,v4,v5,v6,rfl,s3,_,ew3,hcl,hL⟩
   rw [Ac] at hcl
   have h8:cws.length ≤ 8:=by omega
   have h7:∀ c ∈ cws,c.length ≤ 7:=fun c hc => (hL c hc).1
   have hLl:∀ c ∈ cws,∀ d ∈ c,cV d:=fun c hc => (hL c hc).2
   have hS3:=s3.seq hS
   have rb3:=bI ew3
   walk_at "go"
   refine ⟨a,ns,0,rfl,hS3,by omega,fun n0 => ?_⟩
   walk_at "go"
   refine ⟨n0,40,rfl,by omega,by omega,fun n hn => ?_⟩
   walk_at "go"
   refine ⟨n,pw,cws,rfl,hn,rb3,h8,h7,fun pl kvs f fs H4 hpl s4 el lk hkl hfl hch hcn hpos => ?_⟩
   have rb4:=aK s4 rb3
   have hf0:∀ c,0 ≤ aL f c:=fun c => by rw [hcn c]; exact Int.natCast_nonneg _
   have hfs:=bZW hLl hfl hch
   have hw56:(wl cws).length ≤ 56:=Bg (gE h7 _) (by omega)
   have hf56:∀ c,aL f c ≤ 56:=fun c => by
     rw [hcn c]
     have:ctn fs c ≤ fs.length:=Fv
     omega
   clear s4 s3 hS3 rb3 ew3 hpl s1 s2 e1 er2 ew2 em hS
   walk_at "go"
   refine lX (.inl el) fun p5 hp5 => ?_
   have s5:=aF hp5 (.dK kvs)
   have e5:(upd H4 p5 (.dK kvs)) p5 = _:=aB
   generalize upd H4 p5 (.dK kvs) = H5 at s5 e5 ⊢
   have rb5:=aK s5 rb4
   walk_at "go"
   intro r6 hr6
   have s6:=aF hr6 (.lst ((cws.map aY).map V.str))
   have r66:rdL (upd H5 r6 (.lst ((cws.map aY).map V.str))) r6 = _:=cK
   have e6:=s6 _ _ e5
   generalize upd H5 r6 (.lst ((cws.map aY).map V.str)) = H6 at s6 r66 e6 ⊢
   have s46:=s5.trans s6
   refine ⟨p5,r6,kvs,f,cws,rfl,.inl e6,lk,r66,h8,hL,fun rh ps fs2 H7 hrh s7 er hne hls hfl2 hch2 hct2 => ?_,fun dx l1 l2 rs W F H7 s7 ed el1 hwt el2 hlo _ _ => ?_⟩
   rotate_left
   · refine (aXF hlo ⟨fs,hfl,hch,fun c => ?_⟩).elim
     by_cases hc:mY c
     · rw [nX hc (hf0 c),hcn c]
       exact Hq _
     · have:ctn fs c = 0:=List.countP_eq_zero.mpr fun x hx e => hc ((Br e) ▸ hfs x hx)
       rw [this]
       show (0:Int) ≤ (cC (aL f) c).getD 0
       unfold cC
       rw [if_neg fun z => hc z.1]
       exact Hq _
   have s47:=s46.trans s7
   walk_at "go"
   refine ⟨pl,pw,rh,kvs,f,cws,ps,fs2,H6,rfl,s47 _ _ el,lk,aK s47 rb4,h8,h7,er,hls,hfl2,hch2,fun c => Int.le_trans (hct2 c) (sP hf0 c),fun H8 s8 => ?_⟩
   have s48:=s47.trans s8
   have el8:=s48 _ _ el
   walk_at "go"
   refine xW (ss:=(bQ8 kvs).map one) (.inl el8) lk.keysC (by omega) fun r9 ss hr9 hperm => ?_
   have s9:=aF hr9 (.lst (ss.map V.str))
   have er9:rdL (upd H8 r9 (.lst (ss.map V.str))) r9 = some (ss.map V.str):=cK
   change qN _ (upd H8 r9 (.lst (ss.map V.str))) _
   generalize upd H8 r9 (.lst (ss.map V.str)) = H9 at s9 er9 ⊢
   walk_at "go"
   intro r10 hr10
   rw [aZP (by decide),← List.map_take]
   have s10:=aF hr10 (HO.lst ((ss.take (8:Int).toNat).map V.str))
   have er10:rdL (upd H9 r10 (HO.lst ((ss.take (8:Int).toNat).map V.str))) r10 = some ((ss.take (8:Int).toNat).map V.str):=cK
   have hss:∀ z ∈ ss.take (8:Int).toNat,∃ d,z = one d ∧ f d ≠ none:=fun z hz => by
     obtain ⟨d,hd,rfl⟩:=Bc.mp (hperm.subset (Ez hz))
     exact ⟨d,rfl,(lk.mem_keyC d).mp hd⟩
   generalize ss.take (8:Int).toNat = zs at s10 er10 hss ⊢
   generalize upd H9 r10 (HO.lst (zs.map V.str)) = H10 at s10 er10 ⊢
   have s410:=s48.trans (s9.trans s10)
   walk_at "go"
   refine eZ (xs:=zs.map V.str) (fun i σ H' => ∃ (v2 v3 v5 v6:Option V),σ = [some (.ref a),some (.ref pw),v2,v3,some (.ref pl),v5,v6] ∧ Same H4 H' ∧ rdL H' r10 = some (zs.map V.str)) ⟨_,_,_,_,rfl,s410,er10⟩ (fun i σ H' _ ⟨_,_,_,_,_,_,e⟩ => e) ?_ ?_
   · rintro i x σ H11 hx ⟨v2,v3,v5,v6,rfl,s11,er11⟩
     obtain ⟨d,hd,rfl⟩:∃ d,f d ≠ none ∧ x = .str (one d):=by
       rw [Al] at hx
       cases e:zs[i]? with
       | none => rw [e] at hx; cases hx
       | some z =>
         rw [e] at hx
         cases hx
         obtain ⟨d,rfl,h⟩:=hss z (As e)
         exact ⟨d,h,rfl⟩
     obtain ⟨nd,hnd⟩:=Option.ne_none_iff_exists'.mp hd
     have hcd:aL f d = nd:=by unfold aL; rw [hnd]; rfl
     have hnd1:=hpos d hd
     rw [hcd] at hnd1
     have hdf:mY d:=hfs d (bZI (by have:=hcn d; omega))
     have el11:=s11 _ _ el
     walk_at "go"
     refine lX (.inl el11) fun p12 hp12 => ?_
     have s12:=aF hp12 (.dK kvs)
     have e12:(upd H11 p12 (.dK kvs)) p12 = some (.dK kvs):=aB
     generalize upd H11 p12 (.dK kvs) = H12 at s12 e12 ⊢
     have hdd:=dW e12
     walk_at "go"
     refine lH (z:=one d) (.inl e12) (by rw [lk.val d,hnd]; rfl) ?_
     walk_at "go"
     refine gF (z:=one d) e12 (bD (by omega)) ?_
     have lk13:=lk.put d (nd - 1)
     have hl13:=dJ kvs (Sum.inr (one d)) (.int (nd - 1))
     have s13:Same H11 (upd H12 p12 (.dK (bY kvs (Sum.inr (one d)) (.int (nd - 1))))):=bG hp12 s12
     have e13:(upd H12 p12 (.dK (bY kvs (Sum.inr (one d)) (.int (nd - 1))))) p12 = some (.dK (bY kvs (Sum.inr (one d)) (.int (nd - 1)))):=aB
     generalize upd H12 p12 (.dK (bY kvs (Sum.inr (one d)) (.int (nd - 1)))) = H13 at s13 e13 ⊢
     have s413:=s11.trans s13
     have hle:=cXQ (f:=f) (d:=d) (n:=nd - 1) (by omega)
     have hat:aL (fun e => if e = d then some (nd - 1) else f e) d = nd - 1:=bJV
     walk_at "go"
     refine ⟨p12,pw,_,_,cws,rfl,e13,lk13,fun c => ⟨?_,by have:=hle c; have:=hf56 c; omega⟩,aK s413 rb4,h8,hL,?_,fun H14 s14 => ?_⟩
     · show 0 ≤ ((if c = d then some (nd - 1) else f c):Option Int).getD 0
       by_cases z:c = d
       · rw [if_pos z]
         show 0 ≤ nd - 1
         omega
       · rw [if_neg z]
         exact hf0 c
     · have h1:=sN hle (d:=d) (by rw [hat]; omega) (F:=flagsT.cps.toList) (flags_mem.mpr hdf)
       have h2:(flagsT.cps.toList.map (aL f)).sum ≤ (fs.length:Int):=by
         rw [show aL f = fun c => ((ctn fs c:Nat):Int) from funext hcn]
         exact bQG
       omega
     walk_at "go"
     exact ⟨_,_,_,_,rfl,s413.trans s14,aK (s13.trans s14) er11⟩
   · rintro σ H11 ⟨v2,v3,v5,v6,rfl,s11,er11⟩
     walk_at "go"
     exact q _
end
local macro_rules | `(tactic| walk_at "bd") => `(tactic| (intro a1 a2 a3 a4 a5 a6 us hl; iterate 7 (all_goals try (rcases us with _ | ⟨u,us⟩; (· first | rfl | (simp at hl)))); all_goals (simp at hl)))
theorem all_mk {l:PySem.W.OpenLaw} {w:World} {K:PySem.W.Frag} {h:Heap} {mg:Str → Option Value} {fa:Addr} {od_0 an_0 od_1 an_1 od_2 an_2 od_3 an_3 od_4 an_4 od_5 an_5 od_6 an_6 od_7 an_7 od_8 an_8 od_9 an_9 od_10 an_10 od_11 an_11 od_12 an_12 od_13 an_13 od_14 an_14 od_15 an_15 od_16 an_16 od_17 an_17:Option Addr} {sl_0 sl_1 sl_2 sl_3 sl_4 sl_5 sl_6 sl_7 sl_8 sl_9 sl_10 sl_11 sl_12 sl_13 sl_14 sl_15 sl_16 sl_17:Array (Option Value)} {f_0 f_1 f_2 f_3 f_4 f_5 f_6 f_7 f_8 f_9 f_10 f_11 f_12 f_13 f_14 f_15 f_16 f_17:Addr} {oc_0 kV_0 dc_0 pm_0 cd_0 ct_0 oc_1 kV_1 dc_1 pm_1 cd_1 ct_1 oc_2 kV_2 dc_2 pm_2 cd_2 ct_2 oc_3 kV_3 dc_3 pm_3 cd_3 ct_3 oc_4 kV_4 dc_4 pm_4 cd_4 ct_4 oc_5 kV_5 dc_5 pm_5 cd_5 ct_5 oc_6 kV_6 dc_6 pm_6 cd_6 ct_6 oc_7 kV_7 dc_7 pm_7 cd_7 ct_7 oc_8 kV_8 dc_8 pm_8 cd_8 ct_8 oc_9 kV_9 dc_9 pm_9 cd_9 ct_9 oc_10 kV_10 dc_10 pm_10 cd_10 ct_10 oc_11 kV_11 dc_11 pm_11 cd_11 ct_11 oc_12 kV_12 dc_12 pm_12 cd_12 ct_12 oc_13 kV_13 dc_13 pm_13 cd_13 ct_13 oc_14 kV_14 dc_14 pm_14 cd_14 ct_14 oc_15 kV_15 dc_15 pm_15 cd_15 ct_15 oc_16 kV_16 dc_16 pm_16 cd_16 ct_16 oc_17 kV_17 dc_17 pm_17 cd_17 ct_17:Value} {t_SUBSTITUTES:Tok} {t_FLAGS:Tok} {Zy:Addr} {Zz:Addr} (X:K.In h) (Gn:h.Ns mainGlobals mg) (hfa:mg "law" = some (.ref fa))
   (a_0:PySem.W.nsIn K mainGlobals "_law_choices" = some (some (.ref f_0))) (l_0:K.lookup f_0 = some ⟨oc_0,od_0,.func (PySem.W.fnOf "_law_choices" "_law_choices" (bC bZ) (aS bZ) (aG bZ) .none kV_0 dc_0 pm_0 an_0 cd_0 ct_0),sl_0⟩) (c_0:PySem.W.codeIn K cd_0 "_law_choices" = true) (k_0:PySem.W.keepIn K (.ref f_0) = true)
   (a_1:PySem.W.nsIn K mainGlobals "_law_just" = some (some (.ref f_1))) (l_1:K.lookup f_1 = some ⟨oc_1,od_1,.func (PySem.W.fnOf "_law_just" "_law_just" (bC eS) (aS eS) (aG eS) .none kV_1 dc_1 pm_1 an_1 cd_1 ct_1),sl_1⟩) (c_1:PySem.W.codeIn K cd_1 "_law_just" = true) (k_1:PySem.W.keepIn K (.ref f_1) = true)
   (a_2:PySem.W.nsIn K mainGlobals "_law_mixed" = some (some (.ref f_2))) (l_2:K.lookup f_2 = some ⟨oc_2,od_2,.func (PySem.W.fnOf "_law_mixed" "_law_mixed" (bC dS) (aS dS) (aG dS) .none kV_2 dc_2 pm_2 an_2 cd_2 ct_2),sl_2⟩) (c_2:PySem.W.codeIn K cd_2 "_law_mixed" = true) (k_2:PySem.W.keepIn K (.ref f_2) = true)
   (a_3:PySem.W.nsIn K mainGlobals "_law_hangs" = some (some (.ref f_3))) (l_3:K.lookup f_3 = some ⟨oc_3,od_3,.func (PySem.W.fnOf "_law_hangs" "_law_hangs" (bC dU) (aS dU) (aG dU) .none kV_3 dc_3 pm_3 an_3 cd_3 ct_3),sl_3⟩) (c_3:PySem.W.codeIn K cd_3 "_law_hangs" = true) (k_3:PySem.W.keepIn K (.ref f_3) = true)
   (a_4:PySem.W.nsIn K mainGlobals "_law_word" = some (some (.ref f_4))) (l_4:K.lookup f_4 = some ⟨oc_4,od_4,.func (PySem.W.fnOf "_law_word" "_law_word" (bC eR) (aS eR) (aG eR) .none kV_4 dc_4 pm_4 an_4 cd_4 ct_4),sl_4⟩) (c_4:PySem.W.codeIn K cd_4 "_law_word" = true) (k_4:PySem.W.keepIn K (.ref f_4) = true)
   (a_5:PySem.W.nsIn K mainGlobals "_law_cell_at" = some (some (.ref f_5))) (l_5:K.lookup f_5 = some ⟨oc_5,od_5,.func (PySem.W.fnOf "_law_cell_at" "_law_cell_at" (bC cT) (aS cT) (aG cT) .none kV_5 dc_5 pm_5 an_5 cd_5 ct_5),sl_5⟩) (c_5:PySem.W.codeIn K cd_5 "_law_cell_at" = true) (k_5:PySem.W.keepIn K (.ref f_5) = true)
   (a_6:PySem.W.nsIn K mainGlobals "wants_of" = some (some (.ref f_6))) (l_6:K.lookup f_6 = some ⟨oc_6,od_6,.func (PySem.W.fnOf "wants_of" "wants_of" (bC cR) (aS cR) (aG cR) .none kV_6 dc_6 pm_6 an_6 cd_6 ct_6),sl_6⟩) (c_6:PySem.W.codeIn K cd_6 "wants_of" = true) (k_6:PySem.W.keepIn K (.ref f_6) = true)
   (a_7:PySem.W.nsIn K mainGlobals "choices_at" = some (some (.ref f_7))) (l_7:K.lookup f_7 = some ⟨oc_7,od_7,.func (PySem.W.fnOf "choices_at" "choices_at" (bC bS) (aS bS) (aG bS) .none kV_7 dc_7 pm_7 an_7 cd_7 ct_7),sl_7⟩) (c_7:PySem.W.codeIn K cd_7 "choices_at" = true) (k_7:PySem.W.keepIn K (.ref f_7) = true)
   (a_8:PySem.W.nsIn K mainGlobals "choices_of" = some (some (.ref f_8))) (l_8:K.lookup f_8 = some ⟨oc_8,od_8,.func (PySem.W.fnOf "choices_of" "choices_of" (bC cD) (aS cD) (aG cD) .none kV_8 dc_8 pm_8 an_8 cd_8 ct_8),sl_8⟩) (c_8:PySem.W.codeIn K cd_8 "choices_of" = true) (k_8:PySem.W.keepIn K (.ref f_8) = true)
   (a_9:PySem.W.nsIn K mainGlobals "plain_locker" = some (some (.ref f_9))) (l_9:K.lookup f_9 = some ⟨oc_9,od_9,.func (PySem.W.fnOf "plain_locker" "plain_locker" (bC bQ) (aS bQ) (aG bQ) .none kV_9 dc_9 pm_9 an_9 cd_9 ct_9),sl_9⟩) (c_9:PySem.W.codeIn K cd_9 "plain_locker" = true) (k_9:PySem.W.keepIn K (.ref f_9) = true)
   (a_10:PySem.W.nsIn K mainGlobals "hoists_of" = some (some (.ref f_10))) (l_10:K.lookup f_10 = some ⟨oc_10,od_10,.func (PySem.W.fnOf "hoists_of" "hoists_of" (bC cW) (aS cW) (aG cW) .none kV_10 dc_10 pm_10 an_10 cd_10 ct_10),sl_10⟩) (c_10:PySem.W.codeIn K cd_10 "hoists_of" = true) (k_10:PySem.W.keepIn K (.ref f_10) = true)
   (a_11:PySem.W.nsIn K mainGlobals "asked_from" = some (some (.ref f_11))) (l_11:K.lookup f_11 = some ⟨oc_11,od_11,.func (PySem.W.fnOf "asked_from" "asked_from" (bC bT) (aS bT) (aG bT) .none kV_11 dc_11 pm_11 an_11 cd_11 ct_11),sl_11⟩) (c_11:PySem.W.codeIn K cd_11 "asked_from" = true) (k_11:PySem.W.keepIn K (.ref f_11) = true)
   (a_12:PySem.W.nsIn K mainGlobals "hang_along" = some (some (.ref f_12))) (l_12:K.lookup f_12 = some ⟨oc_12,od_12,.func (PySem.W.fnOf "hang_along" "hang_along" (bC cF) (aS cF) (aG cF) .none kV_12 dc_12 pm_12 an_12 cd_12 ct_12),sl_12⟩) (c_12:PySem.W.codeIn K cd_12 "hang_along" = true) (k_12:PySem.W.keepIn K (.ref f_12) = true)
   (y_13:PySem.W.typeIn K (.ref f_13) = some (.type "function"))
   (a_13:PySem.W.findIn K (.ref Zy) "__init__" = some (some (.ref f_13))) (l_13:K.lookup f_13 = some ⟨oc_13,od_13,.func (PySem.W.fnOf "__init__" "Lack.__init__" (bC cU) (aS cU) (aG cU) .none kV_13 dc_13 pm_13 an_13 cd_13 ct_13),sl_13⟩) (c_13:PySem.W.codeIn K cd_13 "Lack.__init__" = true) (k_13:PySem.W.keepIn K (.ref f_13) = true)
   (a_14:PySem.W.nsIn K mainGlobals "hang_all" = some (some (.ref f_14))) (l_14:K.lookup f_14 = some ⟨oc_14,od_14,.func (PySem.W.fnOf "hang_all" "hang_all" (bC bP) (aS bP) (aG bP) .none kV_14 dc_14 pm_14 an_14 cd_14 ct_14),sl_14⟩) (c_14:PySem.W.codeIn K cd_14 "hang_all" = true) (k_14:PySem.W.keepIn K (.ref f_14) = true)
   (a_15:PySem.W.nsIn K mainGlobals "_law_lacks" = some (some (.ref f_15))) (l_15:K.lookup f_15 = some ⟨oc_15,od_15,.func (PySem.W.fnOf "_law_lacks" "_law_lacks" (bC dF) (aS dF) (aG dF) .none kV_15 dc_15 pm_15 an_15 cd_15 ct_15),sl_15⟩) (c_15:PySem.W.codeIn K cd_15 "_law_lacks" = true) (k_15:PySem.W.keepIn K (.ref f_15) = true)
   (a_16:PySem.W.nsIn K mainGlobals "_law_refused" = some (some (.ref f_16))) (l_16:K.lookup f_16 = some ⟨oc_16,od_16,.func (PySem.W.fnOf "_law_refused" "_law_refused" (bC cS) (aS cS) (aG cS) .none kV_16 dc_16 pm_16 an_16 cd_16 ct_16),sl_16⟩) (c_16:PySem.W.codeIn K cd_16 "_law_refused" = true) (k_16:PySem.W.keepIn K (.ref f_16) = true)
   (a_17:PySem.W.nsIn K mainGlobals "law" = some (some (.ref f_17))) (l_17:K.lookup f_17 = some ⟨oc_17,od_17,.func (PySem.W.fnOf "law" "law" (bC iH) (aS iH) (aG iH) .none kV_17 dc_17 pm_17 an_17 cd_17 ct_17),sl_17⟩) (c_17:PySem.W.codeIn K cd_17 "law" = true) (k_17:PySem.W.keepIn K (.ref f_17) = true)
   (z_range:PySem.W.nsIn K mainGlobals "range" = some none)
   (z_min:PySem.W.nsIn K mainGlobals "min" = some none)
   (z_str:PySem.W.nsIn K mainGlobals "str" = some none)
   (z_len:PySem.W.nsIn K mainGlobals "len" = some none)
   (z_zip:PySem.W.nsIn K mainGlobals "zip" = some none)
   (z_enumerate:PySem.W.nsIn K mainGlobals "enumerate" = some none)
   (z_isinstance:PySem.W.nsIn K mainGlobals "isinstance" = some none)
   (z_list:PySem.W.nsIn K mainGlobals "list" = some none)
   (z_int:PySem.W.nsIn K mainGlobals "int" = some none)
   (z_sum:PySem.W.nsIn K mainGlobals "sum" = some none)
   (z_sorted:PySem.W.nsIn K mainGlobals "sorted" = some none)
   (z_bool:PySem.W.nsIn K mainGlobals "bool" = some none)
   (z_set:PySem.W.nsIn K mainGlobals "set" = some none)
   (z_dict:PySem.W.nsIn K mainGlobals "dict" = some none)
   (g_SUBSTITUTES:PySem.W.nsIn K mainGlobals "SUBSTITUTES" = some (some (.str "1234" t_SUBSTITUTES)))
   (g_FLAGS:PySem.W.nsIn K mainGlobals "FLAGS" = some (some (.str "abcdefghijklmnopqrstuvw1234" t_FLAGS)))
   (q_Lack:PySem.W.nsIn K mainGlobals "Lack" = some (some (.ref Zy)))
   (q_TowerError:PySem.W.nsIn K mainGlobals "TowerError" = some (some (.ref Zz)))
   (f_m_Lack:PySem.W.exmOne K (.ref Zy) (.ref Zy) = some true)
   (f_t1_TowerError:PySem.W.specialIn K (.ref Zz) "__getattribute__" = some (some (.builtin "type.__getattribute__")))
   (f_t2_TowerError:PySem.W.readsIn K Zz (.type "type") = true)
   (f_t3_TowerError:PySem.W.findCls K (.ref Zz) (.type "type") "__init__" = some (.val (.builtin "ValueError.__init__")))
   (f_xo_Lack:uL K Zy [.type "ValueError",.type "Exception",.type "BaseException",.type "object"] "ValueError.__new__" = true)
   (f_xk_Lack:PySem.W.keepIn K (.ref Zy) = true)
   (f_xe1_Lack:PySem.W.hasDictIn K Zy = true)
   (f_xe2_Lack:PySem.W.findIn K (.ref Zy) "__getattribute__" = some (some (.builtin "BaseException.__getattribute__")))
   (f_xe3_Lack:PySem.W.findIn K (.ref Zy) "__getattr__" = some none)
   (f_xe4_Lack:PySem.W.findIn K (.ref Zy) "__class__" = some (some (.builtin "object.__class__")))
   (f_xe5_Lack:PySem.W.specialIn K (.builtin "object.__class__") "__get__" = some (some (.builtin "getset_descriptor.__get__")))
   (f_xe6_Lack:PySem.W.takesIn K (.builtin "object.__class__") = some true)
   (f_xe7_Lack:PySem.W.mroIn K Zy (.type "object") = some true)
   (f_xe8_Lack:PySem.W.subIn K (.ref Zy) (.type "BaseException") = some true)
   (f_xs_Lack:PySem.W.findIn K (.ref Zy) "__setattr__" = some (some (.builtin "object.__setattr__")))
   (f_xr_Lack:cXS K Zy Zz = true)
   (f_xv_Lack:PySem.W.subIn K (.ref Zy) (.type "ValueError") = some true)
   (f_xn_Lack_wants:PySem.W.findIn K (.ref Zy) "wants" = some none)
   (f_xn_Lack_flags:PySem.W.findIn K (.ref Zy) "flags" = some none)
   : ∃ fd:FuncData,(∀ (s:Shared) (v:Value),BindsTo s fd ⟨[v],[]⟩ [("_law_script",v)]) ∧ ∀ base:Heap,K.In base → base.Ns mainGlobals mg → FnOk l.prog w K mg base CX0 5 fa fd ["_law_script"] (pS K):=by
 have M:∀ {x:Str} {v:Value},PySem.W.nsIn K mainGlobals x = some (some v) → mg x = some v:=fun h => PySem.W.mg_of X Gn h
 have N:∀ {x:Str},PySem.W.nsIn K mainGlobals x = some none → mg x = none:=fun h => PySem.W.mg_none_of X Gn h
 have e:=hfa.symm.trans (M a_17)
 cases e
 have G:Gs K mg Zy Zz:=⟨M q_Lack,M q_TowerError,f_m_Lack,f_t1_TowerError,f_t2_TowerError,f_t3_TowerError,f_xo_Lack,f_xk_Lack,f_xe1_Lack,f_xe2_Lack,f_xe3_Lack,f_xe4_Lack,f_xe5_Lack,f_xe6_Lack,f_xe7_Lack,f_xe8_Lack,f_xs_Lack,f_xr_Lack,f_xv_Lack,f_xn_Lack_wants,f_xn_Lack_flags,N z_range,N z_min,N z_str,N z_len,N z_zip,N z_enumerate,N z_isinstance,N z_list,N z_int,N z_sum,N z_sorted,N z_bool,N z_set,N z_dict,⟨_,M g_SUBSTITUTES⟩,⟨_,M g_FLAGS⟩⟩
 have F_0:=bV (st:=bZ) l_0 c_0 k_0
 have b_0:=F_0.binds (ps:=["_law_word_here", "_law_place"]) (by walk_at "bd")
 have F_1:=bV (st:=eS) l_1 c_1 k_1
 have b_1:=F_1.binds (ps:=["_law_number", "_law_words"]) (by walk_at "bd")
 have F_2:=bV (st:=dS) l_2 c_2 k_2
 have b_2:=F_2.binds (ps:=["_law_cell", "_law_k"]) (by walk_at "bd")
 have F_3:=bV (st:=dU) l_3 c_3 k_3
 have b_3:=F_3.binds (ps:=["_law_locker", "_law_words", "_law_hoists"]) (by walk_at "bd")
 have F_4:=bV (st:=eR) l_4 c_4 k_4
 have b_4:=F_4.binds (ps:=["_law_number", "_law_most"]) (by walk_at "bd")
 have F_5:=bV (st:=cT) l_5 c_5 k_5
 have b_5:=F_5.binds (ps:=["_law_script", "_law_k"]) (by walk_at "bd")
 have F_6:=bV (st:=cR) l_6 c_6 k_6
 have b_6:=F_6.binds (ps:=["words"]) (by walk_at "bd")
 have F_7:=bV (st:=bS) l_7 c_7 k_7
 have b_7:=F_7.binds (ps:=["word", "place"]) (by walk_at "bd")
 have F_8:=bV (st:=cD) l_8 c_8 k_8
 have b_8:=F_8.binds (ps:=["words"]) (by walk_at "bd")
 have F_9:=bV (st:=bQ) l_9 c_9 k_9
 have b_9:=F_9.binds (ps:=["locker"]) (by walk_at "bd")
 have F_10:=bV (st:=cW) l_10 c_10 k_10
 have b_10:=F_10.binds (ps:=["words", "flags"]) (by walk_at "bd")
 have F_11:=bV (st:=bT) l_11 c_11 k_11
 have b_11:=F_11.binds (ps:=["first", "choices", "hung"]) (by walk_at "bd")
 have F_12:=bV (st:=cF) l_12 c_12 k_12
 have b_12:=F_12.binds (ps:=["flag", "asked", "hung"]) (by walk_at "bd")
 have F_13:=bV (st:=cU) l_13 c_13 k_13
 have b_13:=F_13.binds (ps:=["self", "wants", "flags"]) (by walk_at "bd")
 have F_14:=bV (st:=bP) l_14 c_14 k_14
 have b_14:=F_14.binds (ps:=["locker", "words"]) (by walk_at "bd")
 have F_15:=bV (st:=dF) l_15 c_15 k_15
 have b_15:=F_15.binds (ps:=["_law_locker", "_law_words", "_law_wants", "_law_flags"]) (by walk_at "bd")
 have F_16:=bV (st:=cS) l_16 c_16 k_16
 have b_16:=F_16.binds (ps:=["_law_locker", "_law_words"]) (by walk_at "bd")
 have F_17:=bV (st:=iH) l_17 c_17 k_17
 refine ⟨PySem.W.fnOf "law" "law" (bC iH) (aS iH) (aG iH) .none kV_17 dc_17 pm_17 an_17 cd_17 ct_17,fun s v => .of_eq rfl,fun base _ _ => ?_⟩
 have mk:∀ {k:Nat} {x:Str} {ps:List Str} {sp:Sp} {f:Addr} {fd:FuncData},FnOk l.prog w K mg base CX0 k f fd ps sp → mg x = some (.ref f) → PySem.W.keepIn K (.ref f) = true → Binds K fd ps [] → Cal l.prog w K mg base k x ps sp:=fun a b c d => ⟨_,_,a,b,c,d⟩
 have mkX:∀ {k:Nat} {x:Str} {ps:List Str} {sp:Sp} {f:Addr} {fd:FuncData},FnOk l.prog w K mg base (CXr l.prog w) k f fd ps sp → mg x = some (.ref f) → PySem.W.keepIn K (.ref f) = true → Binds K fd ps [] → aXW l.prog w K mg base k x ps sp:=fun a b c d => ⟨_,_,a,b,c,d⟩
 have m_l_choices:xT l.prog w K mg base 1 "_law_choices" ["_law_word_here", "_law_place"] cE:=⟨f_0,_,mZ F_0 G ,M a_0,k_0,b_0⟩
 have c_l_choices:=mk (qX F_0 G ) (M a_0) k_0 b_0
 have c_l_just:=mk (zL F_1 G c_l_choices) (M a_1) k_1 b_1
 have c_l_mixed:=mk (uT F_2 G ) (M a_2) k_2 b_2
 have c_l_hangs:=mk (uQ F_3 G c_l_choices) (M a_3) k_3 b_3
 have c_l_word:=mk (yB F_4 G ) (M a_4) k_4 b_4
 have c_l_cell_at:=mk (pW F_5 G ) (M a_5) k_5 b_5
 have c_wants_of:=mk (tO F_6 G ) (M a_6) k_6 b_6
 have c_choices_at:=mk (mV F_7 G ) (M a_7) k_7 b_7
 have c_choices_of:=mk (nA F_8 G c_wants_of c_choices_at) (M a_8) k_8 b_8
 have c_plain_locker:=mk (kN F_9 G ) (M a_9) k_9 b_9
 have c_hoists_of:=mk (qC F_10 G ) (M a_10) k_10 b_10
 have c_asked_from:=mk (mS F_11 G ) (M a_11) k_11 b_11
 have c_hang_along:=mk (nE F_12 G ) (M a_12) k_12 b_12
 have c_Lack_init:bQ0 l.prog w K mg base 1 Zy ["self", "wants", "flags"] (fG Zy):=⟨f_13,_,pI F_13 G ,a_13,y_13,b_13⟩
 have c_hang_all:=mkX (rB F_14 G c_choices_of c_plain_locker c_hoists_of c_asked_from c_hang_along c_Lack_init) (M a_14) k_14 b_14
 have m_l_lacks:xT l.prog w K mg base 2 "_law_lacks" ["_law_locker", "_law_words", "_law_wants", "_law_flags"] iF:=⟨f_15,_,rG F_15 G m_l_choices,M a_15,k_15,b_15⟩
 have c_l_refused:=mk (pZ F_16 G c_hang_all m_l_lacks) (M a_16) k_16 b_16
 exact bJT F_17 G c_l_just c_l_mixed c_l_hangs c_l_word c_l_cell_at c_hang_all c_l_refused
theorem walk {l:PySem.W.OpenLaw} {q:Program} {loose:List Str} {XP:(Str → Option Value) → Heap → Prop} {YP:World → Heap → Prop} {d:DefRec} {K:Params → PySem.W.Frag} (hn:l.most = some 63) (hdf:d.params.defaults = [])
   (hY:∀ (w:World) (h:Heap),YP w h → (K w.params).In h)
   (F:∀ (w:World) (mg:Str → Option Value) (fa:Addr) (h:Heap),(K w.params).In h → h.Ns mainGlobals mg → mg d.name = some (.ref fa) →
     ∃ fd:FuncData,(∀ (s:Shared) (u:Value),BindsTo s fd ⟨[u],[]⟩ [("_law_script",u)]) ∧ ∀ base:Heap,(K w.params).In base → base.Ns mainGlobals mg → FnOk l.prog w (K w.params) mg base CX0 5 fa fd ["_law_script"] (pS (K w.params))) :
   PySem.W.WalkO q loose XP YP l.row.toRowW d [] (fun f vs => PySem.call f vs) :=
 L2.aJY (n:=63) (k:=5) (x := "_law_script") (CX:=fun _ => CX0) (sp:=fun w => pS (K w.params)) hn (by decide) hdf ⟨rfl,by decide,by decide⟩ hY F (fun _ _ a ns hl _ hS => ⟨a,ns,rfl,hS,hl,fun _ => rfl⟩) fun _ _ _ _ _ z => z
end Mine
namespace PySem.W.Fast
theorem tw8778944491859358232:True:=⟨⟩
theorem tw1799402875527917572:True:=⟨⟩
theorem tw4490269988270987240:True:=⟨⟩
theorem tw17200665069167124378:True:=⟨⟩
theorem tw16609476992921210362:True:=⟨⟩
theorem tw13863850546276168284:True:=⟨⟩
theorem tw1669245406073395686:True:=⟨⟩
theorem tw3412729797016581182:True:=⟨⟩
theorem tw4713119793056583119:True:=⟨⟩
theorem tw16890668808456221561:True:=⟨⟩
theorem tw15876080424717837500:True:=⟨⟩
theorem tw7434304608721638624:True:=⟨⟩
theorem tw16848844146917806993:True:=⟨⟩
theorem tw13418153902543755968:True:=⟨⟩
theorem tw13001002186455320343:True:=⟨⟩
theorem tw10773284145601278746:True:=⟨⟩
theorem tw3370430329708921993:True:=⟨⟩
theorem tw16754404778517578703:True:=⟨⟩
theorem tw12510816094491888526:True:=⟨⟩
theorem tw16031237703532829418:True:=⟨⟩
theorem tw11240393794877445853:True:=⟨⟩
theorem tw12958295684735355219:True:=⟨⟩
theorem tw4800397593339344788:True:=⟨⟩
theorem tw337592588038102637:True:=⟨⟩
theorem tw1488201119565331791:True:=⟨⟩
theorem tw11053809367656519834:True:=⟨⟩
theorem tw16543740677637228800:True:=⟨⟩
theorem tw5367187659764607211:True:=⟨⟩
theorem tw4189325303066395013:True:=⟨⟩
theorem tw303285932436887734:True:=⟨⟩
theorem tw2326477020483352002:True:=⟨⟩
theorem tw1547220614321411897:True:=⟨⟩
theorem tw12657755250781819958:True:=⟨⟩
theorem tw7360420855024970783:True:=⟨⟩
theorem tw17673668893082669563:True:=⟨⟩
theorem tw2044762830967025924:True:=⟨⟩
theorem tw12988438630086784872:True:=⟨⟩
theorem tw8698379608691232919:True:=⟨⟩
theorem tw18066944719950796936:True:=⟨⟩
theorem tw7024189444031022433:True:=⟨⟩
theorem tw16152354570301314221:True:=⟨⟩
theorem tw3762798656933560213:True:=⟨⟩
theorem tw1250861909416876407:True:=⟨⟩
theorem tw1226929295799221124:True:=⟨⟩
theorem tw6002880297748401010:True:=⟨⟩
theorem tw14632664870873190559:True:=⟨⟩
theorem tw3187821877092092748:True:=⟨⟩
theorem tw558028759049004135:True:=⟨⟩
theorem tw4815756893388902354:True:=⟨⟩
theorem tw5638161711379259551:True:=⟨⟩
theorem tw7667321463154904724:True:=⟨⟩
theorem tw7450011704273220820:True:=⟨⟩
theorem tw11733477074941957999:True:=⟨⟩
theorem tw7154013848406196197:True:=⟨⟩
theorem tw5758282835145178115:True:=⟨⟩
theorem tw17579908603091169037:True:=⟨⟩
theorem tw7454936092523370809:True:=⟨⟩
theorem tw11391085440266214774:True:=⟨⟩
theorem tw11065336619250564929:True:=⟨⟩
theorem tw16552501764959612649:True:=⟨⟩
theorem tw6742720203216004388:True:=⟨⟩
theorem tw13778797645517272679:True:=⟨⟩
theorem tw8830373220890290539:True:=⟨⟩
theorem tw13429742476834653314:True:=⟨⟩
theorem tw5303902203619661500:True:=⟨⟩
theorem tw14942656717296464639:True:=⟨⟩
theorem tw14622355007384866456:True:=⟨⟩
theorem tw5368129539959778836:True:=⟨⟩
theorem tw8627056615713691226:True:=⟨⟩
theorem tw6881065717832605101:True:=⟨⟩
theorem tw2392188072921614650:True:=⟨⟩
theorem tw3163225249126322834:True:=⟨⟩
theorem tw610628790386422432:True:=⟨⟩
theorem tw3949894023212698706:True:=⟨⟩
theorem tw1549674755141096008:True:=⟨⟩
theorem tw7587458899492198672:True:=⟨⟩
theorem tw16632929580146710287:True:=⟨⟩
theorem tw14143415391351067403:True:=⟨⟩
theorem tw11023993311767305295:True:=⟨⟩
theorem tw14959169889997598884:True:=⟨⟩
theorem tw14713958126509066460:True:=⟨⟩
theorem tw732096204967680393:True:=⟨⟩
theorem tw2204278799182006078:True:=⟨⟩
theorem tw15139228400623338311:True:=⟨⟩
theorem tw18274438400055330493:True:=⟨⟩
theorem tw5660535372817974147:True:=⟨⟩
theorem tw10341439077163750573:True:=⟨⟩
theorem tw4476747859159946500:True:=⟨⟩
theorem tw6438558679575478612:True:=⟨⟩
theorem tw12038038149633059625:True:=⟨⟩
theorem tw4387720199584723082:True:=⟨⟩
theorem tw12718740012449060509:True:=⟨⟩
theorem tw8073601127852915746:True:=⟨⟩
theorem tw13568729749318288547:True:=⟨⟩
theorem tw10684991764705580107:True:=⟨⟩
theorem tw14012555335308200802:True:=⟨⟩
theorem tw14308622999656777745:True:=⟨⟩
theorem tw4087297564094488012:True:=⟨⟩
theorem tw12733643118834035540:True:=⟨⟩
theorem tw6884501131451462130:True:=⟨⟩
theorem tw13409715015889378975:True:=⟨⟩
theorem tw3592808173285618043:True:=⟨⟩
theorem tw14071407168225978529:True:=⟨⟩
theorem tw17642938664114305748:True:=⟨⟩
theorem tw8389323942457972831:True:=⟨⟩
theorem tw8118845331244089906:True:=⟨⟩
theorem tw5809910300440624290:True:=⟨⟩
theorem tw11757712575582601156:True:=⟨⟩
theorem tw3461764849106625667:True:=⟨⟩
theorem tw13521312712302513420:True:=⟨⟩
theorem tw7977945138002106356:True:=⟨⟩
theorem tw11637779219297895009:True:=⟨⟩
theorem tw2347893330563139995:True:=⟨⟩
theorem tw9654541304611313892:True:=⟨⟩
theorem tw13220574422509786570:True:=⟨⟩
theorem tw4952630305657412062:True:=⟨⟩
theorem tw1094429771168506935:True:=⟨⟩
theorem tw10617124207986359207:True:=⟨⟩
theorem tw6122225791773605918:True:=⟨⟩
theorem tw1576863838835481187:True:=⟨⟩
theorem tw5149396271702537301:True:=⟨⟩
theorem tw1107450237328590139:True:=⟨⟩
theorem tw14259799911580047270:True:=⟨⟩
theorem tw2695463771255718106:True:=⟨⟩
theorem tw3942991558222667882:True:=⟨⟩
theorem tw675212798710874878:True:=⟨⟩
theorem tw7664560142371990664:True:=⟨⟩
theorem tw2105612139552096985:True:=⟨⟩
theorem tw484157361399226145:True:=⟨⟩
theorem tw6861608563173800987:True:=⟨⟩
theorem tw13343559861407402866:True:=⟨⟩
theorem tw9954371113442532737:True:=⟨⟩
theorem tw997361581452353872:True:=⟨⟩
theorem tw12759516499096118541:True:=⟨⟩
theorem tw8234929283842764910:True:=⟨⟩
theorem tw15667655717238455374:True:=⟨⟩
theorem tw7673744944856576883:True:=⟨⟩
theorem tw2899714188539574199:True:=⟨⟩
theorem tw13207258018363836092:True:=⟨⟩
theorem tw9787042998335885323:True:=⟨⟩
theorem tw16618092844636412183:True:=⟨⟩
theorem tw17248348245325450274:True:=⟨⟩
theorem tw17062914212481511947:True:=⟨⟩
theorem tw8785050804479128039:True:=⟨⟩
theorem tw15216734154676673821:True:=⟨⟩
end PySem.W.Fast
open PySem PySem.W PyProof.Rows
set_option maxRecDepth 100000 in
set_option maxHeartbeats 0 in
theorem PySem.Challenge.cw_flaglocker_k16_just_enough_flags_holds : PySem.Challenge.rw_flaglocker_k16_just_enough_flags.Holds := by
  w_on; o_law; k_head; (case hw => w_witness2)
  k_fill
  refine Mine.walk (l:=PySem.Challenge.rw_flaglocker_k16_just_enough_flags) rfl rfl (fun w h Y => PySem.W.kIn_of Y) ?F
  case F =>
    intro w mg fa h KX G hmg
    refine' Mine.all_mk KX G hmg ?a_0 ?l_0 ?c_0 ?k_0 ?a_1 ?l_1 ?c_1 ?k_1 ?a_2 ?l_2 ?c_2 ?k_2 ?a_3 ?l_3 ?c_3 ?k_3 ?a_4 ?l_4 ?c_4 ?k_4 ?a_5 ?l_5 ?c_5 ?k_5 ?a_6 ?l_6 ?c_6 ?k_6 ?a_7 ?l_7 ?c_7 ?k_7 ?a_8 ?l_8 ?c_8 ?k_8 ?a_9 ?l_9 ?c_9 ?k_9 ?a_10 ?l_10 ?c_10 ?k_10 ?a_11 ?l_11 ?c_11 ?k_11 ?a_12 ?l_12 ?c_12 ?k_12 ?y_13 ?a_13 ?l_13 ?c_13 ?k_13 ?a_14 ?l_14 ?c_14 ?k_14 ?a_15 ?l_15 ?c_15 ?k_15 ?a_16 ?l_16 ?c_16 ?k_16 ?a_17 ?l_17 ?c_17 ?k_17 ?z_range ?z_min ?z_str ?z_len ?z_zip ?z_enumerate ?z_isinstance ?z_list ?z_int ?z_sum ?z_sorted ?z_bool ?z_set ?z_dict ?g_SUBSTITUTES ?g_FLAGS ?q_Lack ?q_TowerError ?f_m_Lack ?f_t1_TowerError ?f_t2_TowerError ?f_t3_TowerError ?f_xo_Lack ?f_xk_Lack ?f_xe1_Lack ?f_xe2_Lack ?f_xe3_Lack ?f_xe4_Lack ?f_xe5_Lack ?f_xe6_Lack ?f_xe7_Lack ?f_xe8_Lack ?f_xs_Lack ?f_xr_Lack ?f_xv_Lack ?f_xn_Lack_wants ?f_xn_Lack_flags
    (case q_Lack | q_TowerError | a_0 | l_0 | c_0 | k_0 | a_1 | l_1 | c_1 | k_1 | a_2 | l_2 | c_2 | k_2 | a_3 | l_3 | c_3 | k_3 | a_4 | l_4 | c_4 | k_4 | a_5 | l_5 | c_5 | k_5 | a_6 | l_6 | c_6 | k_6 | a_7 | l_7 | c_7 | k_7 | a_8 | l_8 | c_8 | k_8 | a_9 | l_9 => k_is)
    (case c_9 | k_9 | a_10 | l_10 | c_10 | k_10 | a_11 | l_11 | c_11 | k_11 | a_12 | l_12 | c_12 | k_12 | a_13 | l_13 | c_13 | k_13 | a_14 | l_14 | c_14 | k_14 | a_15 | l_15 | c_15 | k_15 | a_16 | l_16 | c_16 | k_16 | a_17 | l_17 | c_17 | k_17 | z_range | z_min | z_str | z_len | z_zip | z_enumerate => k_is)
    (case z_isinstance | z_list | z_int | z_sum | z_sorted | z_bool | z_set | z_dict | g_SUBSTITUTES | g_FLAGS => k_is)
    (case f_m_Lack => kts_exm)
    (case f_t1_TowerError | f_t2_TowerError | f_t3_TowerError => k_is)
    (case f_xo_Lack => kernel_rfl!)
    (case f_xk_Lack | f_xe1_Lack | f_xe2_Lack | f_xe3_Lack | f_xe4_Lack | f_xe5_Lack | f_xe6_Lack | f_xe7_Lack | f_xe8_Lack | f_xs_Lack => k_is)
    (case f_xr_Lack => kernel_rfl!)
    (case f_xv_Lack | f_xn_Lack_wants | f_xn_Lack_flags | y_13 => k_is)
