import PyProof.Rows.All
import Wide.All
import OpenK.AllK
import Wide.FinOn
import Lean
import PyProof.EqAt
import PyProof.EqKinds
import PyProof.TupleCall
import PySem.Challenge.RW_flaglocker_k28_too_few_flags
set_option Elab.async false
set_option compiler.extract_closed false
set_option linter.all false
set_option maxRecDepth 100000
abbrev Aa:=@List.getElem?_eq_getElem
abbrev Ab:=@List.length_map
abbrev Ac:=@PySem.wpAny_bind
abbrev Ad:=@List.getD_eq_getElem?_getD
abbrev Ae:=@List.getElem?_eq_some_iff
abbrev Af:=@PySem.Heap.get?_push_of_some
abbrev Ag:=@List.getElem?_map
abbrev Ah:=@Nat.le_refl
abbrev Ai:=@PySem.wpAny_pure
abbrev Aj:=@List.length_append
abbrev Ak:=@List.mem_of_getElem?
abbrev Al:=@List.map_append
abbrev Am:=@Bool.false_ne_true
abbrev An:=@List.mem_cons_of_mem
abbrev Ao:=@PySem.Heap.lt_size
abbrev Ap:=@decide_eq_true
abbrev Aq:=@List.mem_cons_self
abbrev Ar:=@List.map_cons
abbrev As:=@List.getElem?_append_left
abbrev Au:=@decide_eq_false
abbrev Av:=@PySem.Heap.get?_push_size
abbrev Aw:=@List.mem_singleton
abbrev Ax:=@List.getElem?_append_right
abbrev Ay:=@List.length_cons
abbrev Az:=@List.take_add_one
abbrev Ba:=@PySem.PassesOwn.never
abbrev Bb:=@Nat.le_trans
abbrev Bc:=@List.mem_cons
abbrev Bd:=@Nat.lt_of_lt_of_le
abbrev Be:=@Nat.ne_of_lt
abbrev Bf:=@of_decide_eq_true
abbrev Bg:=@List.mem_map
abbrev Bh:=@List.take_of_length_le
abbrev Bi:=@List.mem_append
abbrev Bj:=@decide_eq_true_iff
abbrev Bk:=@List.mem_append_right
abbrev Bl:=@PySem.F.slot_dict_get
abbrev Bm:=@List.size_toArray
abbrev Bo:=@List.length_take
abbrev Bp:=@List.take_length
abbrev Bq:=@PySem.F.plainAttrs_list
abbrev Br:=@Option.some.inj
abbrev Bs:=@PySem.wpAny_holding
abbrev Bt:=@Bool.eq_false_iff
abbrev Bu:=@List.append_nil
abbrev Bv:=@PySem.wpAny_loadPart'
abbrev Bw:=@List.getElem_mem
abbrev Bx:=@of_decide_eq_false
abbrev By:=@List.nodup_cons
abbrev Bz:=@PySem.Heap.get?_update_other
abbrev Ca:=@List.mem_iff_getElem
abbrev Cb:=@PySem.wpAny_mono
abbrev Cc:=@List.mem_range
abbrev Cd:=@List.filterMap_append
abbrev Ce:=@PySem.F.type_dict_get
abbrev Cf:=@List.range_succ
abbrev Cg:=@List.length_range
abbrev Ci:=@Nat.zero_le
abbrev Cj:=@Array.getElem?_eq_some_iff
abbrev Ck:=@List.sum_cons
abbrev Cm:=@List.mem_append_left
abbrev Co:=@List.length_drop
abbrev Cp:=@PySem.F.slot_list_append
abbrev Cq:=@PySem.F.type_list_append
abbrev Cr:=@PyProof.Rows.callWith_type1
abbrev Cs:=@Int.emod_lt_of_pos
abbrev Ct:=@List.mem_filter
abbrev Cu:=@PySem.W.kia_one
abbrev Cv:=@Int.emod_nonneg
abbrev Cw:=@List.map_map
abbrev Cy:=@PySem.mem_of_lookup
abbrev Cz:=@List.map_congr_left
abbrev Da:=@List.length_filterMap_le
abbrev Dc:=@List.filterMap_cons_some
abbrev Dd:=@List.mem_filterMap
abbrev De:=@List.filterMap_nil
abbrev Df:=@congrArg
abbrev Dg:=@PySem.codeAny_call_builtin
abbrev Dh:=@decide_eq_decide
abbrev Di:=@List.countP_cons
abbrev Dj:=@List.getElem?_set_self
abbrev Dk:=@List.nodup_append
abbrev Dm:=@List.filterMap_cons
abbrev Dn:=@List.all_eq_true
abbrev Do:=@List.lookup_cons
abbrev Dp:=@Nat.lt_irrefl
abbrev Dq:=@List.filterMap_cons_none
abbrev Dr:=@PySem.F.slot_list_extend
abbrev Ds:=@PySem.F.type_list_extend
abbrev Dt:=@List.getElem?_set_ne
abbrev Du:=@PySem.wpAny_typeNameOfWhole_keyiter
abbrev Dv:=@Option.map_some
abbrev Dw:=@PySem.F.slot_dict_keyiterator_next
abbrev Dx:=@Array.length_toList
abbrev Dy:=@List.flatMap_append
abbrev Dz:=@Bool.and_eq_true
abbrev Ea:=@PySem.wpAny_call_entry
abbrev Eb:=@PySem.wpAny_Call_Name_kw
abbrev Ec:=@Nat.lt_of_le_of_lt
abbrev Ed:=@PySem.tupleKind_room_in1
abbrev Ee:=@List.take_zero
abbrev Ef:=@Array.getElem?_toList
abbrev Eg:=@PySem.wpAny_passesOwn
abbrev Eh:=@List.length_set
abbrev Ei:=@PySem.codeAny_builtin
abbrev Ej:=@PySem.wpAny_truthy_bool
abbrev Ek:=@PySem.codeAny_mono
abbrev El:=@PySem.wpAny_pyIter_list
abbrev Em:=@PySem.wpAny_field
abbrev En:=@PySem.Around.under_plainId
abbrev Eo:=@List.flatMap_cons
abbrev Ep:=@List.flatten_cons
abbrev Er:=@Option.isSome_iff_exists
abbrev Et:=@beq_eq_false_iff_ne
abbrev Eu:=@List.filter_sublist
abbrev Ew:=@PySem.Heap.size_push
abbrev Ey:=@PySem.wpAny_getItem_str_slice
abbrev Ez:=@Nat.add_sub_cancel_left
abbrev Fa:=@List.filter_cons
abbrev Fb:=@Nat.le_of_lt
abbrev Fc:=@PySem.wpAny_call
abbrev Fd:=@PySem.F.entry_dict_get
abbrev Fe:=@List.filter_append
abbrev Ff:=@List.countP_eq_length_filter
abbrev Fg:=@PySem.wpAny_standAt
abbrev Fh:=@List.getElem?_zipWith
abbrev Fi:=@PySem.wpAny_richCompare_same_room
abbrev Fj:=@PySem.wpAny_loadPart_at
abbrev Fk:=@Array.getD_eq_getD_getElem?
abbrev Fl:=@Int.toNat_natCast
abbrev Fm:=@PySem.Heap.get?_none_of_le
abbrev Fn:=@Int.le_refl
abbrev Fo:=@PySem.F.excBase_ValueError
abbrev Fp:=@List.getElem_inj
abbrev Fq:=@Nat.sub_self
abbrev Fs:=@Array.getElem?_eq_getElem
abbrev Ft:=@List.take_succ_cons
abbrev Fu:=@PySem.Heap.SameBut.update
abbrev Fv:=@Nat.add_le_add_left
abbrev Fw:=@Bool.false_or
abbrev Fx:=@PySem.wpAny_specialOf
abbrev Fy:=@Nat.not_lt_zero
abbrev Fz:=@PySem.W.of_hideAll
abbrev Ga:=@PySem.Code.quiet_builtin
abbrev Gb:=@PySem.Obj.data_mapFields
abbrev Gc:=@List.countP_append
abbrev Gd:=@Nat.ne_of_gt
abbrev Ge:=@List.take_sublist
abbrev Gf:=@Bool.and_false
abbrev Gg:=@PySem.wpAny_newObj_type
abbrev Gh:=@PySem.wpAny_setField
abbrev Gi:=@PySem.call_meetsIn
abbrev Gj:=@List.foldl_append
abbrev Gk:=@List.any_eq_true
abbrev Gm:=@Nat.min_eq_right
abbrev Gp:=@List.mem_flatMap
abbrev Gq:=@List.any_cons
abbrev Gr:=@PySem.wpAny_attempt
abbrev Gu:=@PySem.plainId_quiet
abbrev Gv:=@List.map_nil
namespace L2
open PySem PySem.Spec PyProof.Rows
abbrev Key:=Sum Int Str
def kP:Key->Value->Bool
 | .inl k,v=>Value.isInt k v
 | .inr x,v=>Value.isStrOf x v
def dZY (w:World):Key->Int
 | .inl k=>hashInt k
 | .inr x=>hashStr w x
theorem bR:∀ {k:Key} {v:Value},kP k v=true->(∃ i t,k=Sum.inl i/\v=Value.int i t)\/(∃ x t,k=Sum.inr x/\v=Value.str x t)
 | .inl i,v,h=>by
   obtain ⟨t,e⟩:=Value.isInt_shape (k:=i) (v:=v) h
   exact .inl ⟨i,t,rfl,e⟩
 | .inr x,v,h=>by
   obtain ⟨t,e⟩:=Value.isStrOf_shape (x:=x) (v:=v) h
   exact .inr ⟨x,t,rfl,e⟩
theorem aJP (i:Int) (t:Tok):kP (.inl i) (.int i t)=true:=by simp [kP,Value.isInt]
theorem aZO (x:Str) (t:Tok):kP (.inr x) (.str x t)=true:=by simp [kP,Value.isStrOf]
theorem dQ9 (a b:Int):decide ((Sum.inl a:Key)=Sum.inl b)=(a == b):=by
 by_cases e:a=b
 · subst e; simp
 · have h:¬ (Sum.inl a:Key)=Sum.inl b:=λq=>e (Sum.inl.inj q)
   rw [Au h]
   exact (Et.mpr e).symm
theorem dQY (a b:Str):decide ((Sum.inr a:Key)=Sum.inr b)=decide (a=b):=by
 by_cases e:a=b
 · subst e; simp
 · have h:¬ (Sum.inr a:Key)=Sum.inr b:=λq=>e (Sum.inr.inj q)
   rw [Au h,Au e]
theorem dQV (a:Int) (b:Str):decide ((Sum.inl a:Key)=Sum.inr b)=false:=Au (λq=>nomatch q)
theorem cJ6 (a:Str) (b:Int):decide ((Sum.inr a:Key)=Sum.inl b)=false:=Au (λq=>nomatch q)
def bB (prog:Program) (w:World):PySem.KeyKind prog w Key where
 is:=kP
 hash:=dZY w
 inj:=λv a b ha hb=>by
   rcases bR ha with ⟨i,t,rfl,rfl⟩ | ⟨x,t,rfl,rfl⟩
   · rcases bR hb with ⟨j,u,rfl,e⟩ | ⟨y,u,rfl,e⟩
     · injection e with e1 _; rw [e1]
     · exact nomatch e
   · rcases bR hb with ⟨j,u,rfl,e⟩ | ⟨y,u,rfl,e⟩
     · exact nomatch e
     · injection e with e1 _; rw [e1]
 byValue:=λk v h=>by
   rcases bR h with ⟨i,t,rfl,rfl⟩ | ⟨x,t,rfl,rfl⟩ <;> rfl
 pyHash:=λhv h=>by
   rcases bR hv with ⟨i,t,rfl,rfl⟩ | ⟨x,t,rfl,rfl⟩
   · exact wpAny_pyHash_int h
   · exact wpAny_pyHash_str h
 eqBool:=λhu hv h=>by
   rcases bR hu with ⟨i,t,rfl,rfl⟩ | ⟨x,t,rfl,rfl⟩
   · rcases bR hv with ⟨j,u,rfl,rfl⟩ | ⟨y,u,rfl,rfl⟩
     · rw [dQ9] at h; exact wpAny_eqBool_int h
     · rw [dQV] at h; exact SeqAt.EqAt.int_str i t y u _ _ _ _ h
   · rcases bR hv with ⟨j,u,rfl,rfl⟩ | ⟨y,u,rfl,rfl⟩
     · rw [cJ6] at h; exact SeqAt.EqAt.str_int x t j u _ _ _ _ h
     · rw [dQY] at h; exact wpAny_eqBool_str h
 «strs» := λk x t v h=>by
   rcases bR h with ⟨i,u,rfl,e⟩ | ⟨y,u,rfl,e⟩
   · exact nomatch e
   · injection e with e1 _
     subst e1
     cases v <;> rfl
theorem vP (prog:Program) (w:World) (i:Int) (t:Tok):(bB prog w).is (.inl i) (.int i t)=true:=aJP i t
theorem wQ (prog:Program) (w:World) (x:Str) (t:Tok):(bB prog w).is (.inr x) (.str x t)=true:=aZO x t
end L2
namespace L2
open PySem PySem.Spec PyProof.Rows
inductive V where
 | non | bl (b:Bool) | int (i:Int) | str (x:Str) | byt (b:Array UInt8) | flt (b:UInt64) | ref (a:Addr) | ty (n:String)
 deriving DecidableEq
def RelV:V->Value->Prop
 | .non,u=>u=Value.none
 | .bl b,u=>u=Value.bool b
 | .int i,u=>∃ t,u=Value.int i t
 | .str x,u=>∃ t,u=Value.str x t
 | .byt b,u=>∃ t,u=Value.bytes b t
 | .flt b,u=>∃ t,u=Value.float b t
 | .ref a,u=>u=Value.ref a
 | .ty n,u=>u=Value.type n
abbrev Vals:List V->List Value->Prop:=Paired RelV
theorem Vals.length {xs:List V} {us:List Value} (r:Vals xs us):xs.length=us.length:=Paired.length r
theorem Vals.get:∀ {xs:List V} {us:List Value} {i:Nat} {x:V},Vals xs us->xs[i]?=some x->∃ u,us[i]?=some u/\RelV x u
 | _,_,_,_,.nil,e=>by simp at e
 | _,_,0,_,.cons r _,e=>by simp at e; subst e; exact ⟨_,rfl,r⟩
 | _,_,i + 1,x,.cons _ t,e=>by
   obtain ⟨u,h1,h2⟩:=Vals.get (i:=i) (x:=x) t (by simpa using e)
   exact ⟨u,by simpa using h1,h2⟩
theorem Vals.set {x:V} {u:Value} (r:RelV x u):∀ {xs:List V} {us:List Value} (i:Nat),Vals xs us->Vals (xs.set i x) (us.set i u)
 | _,_,_,.nil=>.nil
 | _,_,0,.cons _ t=>.cons r t
 | _,_,i + 1,.cons q t=>.cons q (Vals.set r i t)
theorem Vals.append:∀ {xs ys:List V} {us ws:List Value},Vals xs us->Vals ys ws->Vals (xs ++ ys) (us ++ ws)
 | _,_,_,_,.nil,s=>s
 | _,_,_,_,.cons r t,s=>.cons r (Vals.append t s)
theorem Vals.take:∀ {xs:List V} {us:List Value} (n:Nat),Vals xs us->Vals (xs.take n) (us.take n)
 | _,_,0,_=>.nil
 | _,_,_ + 1,.nil=>.nil
 | _,_,n + 1,.cons r t=>.cons r (Vals.take n t)
theorem Vals.drop:∀ {xs:List V} {us:List Value} (n:Nat),Vals xs us->Vals (xs.drop n) (us.drop n)
 | _,_,0,r=>r
 | _,_,_ + 1,.nil=>.nil
 | _,_,n + 1,.cons _ t=>Vals.drop n t
theorem Vals.none_of:∀ {xs:List V} {us:List Value} {i:Nat},Vals xs us->xs[i]?=none->us[i]?=none:=fun {xs us i} r e=>by
 have h1:=r.length
 have h2:xs.length<=i:=List.getElem?_eq_none_iff.mp e
 exact List.getElem?_eq_none_iff.mpr (by omega)
def RelO:Option V->Option Value->Prop
 | some v,some u=>RelV v u
 | none,none=>True
 | _,_=>False
def KV {κ:Type}:List (κ × V)->List (κ × Value)->Prop:=Paired λ(p:κ × V) (q:κ × Value)=>p.1=q.1/\RelV p.2 q.2
def kV:Key->V
 | .inl i=>.int i
 | .inr x=>.str x
inductive HO where
   | lst (xs:List V)
   | tup (xs:List V)
   | dK (kvs:List (Key × V)) | dT (kvs:List (List Key × V))
   | set (S:Int->Bool) (n:Nat)
   | ins (C dx:Addr) (fs:List (Str × V))
   | own (x:Addr)
   | xd (fs:List (Str × V))
   | met (f x:Addr)
   | rng (lo hi:Int)
   | frz (o:Obj) (u:HO)
   | tbl (ps:Array Value)
   | ext (φ:Heap->Prop)
abbrev Hp:=Addr->Option HO
def upd (H:Hp) (a:Addr) (o:HO):Hp:=λb=>if b=a then some o else H b
theorem aD {H:Hp} {a:Addr} {o:HO}:upd H a o a=some o:=by unfold upd; rw [if_pos rfl]
theorem aK {H:Hp} {a b:Addr} {o:HO} (h:b≠a):upd H a o b=H b:=by unfold upd; rw [if_neg h]
theorem aX8 {H:Hp} {a:Addr} {o u:HO}:upd (upd H a o) a u=upd H a u:=by
 funext b; unfold upd; split <;> rfl
theorem eQO {H:Hp} {a b:Addr} {o u:HO} (h:H a=some o) (h':H b=some u) (d:o≠u):a≠b:=by
 intro e; subst e; rw [h] at h'; exact d (Br h')
theorem bJ {H:Hp} {a b:Addr} {o:HO} (h:H a=some o) (h':H b=none):a≠b:=by
 intro e; subst e; rw [h] at h'; cases h'
section
variable (P:Program) (w:World)
def ObjOk (H:Hp) (h:Heap) (a:Addr):HO->Prop
 | .lst xs=>xs.length<=sizeLine/\∃ (its:List Value) (n:Nat),Vals xs its/\h.get? a=some { cls:=.type "list",data:=.seq its.toArray n }
 | .tup xs=>xs.length<=sizeLine/\∃ its:List Value,Vals xs its/\IsTup h a its.toArray
 | .dK kvs=>kvs.length<=sizeLine/\(a == sysModules)=false/\∃ vs,KV kvs vs/\h.DictOf (bB P w) a vs
 | .dT kvs=>kvs.length<=sizeLine/\(a == sysModules)=false/\∃ xs:List (List Key × Addr × Value),
     Paired (λ(p:List Key × V) (q:List Key × Addr × Value)=>p.1=q.1/\H q.2.1=some (.tup (p.1.map kV))/\RelV p.2 q.2.2) kvs xs/\
     ∃ o es ep,h.get? a=some o/\o.ExactDict/\o.data=.dict es ep/\es.toList=xs.map (entryOfKey (tupleKind (bB P w)))/\(xs.map (·.1)).Nodup
 | .set S n=>h.SetOf (intKind P w) a S n
 | .ins C dx fs=>H dx=some (.own a)/\fs.length<=1000/\dx≠a/\h.get? a=some (PySem.W.instObj C dx)/\
     ∃ mA,h.Ns1 dx mA/\(∀ f,RelO (fs.lookup f) (mA f))/\PySem.Within mA (fs.map (·.1))
 | .own _=>∃ o,h.get? a=some o
 | .xd fs=>∃ mA,h.Ns1 a mA/\∀ f,RelO (fs.lookup f) (mA f)
 | .rng lo hi=>∃ t u v,h.get? a=some { cls:=.type "range",data:=.fields #[.int lo t,.int hi u,.int 1 v] }
 | .frz o u=>h.get? a=some o/\ObjOk H h a u
 | .tbl ps=>h.get? a=some { cls:=.none,data:=.fields ps }
 | .met f x=>h.get? a=some (PySem.W.methodObj (.ref f) (.ref x))
 | .ext φ=>φ h/\(∃ o,h.get? a=some o)/\∀ h1 h2:Heap,φ h1->(∀ o,h1.get? a=some o->h2.get? a=some o)->φ h2
def HOk (H:Hp) (h:Heap):Prop:=∀ a o,H a=some o->ObjOk P w H h a o
end
section
variable {P:Program} {w:World} {H H':Hp} {h h':Heap} {a:Addr} {o:HO}
theorem ObjOk.lt (x:ObjOk P w H h a o):a < h.objs.size:=by
 cases o with
 | lst xs=>obtain ⟨_,_,_,_,e⟩:=x; exact Ao e
 | tup xs=>obtain ⟨_,_,_,p⟩:=x; exact p.lt
 | dK kvs=>obtain ⟨_,_,_,_,o,_,_,e,_⟩:=x; exact Ao e
 | dT kvs=>obtain ⟨_,_,_,_,o,_,_,e,_⟩:=x; exact Ao e
 | set S n=>obtain ⟨o,_,_,_,e,_⟩:=x; exact Ao e
 | ins C dx fs=>obtain ⟨_,_,_,e,_⟩:=x; exact Ao e
 | own y=>obtain ⟨_,e⟩:=x; exact Ao e
 | xd fs=>obtain ⟨_,⟨_,_,_,e,_⟩,_⟩:=x; exact Ao e
 | rng lo hi=>obtain ⟨_,_,_,e⟩:=x; exact Ao e
 | frz ob u=>obtain ⟨e,_⟩:=x; exact Ao e
 | tbl ps=>exact Ao (show h.get? a=some _ from x)
 | met f y=>exact Ao (show h.get? a=some _ from x)
 | ext φ=>obtain ⟨_,⟨_,e⟩,_⟩:=x; exact Ao e
theorem Paired.mapP {α β:Type} {F G:α->β->Prop}:∀ {l₁:List α} {l₂:List β},Paired F l₁ l₂->(∀ a b,F a b->G a b)->Paired G l₁ l₂
 | _,_,.nil,_=>.nil
 | _,_,.cons r t,f=>.cons (f _ _ r) (Paired.mapP t f)
theorem ObjOk.stay (x:ObjOk P w H h a o) (k:∀ b u,(b=a\/H b=some (.own a))->h.get? b=some u->h'.get? b=some u)
   (ho:∀ b,H b=some (.own a)->H' b=some (.own a)) (ht:∀ b xs,H b=some (.tup xs)->H' b=some (.tup xs)):ObjOk P w H' h' a o:=by
 induction o with
 | lst xs=>obtain ⟨z,its,n,r,e⟩:=x; exact ⟨z,its,n,r,k _ _ (.inl rfl) e⟩
 | tup xs=>obtain ⟨z,its,r,ob,e,c⟩:=x; exact ⟨z,its,r,ob,k _ _ (.inl rfl) e,c⟩
 | dK kvs=>obtain ⟨z,y,vs,r,ob,es,ep,e,c⟩:=x; exact ⟨z,y,vs,r,ob,es,ep,k _ _ (.inl rfl) e,c⟩
 | dT kvs=>
   obtain ⟨z,y,xs,r,ob,es,ep,e,c⟩:=x
   exact ⟨z,y,xs,Paired.mapP r λp q z=>⟨z.1,ht _ _ z.2.1,z.2.2⟩,ob,es,ep,k _ _ (.inl rfl) e,c⟩
 | set S n=>obtain ⟨ob,es,ep,t,e,c⟩:=x; exact ⟨ob,es,ep,t,k _ _ (.inl rfl) e,c⟩
 | ins C dx fs=>
   obtain ⟨d,z,ne,e,mA,⟨od,es,ep,e2,c⟩,r⟩:=x
   exact ⟨ho _ d,z,ne,k _ _ (.inl rfl) e,mA,⟨od,es,ep,k _ _ (.inr d) e2,c⟩,r⟩
 | own y=>obtain ⟨ob,e⟩:=x; exact ⟨ob,k _ _ (.inl rfl) e⟩
 | xd fs=>obtain ⟨mA,⟨od,es,ep,e,c⟩,r⟩:=x; exact ⟨mA,⟨od,es,ep,k _ _ (.inl rfl) e,c⟩,r⟩
 | rng lo hi=>obtain ⟨t,u,v,e⟩:=x; exact ⟨t,u,v,k _ _ (.inl rfl) e⟩
 | frz ob u ih=>obtain ⟨e,q⟩:=x; exact ⟨k _ _ (.inl rfl) e,ih q⟩
 | tbl ps=>
   have e:h.get? a=some { cls:=.none,data:=.fields ps }:=x
   show h'.get? a=some { cls:=.none,data:=.fields ps }
   exact k a _ (.inl rfl) e
 | met f y=>
   have e:h.get? a=some (PySem.W.methodObj (.ref f) (.ref y)):=x
   show h'.get? a=some (PySem.W.methodObj (.ref f) (.ref y))
   exact k a _ (.inl rfl) e
 | ext φ=>obtain ⟨p,⟨o,e⟩,st⟩:=x; exact ⟨st _ _ p λo q=>k _ _ (.inl rfl) q,⟨o,k _ _ (.inl rfl) e⟩,st⟩
theorem HOk.lt (x:HOk P w H h) (e:H a=some o):a < h.objs.size:=(x a o e).lt
theorem HOk.fresh (x:HOk P w H h) (e:h.objs.size<=a):H a=none:=by
 cases q:H a with
 | none=>rfl
 | some u=>exact absurd (Bd (x.lt q) e) (Dp _)
theorem HOk.kept (x:HOk P w H h) (k:∀ b u,h.get? b=some u->h'.get? b=some u):HOk P w H h':=λa o e=>
 (x a o e).stay (λb u _ q=>k b u q) (λ_ q=>q) λ_ _ q=>q
theorem HOk.laid (x:HOk P w H h) (k:∀ b u,h.get? b=some u->h'.get? b=some u) (hp:h.objs.size<=a) (new:ObjOk P w (upd H a o) h' a o):HOk P w (upd H a o) h':=λb u e=>by
 have hn:=x.fresh hp
 by_cases hb:b=a
 · subst hb; rw [aD] at e; cases e; exact new
 · rw [aK hb] at e
   exact (x b u e).stay (λc v _ q=>k c v q) (λc q=>by rw [aK (bJ q hn)]; exact q) λc xs q=>by rw [aK (bJ q hn)]; exact q
end
def Rd (H:Hp) (a:Addr) (u:HO):Prop:=H a=some u\/∃ o,H a=some (.frz o u)
theorem Rd.of {H:Hp} {a:Addr} {u:HO} (h:H a=some u):Rd H a u:=.inl h
theorem Rd.ok {P:Program} {w:World} {H:Hp} {h:Heap} {a:Addr} {u:HO} (r:Rd H a u) (x:HOk P w H h):ObjOk P w H h a u:=by
 rcases r with r | ⟨o,r⟩
 · exact x a u r
 · obtain ⟨_,q⟩:=x a _ r
   exact q
def Mut:Option HO->Prop
 | some (.lst _)=>True
 | some (.dK _)=>True
 | some (.dT _)=>True
 | some (.set _ _)=>True
 | some (.ins _ _ _)=>True
 | some (.ext _)=>True
 | _=>False
section
variable {P:Program} {w:World} {H:Hp} {h h':Heap} {x e:Addr} {o':HO}
theorem HOk.write (ok:HOk P w H h) (mu:Mut (H x)) (he:e=x\/H e=some (.own x)) (k:∀ b u,b≠e->h.get? b=some u->h'.get? b=some u) (heo:∃ u,h'.get? e=some u)
   (new:ObjOk P w (upd H x o') h' x o'):HOk P w (upd H x o') h':=λb u q=>by
 have nown:∀ c y,H c=some (.own y)->c≠x:=λc y r z=>by subst z; rw [r] at mu; exact mu
 have ntup:∀ c xs,H c=some (.tup xs)->c≠x:=λc xs r z=>by subst z; rw [r] at mu; exact mu
 by_cases hb:b=x
 · subst hb; rw [aD] at q; cases q; exact new
 · rw [aK hb] at q
   by_cases hbe:b=e
   · have q':H b=some (.own x):=by
       rcases he with z | z
       · exact absurd (hbe.trans z) hb
       · rw [hbe]; exact z
     rw [q] at q'; cases q'
     obtain ⟨v,hv⟩:=heo
     exact ⟨v,by rw [hbe]; exact hv⟩
   · refine (ok b u q).stay (λc v hc r=>k c v ?_ r) (λc r=>by rw [aK (nown c b r)]; exact r) λc xs r=>by rw [aK (ntup c xs r)]; exact r
     rcases hc with rfl | hc
     · exact hbe
     · rintro rfl
       rcases he with z | z
       · exact nown c b hc z
       · rw [hc] at z; cases z; exact hb rfl
end
structure Un (fs ex:List Addr) (H H':Hp) (h h':Heap):Prop where
 keep:∀ b o,h.get? b=some o->H b=none->b ∉ fs->b ∉ ex->h'.get? b=some o
 slot:∀ b o,h.get? b=some o->H b=none->b ∈ fs->b ∉ ex->∃ sl,h'.get? b=some { o with slots:=sl }
 free:∀ b o,h.get? b=some o->H b=none->b ∉ ex->H' b=none
 there:∀ b o,h.get? b=some o->b ∉ ex->∃ o',h'.get? b=some o'
 tups:∀ b xs,H b=some (.tup xs)->H' b=some (.tup xs)
 frzs:∀ b o u,H b=some (.frz o u)->H' b=some (.frz o u)
 tbls:∀ b ps,H b=some (.tbl ps)->∃ more,H' b=some (.tbl (ps ++ more))
section
variable {fs fs' ex ex':List Addr} {H H1 H2:Hp} {h h1 h2 h':Heap} {a x e:Addr} {o:HO}
theorem Un.any (u:Un fs ex H H1 h h1) {b:Addr} {ob:Obj} (q:h.get? b=some ob) (n:H b=none) (hx:b ∉ ex):∃ sl,h1.get? b=some { ob with slots:=sl }:=by
 by_cases hb:b∈fs
 · exact u.slot b ob q n hb hx
 · exact ⟨ob.slots,u.keep b ob q n hb hx⟩
theorem Un.trans (a:Un fs ex H H1 h h1) (b:Un fs ex H1 H2 h1 h2):Un fs ex H H2 h h2 where
 keep:=λc ob q n hc hx=>b.keep c ob (a.keep c ob q n hc hx) (a.free c ob q n hx) hc hx
 slot:=λc ob q n hc hx=>by
   obtain ⟨sl,e1⟩:=a.slot c ob q n hc hx
   obtain ⟨sl',e2⟩:=b.slot c _ e1 (a.free c ob q n hx) hc hx
   exact ⟨sl',e2⟩
 free:=λc ob q n hx=>by
   obtain ⟨o',e1⟩:=a.there c ob q hx
   exact b.free c o' e1 (a.free c ob q n hx) hx
 there:=λc ob q hx=>by
   obtain ⟨o',e1⟩:=a.there c ob q hx
   exact b.there c o' e1 hx
 tups:=λc xs q=>b.tups c xs (a.tups c xs q)
 frzs:=λc ob xs q=>b.frzs c ob xs (a.frzs c ob xs q)
 tbls:=λc ps q=>by
   obtain ⟨m1,e1⟩:=a.tbls c ps q
   obtain ⟨m2,e2⟩:=b.tbls c _ e1
   exact ⟨m1 ++ m2,by rw [e2,Array.append_assoc]⟩
theorem Un.kept (k:∀ b u,h.get? b=some u->h'.get? b=some u):Un fs ex H H h h' :=
 ⟨λb ob q _ _ _=>k b ob q,λb ob q _ _ _=>⟨ob.slots,k b ob q⟩,λ_ _ _ n _=>n,λb ob q _=>⟨ob,k b ob q⟩,λ_ _ q=>q,λ_ _ _ q=>q,λ_ ps q=>⟨#[],by rw [q]; simp⟩⟩
theorem Un.refl:Un fs ex H H h h:=Un.kept λ_ _ q=>q
theorem Un.laid (k:∀ b u,h.get? b=some u->h'.get? b=some u) (hp:h.objs.size<=a) (hn:H a=none):Un fs ex H (upd H a o) h h' where
 keep:=λb u q _ _ _=>k b u q
 slot:=λb u q _ _ _=>⟨u.slots,k b u q⟩
 free:=λb u q n _=>by rw [aK (Be (Bd (Ao q) hp))]; exact n
 there:=λb u q _=>⟨u,k b u q⟩
 tups:=λb xs q=>by rw [aK (bJ q hn)]; exact q
 frzs:=λb u xs q=>by rw [aK (bJ q hn)]; exact q
 tbls:=λb ps q=>⟨#[],by rw [aK (bJ q hn),q]; simp⟩
theorem Un.write (mu:Mut (H x)) (he:e=x\/H e=some (.own x)) (k:∀ b u,b≠e->h.get? b=some u->h'.get? b=some u) (heo:∃ u,h'.get? e=some u):Un fs ex H (upd H x o) h h':=by
 have hx:∀ b,H b=none->b≠x:=λb n z=>by subst z; rw [n] at mu; exact mu
 have hb:∀ b,H b=none->b≠e:=λb n z=>by
   subst z
   rcases he with r | r
   · exact hx b n r
   · rw [n] at r; cases r
 have hm:∀ b u,H b=some u->¬ Mut (some u)->b≠x:=λb u q nm z=>by subst z; rw [q] at mu; exact nm mu
 refine ⟨λb u q n _ _=>k b u (hb b n) q,λb u q n _ _=>⟨u.slots,k b u (hb b n) q⟩,λb u q n _=>by rw [aK (hx b n)]; exact n,λb u q _=>?_,
   λb xs q=>by rw [aK (hm b _ q λz=>z)]; exact q,λb u xs q=>by rw [aK (hm b _ q λz=>z)]; exact q,λb ps q=>⟨#[],by rw [aK (hm b _ q λz=>z),q]; simp⟩⟩
 by_cases hbe:b=e
 · subst hbe; exact heo
 · exact ⟨u,k b u hbe q⟩
theorem Un.mono (u:Un fs ex H H1 h h1) (hs:∀ b∈fs,b∈fs') (hx:∀ b∈ex,b∈ex'):Un fs' ex' H H1 h h1 :=
 ⟨λb ob q n hb he=>u.keep b ob q n (λz=>hb (hs b z)) λz=>he (hx b z),λ_ _ q n _ he=>u.any q n λz=>he (hx _ z),λb ob q n he=>u.free b ob q n λz=>he (hx b z),λb ob q he=>u.there b ob q λz=>he (hx b z),u.tups,u.frzs,u.tbls⟩
end
def trk (h:Heap) (H:Hp):List Addr:=(List.range h.objs.size).filter λa=>(H a).isSome
def tR (h:Heap) (H:Hp):Heap:=PySem.W.hideAll h (trk h H)
theorem aZ2 (h:Heap) (H:Hp):(tR h H).objs.size=h.objs.size:=PySem.W.hideAll_size _ _
theorem bJX {h:Heap} {H:Hp} {b:Addr} {o:Obj} (e:h.get? b=some o) (n:H b=none):(tR h H).get? b=some o :=
 PySem.W.hideAll_get _ e λhm=>by
   have q:(H b).isSome=true:=(Ct.mp hm).2
   rw [n] at q; simp at q
theorem cQ5 {h:Heap} {H:Hp} {b:Addr} {o:Obj} (e:(tR h H).get? b=some o):h.get? b=some o/\H b=none:=by
 have e':h.get? b=some o:=Fz (trk h H) e
 refine ⟨e',?_⟩
 cases q:H b with
 | none=>rfl
 | some x=>
   have hm:b∈trk h H:=List.mem_filter.mpr ⟨List.mem_range.mpr (Heap.lt_size e'),by simp [q]⟩
   have z:(tR h H).get? b=none:=PySem.W.hideAll_none (trk h H) hm
   rw [z] at e; cases e
def bJ9 (g h:Heap) (L:Addr):List (Addr × Obj):=(List.range h.objs.size).filterMap λa=>if a=L\/(g.get? a).isSome=true then none else (h.get? a).map λo=>(a,o)
def rest (g h:Heap) (L d:Addr):List (Addr × Obj):=(bJ9 g h L).filter λp=>decide (p.1≠d)
end L2
namespace L2
open PySem PySem.Spec PyProof.Rows
structure Mod (K:PySem.W.Frag) (mg:Str->Option Value) (base:Heap):Prop where
 kin:K.In base
 glob:base.Ns mainGlobals mg
 blt:∃ mb,base.Ns builtinsNs mb/\∀ x:Str,x≠"__name__"->mb x=bootBuiltins x
 nolimit:base.NoLimit
structure Cx where
 prog:Program
 w:World
 K:PySem.W.Frag
 mg:Str->Option Value
 base:Heap
 A:Around
 N:List Str
 s₀:Shared
 H₀:Hp
 env:Env
 outer:List Env
 stack:List Env
 ex:List Addr
 fn:Str->Bool
 calm:Bool
 pn:List (Addr × Obj)
 xe:Value->Shared->Prop
def frs (l:List Env):List Addr:=l.filterMap (·.frame)
abbrev Cx.fs (X:Cx):List Addr:=frs X.outer
def Vis (sc:Scope) (x:Str):Prop:=sc.names.lookup x=some .local\/sc.names.lookup x=some .cell\/sc.names.lookup x=some .free
def Loc (sc:Scope) (x:Str):Prop:=sc.names.lookup x=some .local\/sc.names.lookup x=some .cell
def eXF (env:Env) (h:Heap) (m:Str->Option Value) (x:Str) (u:Value):Prop :=
 (env.kindOf x=some .local/\m x=some u)\/((env.kindOf x=some .cell\/env.kindOf x=some .free)/\∃ c,env.cells.lookup x=some c/\h.IsCell c (some u))
structure Cx.Ok (X:Cx):Prop where
 mod:Mod X.K X.mg X.base
 kind:X.env.scope.kind=.function
 glob:X.env.globals=mainGlobals
 blt:X.env.builtins=builtinsNs
 above:X.s₀.heap.objs.size<=X.env.locals
 inj:∀ x y c,X.env.cells.lookup x=some c->X.env.cells.lookup y=some c->x=y
 has:∀ x,(X.env.kindOf x=some .cell\/X.env.kindOf x=some .free)->∃ c,X.env.cells.lookup x=some c
 cab:∀ x c,X.fn x=true->X.env.cells.lookup x=some c->X.s₀.heap.objs.size<=c
 hd:X.calm=true->X.A.handled=none
 frames:X.A.frames=some X.stack
 stk:X.stack=X.outer\/(X.stack=X.env :: X.outer/\X.env.frame=some X.env.locals)
 exf:∀ b∈X.ex,b≠X.env.locals/\∀ x c,X.env.cells.lookup x=some c->c≠b
 bs:∀ b o,X.base.get? b=some o->X.s₀.heap.get? b=some o/\X.H₀ b=none
 bsz:X.base.objs.size<=X.s₀.heap.objs.size
 noex:∀ b o,X.base.get? b=some o->b ∉ X.ex
 exfs:∀ b ∈ X.ex,b ∉ X.fs
 funs:X.s₀.heap.FunFrames X.base X.outer
 frf:∀ b∈X.fs,X.H₀ b=none
structure Inv (X:Cx) (pins:List (Addr × Obj)) (σ:List (Option V)) (H:Hp) (s:Shared):Prop where
 ok:X.Ok
 os:s.os=X.s₀.os
 bare:AllBare s.gens
 base:Un X.fs X.ex X.H₀ H X.s₀.heap s.heap
 loc:∃ m,s.heap.Ns X.env.locals m/\∀ (i:Nat) (x:Str) (v:V),X.N[i]?=some x->σ[i]?=some (some v)->Vis X.env.scope x->∃ u,RelV v u/\eXF X.env s.heap m x u
 cell:∀ x c,X.env.cells.lookup x=some c->∃ v,s.heap.IsCell c v
 free:H X.env.locals=none
 freeC:∀ x c,X.env.cells.lookup x=some c->H c=none
 pin:∀ p ∈ X.pn ++ pins,s.heap.get? p.1=some p.2/\H p.1=none/\p.1≠X.env.locals/\p.1 ∉ X.fs/\∀ v,p.2.data≠.cell v
 hok:HOk X.prog X.w H s.heap
 len:σ.length=X.N.length
section
variable {X:Cx} {pins:List (Addr × Obj)} {σ:List (Option V)} {H H':Hp} {s:Shared} {h':Heap}
theorem Cx.Ok.nofr (ok:X.Ok) {b:Addr} {o:Obj} (e:X.base.get? b=some o):b ∉ X.fs:=λhb=>by
 have:=(ok.funs.mem hb).1
 rw [e] at this; cases this
theorem Inv.bs (I:Inv X pins σ H s):∀ b o,X.base.get? b=some o->s.heap.get? b=some o/\H b=none:=λb o e=>
 ⟨I.base.keep b o (I.ok.bs b o e).1 (I.ok.bs b o e).2 (I.ok.nofr e) (I.ok.noex b o e),I.base.free b o (I.ok.bs b o e).1 (I.ok.bs b o e).2 (I.ok.noex b o e)⟩
theorem Inv.bk (I:Inv X pins σ H s):∀ b o,X.base.get? b=some o->s.heap.get? b=some o:=λb o e=>(I.bs b o e).1
theorem Inv.mod (I:Inv X pins σ H s):Mod X.K X.mg X.base:=I.ok.mod
theorem Inv.kIn (I:Inv X pins σ H s):X.K.In s.heap:=I.ok.mod.kin.keeps I.bk
theorem Inv.nolimit (I:Inv X pins σ H s):s.heap.NoLimit:=I.ok.mod.nolimit.keeps I.bk
theorem Inv.fr (I:Inv X pins σ H s):∃ m,Fr X.base X.env.locals s.heap m :=
 let ⟨m,hn,_⟩:=I.loc
 ⟨m,hn,I.bk,Bb I.ok.bsz I.ok.above⟩
theorem Inv.lt (I:Inv X pins σ H s):X.env.locals < s.heap.objs.size:=let ⟨_,hn,_⟩:=I.loc; hn.lt
theorem Inv.sz (I:Inv X pins σ H s):X.s₀.heap.objs.size<=s.heap.objs.size:=Bb I.ok.above (Fb I.lt)
theorem Inv.nofs (I:Inv X pins σ H s) {a:Addr} (h:s.heap.objs.size<=a):a ∉ X.fs:=λhb=>by
 obtain ⟨_,o,ho,_⟩:=I.ok.funs.mem hb
 exact absurd (Bd (Ao ho) (Bb I.sz h)) (Dp _)
theorem Inv.cne (I:Inv X pins σ H s):∀ x c,X.env.cells.lookup x=some c->c≠X.env.locals:=λx c e z=>by
 obtain ⟨v,o,ho,hd⟩:=I.cell x c e
 obtain ⟨m,⟨o',es,ep,ho',hd',_⟩,_⟩:=I.loc
 rw [z,ho'] at ho; cases ho; rw [hd'] at hd; cases hd
theorem Inv.funs (I:Inv X pins σ H s):s.heap.FunFrames X.base X.outer:=by
 have all:∀ (l:List Env),(∀ b∈frs l,b∈X.fs)->X.s₀.heap.FunFrames X.base l->s.heap.FunFrames X.base l:=by
   intro l
   induction l with
   | nil=>intro _ _; trivial
   | cons env r ih=>
     intro hs hl
     obtain ⟨hk,⟨L,o,hf,hn,ho,hd⟩,hr⟩:=hl
     have hL:L∈X.fs:=hs L (by unfold frs; rw [Dm,hf]; exact Aq)
     obtain ⟨sl,e⟩:=I.base.slot L o ho (I.ok.frf L hL) hL λz=>I.ok.exfs L z hL
     exact ⟨hk,⟨L,_,hf,hn,e,hd⟩,ih (λb hb=>hs b (by unfold frs; rw [Dm,hf]; exact An _ hb)) hr⟩
 exact all X.outer (λ_ hb=>hb) I.ok.funs
theorem Inv.stack (I:Inv X pins σ H s):s.heap.FunFrames X.base X.stack:=by
 rcases I.ok.stk with e | ⟨e,hf⟩
 · rw [e]; exact I.funs
 · rw [e]
   obtain ⟨m,hn,_⟩:=I.loc
   refine .cons (by rw [I.ok.kind]; decide) hf hn ?_ I.funs
   exact Fm (Bb I.ok.bsz I.ok.above)
theorem Inv.stkSub (I:Inv X pins σ H s):∀ b∈frs X.stack,b∈X.env.locals :: X.fs:=λb hb=>by
 rcases I.ok.stk with e | ⟨e,hf⟩
 · rw [e] at hb; exact An _ hb
 · rw [e] at hb
   unfold frs at hb
   rw [Dm,hf] at hb
   exact hb
theorem Inv.stkFree (I:Inv X pins σ H s):∀ b∈frs X.stack,H b=none:=λb hb=>by
 rcases Bc.mp (I.stkSub b hb) with e | hb
 · rw [e]; exact I.free
 · obtain ⟨_,o,ho,_⟩:=I.ok.funs.mem hb
   exact I.base.free b o ho (I.ok.frf b hb) λz=>I.ok.exfs b z hb
theorem Inv.step {g':Array GenState} {t':Nat} {d':Drawn} {ch:List Addr} (I:Inv X pins σ H s)
   (hch:∀ b∈ch,(b∈X.ex\/X.s₀.heap.objs.size<=b)/\b≠X.env.locals/\(∀ x c,X.env.cells.lookup x=some c->c≠b)/\∀ p∈X.pn ++ pins,p.1≠b)
   (keep:∀ b o,b≠X.env.locals->b ∉ X.fs->b ∉ ch->s.heap.get? b=some o->H b=none->h'.get? b=some o)
   (slot:∀ b o,b≠X.env.locals->b ∈ X.fs->b ∉ ch->s.heap.get? b=some o->H b=none->∃ sl,h'.get? b=some { o with slots:=sl }) (free:∀ b o,b ∉ ch->s.heap.get? b=some o->H b=none->H' b=none)
   (there:∀ b o,b ∉ ch->s.heap.get? b=some o->∃ o',h'.get? b=some o')
   (tups:∀ b xs,H b=some (.tup xs)->H' b=some (.tup xs)) (frzs:∀ b o u,H b=some (.frz o u)->H' b=some (.frz o u)) (tbls:∀ b ps,H b=some (.tbl ps)->∃ more,H' b=some (.tbl (ps ++ more)))
   (ns:∀ m,s.heap.Ns X.env.locals m->h'.Ns X.env.locals m) (hok:HOk X.prog X.w H' h') (hg:AllBare g') :
   Inv X pins σ H' { s with heap:=h',gens:=g',drawn:=d',toks:=t' }:=by
 have neL:∀ b o,X.s₀.heap.get? b=some o->b≠X.env.locals:=λb o e=>Be (Bd (Ao e) I.ok.above)
 have neC:∀ b o,X.s₀.heap.get? b=some o->b ∉ X.ex->b ∉ ch:=λb o e hx hb=>by
   rcases (hch b hb).1 with z | z
   · exact hx z
   · exact absurd (Bd (Ao e) z) (Dp _)
 have cellK:∀ x c,X.env.cells.lookup x=some c->∀ v,s.heap.IsCell c v->h'.IsCell c v:=λx c e v ⟨o,ho,hd⟩=>by
   have nch:c ∉ ch:=λz=>(hch c z).2.2.1 x c e rfl
   by_cases hc:c∈X.fs
   · obtain ⟨sl,q⟩:=slot c o (I.cne x c e) hc nch ho (I.freeC x c e)
     exact ⟨_,q,hd⟩
   · exact ⟨o,keep c o (I.cne x c e) hc nch ho (I.freeC x c e),hd⟩
 refine ⟨I.ok,I.os,hg,⟨λb o e n hb hx=>?_,λb o e n hb hx=>?_,λb o e n hx=>?_,λb o e hx=>?_,λb xs e=>tups b xs (I.base.tups b xs e),λb o xs e=>frzs b o xs (I.base.frzs b o xs e),λb ps e=>?_⟩,?_,λx c e=>?_,?_,λx c e=>?_,λp hp=>?_,hok,I.len⟩
 · exact keep b o (neL b o e) hb (neC b o e hx) (I.base.keep b o e n hb hx) (I.base.free b o e n hx)
 · obtain ⟨sl,e1⟩:=I.base.slot b o e n hb hx
   obtain ⟨sl',e2⟩:=slot b _ (neL b o e) hb (neC b o e hx) e1 (I.base.free b o e n hx)
   exact ⟨sl',e2⟩
 · obtain ⟨o',e1⟩:=I.base.there b o e hx
   exact free b o' (neC b o e hx) e1 (I.base.free b o e n hx)
 · obtain ⟨o',e1⟩:=I.base.there b o e hx
   exact there b o' (neC b o e hx) e1
 · obtain ⟨m1,e1⟩:=I.base.tbls b ps e
   obtain ⟨m2,e2⟩:=tbls b _ e1
   exact ⟨m1 ++ m2,by rw [e2,Array.append_assoc]⟩
 · obtain ⟨m,hn,hl⟩:=I.loc
   refine ⟨m,ns m hn,λi x v e1 e2 e3=>?_⟩
   obtain ⟨u,r,l⟩:=hl i x v e1 e2 e3
   refine ⟨u,r,?_⟩
   rcases l with l | ⟨k,c,e,z⟩
   · exact .inl l
   · exact .inr ⟨k,c,e,cellK x c e _ z⟩
 · obtain ⟨v,z⟩:=I.cell x c e
   exact ⟨v,cellK x c e v z⟩
 · obtain ⟨m,⟨o,_,_,ho,_⟩,_⟩:=I.loc
   exact free _ o (λz=>(hch _ z).2.1 rfl) ho I.free
 · obtain ⟨v,o,ho,hd⟩:=I.cell x c e
   exact free c o (λz=>(hch c z).2.2.1 x c e rfl) ho (I.freeC x c e)
 · obtain ⟨e,n,ne,nf,d⟩:=I.pin p hp
   have nch:p.1 ∉ ch:=λz=>(hch p.1 z).2.2.2 p hp rfl
   exact ⟨keep p.1 p.2 ne nf nch e n,free p.1 p.2 nch e n,ne,nf,d⟩
theorem Inv.un {t':Nat} (I:Inv X pins σ H s) (u:Un X.fs [] H H' s.heap h') (hok:HOk X.prog X.w H' h'):Inv X pins σ H' { s with heap:=h',toks:=t' }:=by
 obtain ⟨m,⟨o,es,ep,ho,r⟩,_⟩:=id I.loc
 obtain ⟨sl,hL⟩:=u.any ho I.free (by simp)
 exact I.step (g':=s.gens) (d':=s.drawn) (ch:=[]) (λ_ z=>nomatch z) (λb o _ hb _ e n=>u.keep b o e n hb (by simp)) (λb o _ hb _ e n=>u.slot b o e n hb (by simp)) (λb o _ e n=>u.free b o e n (by simp)) (λb o _ e=>u.there b o e (by simp)) u.tups u.frzs u.tbls (λm' hm=>by
   obtain ⟨o',es',ep',ho',r'⟩:=hm
   rw [ho] at ho'; cases ho'
   exact ⟨_,es',ep',hL,r'⟩) hok I.bare
theorem Inv.call {g':Array GenState} {t':Nat} {d':Drawn} {ch:List Addr} (I:Inv X pins σ H s) (u:Un (frs X.stack) ch H H' s.heap h') (hok:HOk X.prog X.w H' h') (hg:AllBare g')
   (hch:∀ b∈ch,(b∈X.ex\/X.s₀.heap.objs.size<=b)/\b≠X.env.locals/\(∀ x c,X.env.cells.lookup x=some c->c≠b)/\∀ p∈X.pn ++ pins,p.1≠b) :
   Inv X pins σ H' { s with heap:=h',gens:=g',drawn:=d',toks:=t' }:=by
 obtain ⟨m,⟨o,es,ep,ho,r⟩,_⟩:=id I.loc
 obtain ⟨sl,hL⟩:=u.any ho I.free λz=>(hch _ z).2.1 rfl
 exact I.step (ch:=ch) hch (λb o hL hb hc e n=>u.keep b o e n (λz=>(Bc.mp (I.stkSub b z)).elim hL hb) hc) (λb o _ _ hc e n=>u.any e n hc) (λb o hc e n=>u.free b o e n hc) (λb o hc e=>u.there b o e hc) u.tups u.frzs u.tbls (λm' hm=>by
   obtain ⟨o',es',ep',ho',r'⟩:=hm
   rw [ho] at ho'; cases ho'
   exact ⟨_,es',ep',hL,r'⟩) hok hg
theorem Inv.turned {t':Nat} {it:Addr} (I:Inv X pins σ H s) (k:∀ b o,b≠it->s.heap.get? b=some o->h'.get? b=some o) (hn:H it=none) (hL:it≠X.env.locals)
   (h1:it∈X.ex\/X.s₀.heap.objs.size<=it) (h2:∀ x c,X.env.cells.lookup x=some c->c≠it) (h3:∀ p∈X.pn ++ pins,p.1≠it):Inv X pins σ H { s with heap:=h',toks:=t' }:=by
 have nit:∀ b u,H b=some u->b≠it:=λb u e z=>by rw [z,hn] at e; cases e
 refine I.step (g':=s.gens) (d':=s.drawn) (ch:=[it]) (λb hb=>?_) (λb o _ _ hc e _=>k b o (λz=>hc (by simp [z])) e) (λb o _ _ hc e _=>⟨o.slots,k b o (λz=>hc (by simp [z])) e⟩) (λ_ _ _ _ n=>n)
   (λb o hc e=>⟨o,k b o (λz=>hc (by simp [z])) e⟩) (λ_ _ e=>e) (λ_ _ _ e=>e) (λb ps e=>⟨#[],by rw [e]; simp⟩) (λm hm=>?_) (λb u e=>?_) I.bare
 · have e:b=it:=by simpa using hb
   subst e
   exact ⟨h1,hL,h2,h3⟩
 · obtain ⟨o,es,ep,ho,r⟩:=hm
   exact ⟨o,es,ep,k _ o (Ne.symm hL) ho,r⟩
 · refine (I.hok b u e).stay (λc v hc q=>k c v ?_ q) (λ_ q=>q) λ_ _ q=>q
   rcases hc with z | z
   · rw [z]; exact nit b u e
   · exact nit c _ z
theorem Inv.tok (I:Inv X pins σ H s) (t:Nat):Inv X pins σ H { s with toks:=t }:=I.un (h':=s.heap) (t':=t) Un.refl I.hok
theorem Inv.kept {t':Nat} (I:Inv X pins σ H s) (k:∀ b u,s.heap.get? b=some u->h'.get? b=some u):Inv X pins σ H { s with heap:=h',toks:=t' }:=I.un (Un.kept k) (I.hok.kept k)
theorem Inv.laid {a:Addr} {o:HO} {t':Nat} (I:Inv X pins σ H s) (k:∀ b u,s.heap.get? b=some u->h'.get? b=some u) (hp:s.heap.objs.size<=a) (new:ObjOk X.prog X.w (upd H a o) h' a o) :
   Inv X pins σ (upd H a o) { s with heap:=h',toks:=t' }:=I.un (Un.laid k hp (I.hok.fresh hp)) (I.hok.laid k hp new)
theorem Inv.write {x e:Addr} {o:HO} {t':Nat} (I:Inv X pins σ H s) (mu:Mut (H x)) (he:e=x\/H e=some (.own x)) (k:∀ b u,b≠e->s.heap.get? b=some u->h'.get? b=some u) (heo:∃ u,h'.get? e=some u)
   (new:ObjOk X.prog X.w (upd H x o) h' x o):Inv X pins σ (upd H x o) { s with heap:=h',toks:=t' }:=I.un (Un.write mu he k heo) (I.hok.write mu he k heo new)
theorem Inv.weak {σ':List (Option V)} (I:Inv X pins σ H s) (hl:σ'.length=σ.length) (w:∀ (i:Nat) v,σ'[i]?=some (some v)->σ[i]?=some (some v)):Inv X pins σ' H s :=
 ⟨I.ok,I.os,I.bare,I.base,let ⟨m,hn,hl'⟩:=I.loc; ⟨m,hn,λi x v e1 e2 e3=>hl' i x v e1 (w i v e2) e3⟩,I.cell,I.free,I.freeC,I.pin,I.hok,hl.trans I.len⟩
theorem Inv.pins_of {pins':List (Addr × Obj)} (I:Inv X pins σ H s) (h:∀ p ∈ pins',s.heap.get? p.1=some p.2/\H p.1=none/\p.1≠X.env.locals/\p.1 ∉ X.fs/\∀ v,p.2.data≠.cell v):Inv X pins' σ H s :=
 ⟨I.ok,I.os,I.bare,I.base,I.loc,I.cell,I.free,I.freeC,λp hp=>(Bi.mp hp).elim (λz=>I.pin p (Cm _ z)) (h p),I.hok,I.len⟩
theorem oZ {N:List Str} (hN:N.Nodup) {i j:Nat} {x:Str} (a:N[i]?=some x) (b:N[j]?=some x):i=j:=by
 obtain ⟨h1,e1⟩:=Ae.mp a
 obtain ⟨h2,e2⟩:=Ae.mp b
 exact (Fp hN).mp (e1.trans e2.symm)
theorem rV {M:Model} {A:Around} {E:Value->Shared->Prop} {i:Nat} {x:Str} {v:V} {u:Value} {Q:Unit->Shared->Prop} (I:Inv X pins σ H s) (hN:X.N.Nodup) (hi:X.N[i]?=some x) (hx:Loc X.env.scope x) (r:RelV v u)
   (h:∀ s',Inv X pins (σ.set i (some v)) H s'->(∃ a,Heap.SameBut a s.heap s'.heap/\(a=X.env.locals\/X.env.cells.lookup x=some a))->Q () s') (hf:X.fn x=true\/X.env.scope.names.lookup x=some .local:=by first | exact .inl rfl | exact .inr rfl | assumption):wpAny M A (storeName X.env x u) Q E s:=by
 obtain ⟨m,hn,hl⟩:=id I.loc
 have hcls:(X.env.scope.kind == .class || (X.env.scope.kind == .module && X.env.locals != X.env.globals))=false:=by rw [I.ok.kind]; rfl
 have hiσ:i < σ.length:=by rw [I.len]; exact (Ae.mp hi).1
 have cne:=I.cne
 have tracked:∀ {a:Addr} {h':Heap},(∃ o,s.heap.get? a=some o/\H a=none)->Heap.SameBut a s.heap h'->HOk X.prog X.w H h':=fun {a h'} ha hs b ob e=>by
   obtain ⟨_,_,hfree⟩:=ha
   refine (I.hok b ob e).stay (λc w' hc q=>(hs.2 c ?_).trans q) (λ_ q=>q) λ_ _ q=>q
   rintro rfl
   rcases hc with rfl | hc
   · rw [hfree] at e; cases e
   · rw [hfree] at hc; cases hc
 rcases hx with hk | hk
 · refine wpAny_storeName_local hk hn (λh' hn' hs=>?_) hcls
   obtain ⟨oL,_,_,hoL,_⟩:=id hn
   refine h _ ⟨I.ok,I.os,I.bare,⟨λb o e n hb hx=>?_,λb o e n hb hx=>?_,I.base.free,λb o e hx=>?_,I.base.tups,I.base.frzs,I.base.tbls⟩,⟨_,hn',λj y v' e1 e2 e3=>?_⟩,λy c e=>?_,I.free,I.freeC,λp hp=>?_,tracked ⟨oL,hoL,I.free⟩ hs,by simpa using I.len⟩ ⟨_,hs,.inl rfl⟩
   · exact (hs.2 b (Be (Bd (Ao e) I.ok.above))).trans (I.base.keep b o e n hb hx)
   · obtain ⟨sl,e1⟩:=I.base.slot b o e n hb hx
     exact ⟨sl,(hs.2 b (Be (Bd (Ao e) I.ok.above))).trans e1⟩
   · obtain ⟨o',e1⟩:=I.base.there b o e hx
     exact ⟨o',(hs.2 b (Be (Bd (Ao e) I.ok.above))).trans e1⟩
   · by_cases hj:j=i
     · subst hj
       rw [hi] at e1; cases e1
       rw [Dj hiσ] at e2
       cases e2
       exact ⟨u,r,.inl ⟨hk,by simp⟩⟩
     · rw [Dt (Ne.symm hj)] at e2
       obtain ⟨u',r',q⟩:=hl j y v' e1 e2 e3
       refine ⟨u',r',?_⟩
       rcases q with ⟨k,e⟩ | ⟨k,c,e,z⟩
       · refine .inl ⟨k,?_⟩
         have:y≠x:=λe=>hj (oZ hN e1 (e ▸ hi))
         simp [this,e]
       · exact .inr ⟨k,c,e,z.sameBut hs (cne y c e)⟩
   · obtain ⟨w',z⟩:=I.cell y c e
     exact ⟨w',z.sameBut hs (cne y c e)⟩
   · obtain ⟨e,n,ne,nf,d⟩:=I.pin p hp
     exact ⟨(hs.2 p.1 ne).trans e,n,ne,nf,d⟩
 · have hfn:X.fn x=true:=by
     rcases hf with z | z
     · exact z
     · rw [z] at hk; cases hk
   obtain ⟨c,hc⟩:=I.ok.has x (.inl hk)
   obtain ⟨w',z⟩:=I.cell x c hc
   refine wpAny_storeName_cell I.ok.kind hk hc z (λh' hc' hs=>?_)
   obtain ⟨oc,hoc,hocd⟩:=id z
   refine h { s with heap:=h' } ⟨I.ok,I.os,I.bare,⟨λb o e n hb hx=>?_,λb o e n hb hx=>?_,I.base.free,λb o e hx=>?_,I.base.tups,I.base.frzs,I.base.tbls⟩,⟨m,hn.sameBut hs (Ne.symm (cne x c hc)),λj y v' e1 e2 e3=>?_⟩,λy c' e=>?_,I.free,I.freeC,λp hp=>?_,tracked ⟨oc,hoc,I.freeC x c hc⟩ hs,by simpa using I.len⟩ ⟨c,hs,.inr hc⟩
   · exact (hs.2 b (Be (Bd (Ao e) (I.ok.cab x c hfn hc)))).trans (I.base.keep b o e n hb hx)
   · obtain ⟨sl,e1⟩:=I.base.slot b o e n hb hx
     exact ⟨sl,(hs.2 b (Be (Bd (Ao e) (I.ok.cab x c hfn hc)))).trans e1⟩
   · obtain ⟨o',e1⟩:=I.base.there b o e hx
     exact ⟨o',(hs.2 b (Be (Bd (Ao e) (I.ok.cab x c hfn hc)))).trans e1⟩
   · by_cases hj:j=i
     · subst hj
       rw [hi] at e1; cases e1
       rw [Dj hiσ] at e2
       cases e2
       exact ⟨u,r,.inr ⟨.inl hk,c,hc,hc'⟩⟩
     · rw [Dt (Ne.symm hj)] at e2
       obtain ⟨u',r',q⟩:=hl j y v' e1 e2 e3
       refine ⟨u',r',?_⟩
       rcases q with q | ⟨k,c',e,z'⟩
       · exact .inl q
       · refine .inr ⟨k,c',e,z'.sameBut hs ?_⟩
         rintro rfl
         exact hj (oZ hN e1 (I.ok.inj _ _ _ e hc ▸ hi))
   · by_cases hcc:c'=c
     · subst hcc; exact ⟨_,hc'⟩
     · obtain ⟨w2,z2⟩:=I.cell y c' e
       exact ⟨w2,z2.sameBut hs hcc⟩
   · obtain ⟨e,n,ne,nf,d⟩:=I.pin p hp
     refine ⟨(hs.2 p.1 ?_).trans e,n,ne,nf,d⟩
     intro q
     rw [q,hoc] at e
     have q':oc=p.2:=Br e
     exact d w' (by rw [<-q']; exact hocd)
theorem pM {M:Model} {A:Around} {E:Value->Shared->Prop} {i:Nat} {x:Str} {v:V} {u:Value} {Q:Unit->Shared->Prop} (I:Inv X pins σ H s) (hN:X.N.Nodup) (hi:X.N[i]?=some x) (hx:Loc X.env.scope x) (r:RelV v u)
   (h:∀ s',Inv X pins (σ.set i (some v)) H s'->Q () s') (hf:X.fn x=true\/X.env.scope.names.lookup x=some .local:=by first | exact .inl rfl | exact .inr rfl | assumption):wpAny M A (storeName X.env x u) Q E s :=
 rV I hN hi hx r (λs' I' _=>h s' I') hf
theorem Inv.call' {s':Shared} {ch:List Addr} (I:Inv X pins σ H s) (ho:s'.os=s.os) (u:Un (frs X.stack) ch H H' s.heap s'.heap) (hok:HOk X.prog X.w H' s'.heap) (hg:AllBare s'.gens)
   (hch:∀ b∈ch,(b∈X.ex\/X.s₀.heap.objs.size<=b)/\b≠X.env.locals/\(∀ x c,X.env.cells.lookup x=some c->c≠b)/\∀ p∈X.pn ++ pins,p.1≠b):Inv X pins σ H' s':=by
 obtain ⟨h',g',d',t',o'⟩:=s'
 have e:o'=s.os:=ho
 subst e
 exact I.call (g':=g') (t':=t') (d':=d') u hok hg hch
end
abbrev XK:=Value->Option Addr->Hp->Prop
abbrev St:=List (Option V)
abbrev VK:=V->Hp->Prop
abbrev TE:=St->Hp->VK->Prop
abbrev TT:=St->Hp->(Bool->Hp->Prop)->Prop
abbrev TA:=St->Hp->(List V->Hp->Prop)->Prop
structure Ends where
 nx:St->Hp->Prop
 rt:VK
 bk:St->Hp->Prop:=λ_ _=>False
 ct:St->Hp->Prop:=λ_ _=>False
abbrev TS:=Ends->St->Hp->Prop
def EP (X:Cx) (pins:List (Addr × Obj)) (σ:St) (Q:VK) (u:Value) (s':Shared):Prop:=∃ v H',Inv X pins σ H' s'/\RelV v u/\Q v H'
def TP (X:Cx) (pins:List (Addr × Obj)) (σ:St) (Q:Bool->Hp->Prop) (b:Bool) (s':Shared):Prop:=∃ H',Inv X pins σ H' s'/\Q b H'
def AP (X:Cx) (pins:List (Addr × Obj)) (σ:St) (Q:List V->Hp->Prop) (us:List Value) (s':Shared):Prop:=∃ vs H',Inv X pins σ H' s'/\Vals vs us/\Q vs H'
def SP (X:Cx) (pins:List (Addr × Obj)) (D:Ends) (f:Flow) (s':Shared):Prop :=
 match f with
 | .next=>∃ σ' H',Inv X pins σ' H' s'/\D.nx σ' H'
 | .brk=>∃ σ' H',Inv X pins σ' H' s'/\D.bk σ' H'
 | .cont=>∃ σ' H',Inv X pins σ' H' s'/\D.ct σ' H'
 | .ret u=>∃ v σ' H',Inv X pins σ' H' s'/\RelV v u/\D.rt v H'
def PE (X:Cx) (e:Expr) (t:TE):Prop :=
 ∀ (pins:List (Addr × Obj)) (s:Shared) (σ:St) (H:Hp) (Q:VK),Inv X pins σ H s->t σ H Q->wpAny (model X.prog X.w) X.A (eval e X.env) (EP X pins σ Q) X.xe s
def PT (X:Cx) (e:Expr) (t:TT):Prop :=
 ∀ (pins:List (Addr × Obj)) (s:Shared) (σ:St) (H:Hp) (Q:Bool->Hp->Prop),Inv X pins σ H s->t σ H Q->wpAny (model X.prog X.w) X.A (isTrue e X.env (eval e X.env)) (TP X pins σ Q) X.xe s
def PW (X:Cx) (e:Expr) (t:TT):Prop :=
 ∀ (whole:Sem Value) (pins:List (Addr × Obj)) (s:Shared) (σ:St) (H:Hp) (Q:Bool->Hp->Prop),Inv X pins σ H s->t σ H Q->wpAny (model X.prog X.w) X.A (isTrue e X.env whole) (TP X pins σ Q) X.xe s
theorem PW.pt {X:Cx} {e:Expr} {t:TT} (h:PW X e t):PT X e t:=h _
def PA (X:Cx) (es:List Expr) (t:TA):Prop :=
 ∀ (pos:Pos) (pins:List (Addr × Obj)) (s:Shared) (σ:St) (H:Hp) (Q:List V->Hp->Prop),Inv X pins σ H s->t σ H Q->wpAny (model X.prog X.w) X.A (spliced (backTo pos (starEach es X.env))) (AP X pins σ Q) X.xe s
def PS (X:Cx) (st:Stmt) (t:TS):Prop :=
 ∀ (pins:List (Addr × Obj)) (s:Shared) (σ:St) (H:Hp) (D:Ends),Inv X pins σ H s->t D σ H->wpAny (model X.prog X.w) X.A (exec st X.env) (SP X pins D) X.xe s
def PSs (X:Cx) (st:List Stmt) (t:TS):Prop :=
 ∀ (pins:List (Addr × Obj)) (s:Shared) (σ:St) (H:Hp) (D:Ends),Inv X pins σ H s->t D σ H->wpAny (model X.prog X.w) X.A (execs st X.env) (SP X pins D) X.xe s
theorem thn {α:Type} {t:Sem α} {Q Q':α->Shared->Prop} {M:Model} {A:Around} {E:Value->Shared->Prop} {s:Shared} (h:wpAny M A t Q E s) (hQ:∀ a s,Q a s->Q' a s):wpAny M A t Q' E s:=Cb h hQ λ_ _ x=>x
end L2
namespace L2
open PySem PySem.Spec PyProof.Rows
section
variable {X:Cx}
theorem bin {a b:Expr} {ta tb:TE} (ha:PE X a ta) (hb:PE X b tb) {pins:List (Addr × Obj)} {s:Shared} {σ:St} {H:Hp} {R:V->V->Hp->Prop} (I:Inv X pins σ H s) (h:ta σ H λx H1=>tb σ H1 λy H2=>R x y H2)
   {α:Type} {Q:α->Shared->Prop} {f:Value->Value->Sem α}
   (hf:∀ v u s2 x y H2,Inv X pins σ H2 s2->RelV x v->RelV y u->R x y H2->wpAny (model X.prog X.w) X.A (f v u) Q X.xe s2) :
   wpAny (model X.prog X.w) X.A (eval a X.env) (λv s₁=>wpAny (model X.prog X.w) X.A (eval b X.env) (λu s₂=>wpAny (model X.prog X.w) X.A (f v u) Q X.xe s₂) X.xe s₁) X.xe s:=by
 refine thn (ha pins s σ H _ I h) λv s1 ⟨x,H1,I1,r1,q1⟩=>?_
 refine thn (hb pins s1 σ H1 _ I1 q1) λu s2 ⟨y,H2,I2,r2,q2⟩=>?_
 exact hf v u s2 x y H2 I2 r1 r2 q2
def eQQ (i:Nat):TE:=λσ H Q=>∃ v,σ[i]?=some (some v)/\Q v H
def tC (v:V):TE:=λ_ H Q=>Q v H
theorem cJZ {i:Nat} {x:Str} {pos:Pos} (hN:X.N[i]?=some x) (hv:Vis X.env.scope x) (hd:(x == ("__debug__" : Str))=false:=by decide) (hcd:(x == ("__classdict__" : Str))=false:=by decide):PE X (.Name x pos) (eQQ i):=by
 intro pins s σ H Q I h
 obtain ⟨v,e,h⟩:=h
 obtain ⟨m,hn,hl⟩:=I.loc
 obtain ⟨u,r,l⟩:=hl i x v hN e hv
 have fin:EP X pins σ Q u s:=⟨v,H,I,r,h⟩
 rcases l with ⟨hk,hm⟩ | ⟨hk,c,hc,hcell⟩
 · exact wpAny_Name (wpAny_loadName_local I.ok.kind hk hn hm fin) hd
 · rcases hk with hk | hk
   · exact wpAny_Name (wpAny_loadName_cell I.ok.kind hk hc hcell fin) hd
   · exact wpAny_Name (wpAny_loadName_free I.ok.kind hk hc hcell fin hcd) hd
theorem aJ {i j pos}:PE X (.Constant (.int i) j pos) (tC (.int i)):=λ_ _ _ H _ I h=>wpAny_Constant_int ⟨.int i,H,I.tok _,⟨_,rfl⟩,h⟩
theorem iH {b j pos}:PE X (.Constant (.bool b) j pos) (tC (.bl b)):=λ_ _ _ H _ I h=>Constant_bool ⟨.bl b,H,I,rfl,h⟩
theorem cV {j pos}:PE X (.Constant .none j pos) (tC .non):=λ_ _ _ H _ I h=>Constant_none ⟨.non,H,I,rfl,h⟩
theorem fM {x j pos}:PE X (.Constant (.str x) j pos) (tC (.str x)):=λ_ _ _ H _ I h=>Calls.Constant_str ⟨.str x,H,I.tok _,⟨_,rfl⟩,h⟩
def Gl (X:Cx) (x:Str):Prop:=X.env.kindOf x=some .globalImplicit
theorem iK {E:Value->Shared->Prop} {pins:List (Addr × Obj)} {s:Shared} {σ:St} {H:Hp} {x:Str} {u:Value} {pos:Pos} {Q:Value->Shared->Prop} (I:Inv X pins σ H s) (hg:Gl X x) (hm:X.mg x=some u) (h:Q u s)
   (hd:(x == ("__debug__" : Str))=false:=by decide):wpAny (model X.prog X.w) X.A (eval (.Name x pos) X.env) Q E s :=
 Calls.Name_function_global I.ok.kind hg (Calls.loadGlobal_global (by rw [I.ok.glob]; exact I.mod.glob.keeps I.bk) hm h) hd
theorem iX {E:Value->Shared->Prop} {pins:List (Addr × Obj)} {s:Shared} {σ:St} {H:Hp} {x:Str} {u:Value} {pos:Pos} {Q:Value->Shared->Prop} (I:Inv X pins σ H s) (hg:Gl X x) (hm:X.mg x=none) (hv:bootBuiltins x=some u) (h:Q u s)
   (hn:x≠"__name__" := by decide) (hd:(x == ("__debug__" : Str))=false:=by decide):wpAny (model X.prog X.w) X.A (eval (.Name x pos) X.env) Q E s:=by
 obtain ⟨mb,h1,h2⟩:=I.mod.blt
 exact Calls.Name_function_global I.ok.kind hg (Calls.loadGlobal_builtin (by rw [I.ok.glob]; exact I.mod.glob.keeps I.bk) hm (by rw [I.ok.blt]; exact h1.keeps I.bk) ((h2 x hn).trans hv) h) hd
theorem vB {x:Str} {v:V} {u:Value} {pos:Pos} (hg:Gl X x) (hm:X.mg x=some u) (r:RelV v u) (hd:(x == ("__debug__" : Str))=false:=by decide):PE X (.Name x pos) (tC v) :=
 λ_ _ _ H _ I h=>iK I hg hm ⟨v,H,I,r,h⟩ hd
theorem cQ7 {x:Str} {v:V} {u:Value} {pos:Pos} (hg:Gl X x) (hm:X.mg x=none) (hv:bootBuiltins x=some u) (r:RelV v u) (hn:x≠"__name__" := by decide) (hd:(x == ("__debug__" : Str))=false:=by decide):PE X (.Name x pos) (tC v) :=
 λ_ _ _ H _ I h=>iX I hg hm hv ⟨v,H,I,r,h⟩ hn hd
variable {a b:Expr} {ta tb:TE} {pos:Pos}
variable {tA tB':TT} {rest:List Expr}
def dZU (t u:TT):TT:=λσ H Q=>t σ H λc H1=>if c=true then u σ H1 Q else Q false H1
def tOr (t u:TT):TT:=λσ H Q=>t σ H λc H1=>if c=true then Q true H1 else u σ H1 Q
def dZE (t:TT):TT:=λσ H Q=>t σ H λc H1=>Q (!c) H1
theorem oQ (ha:PT X a tA):PW X (.BoolOp .And [a] pos) tA:=by
 intro wh pins s σ H Q I h
 refine isTrue_and (thn (ha pins s σ H Q I h) λc s1 e=>?_)
 cases c with
 | true=>exact isTrue_and_nil e
 | false=>exact e
theorem nL (ha:PT X a tA):PW X (.BoolOp .Or [a] pos) tA:=by
 intro wh pins s σ H Q I h
 refine isTrue_or (thn (ha pins s σ H Q I h) λc s1 e=>?_)
 cases c with
 | false=>exact isTrue_or_nil e
 | true=>exact e
theorem tY (ha:PT X a tA) (hb:PW X (.BoolOp .And (b :: rest) pos) tB'):PW X (.BoolOp .And (a :: b :: rest) pos) (dZU tA tB'):=by
 intro wh pins s σ H Q I h
 refine isTrue_and (thn (ha pins s σ H _ I h) λc s1 ⟨H1,I1,q1⟩=>?_)
 cases c with
 | true=>exact hb wh pins s1 σ H1 Q I1 q1
 | false=>exact ⟨H1,I1,q1⟩
theorem lT (ha:PT X a tA) (hb:PW X (.BoolOp .Or (b :: rest) pos) tB'):PW X (.BoolOp .Or (a :: b :: rest) pos) (tOr tA tB'):=by
 intro wh pins s σ H Q I h
 refine isTrue_or (thn (ha pins s σ H _ I h) λc s1 ⟨H1,I1,q1⟩=>?_)
 cases c with
 | true=>exact ⟨H1,I1,q1⟩
 | false=>exact hb wh pins s1 σ H1 Q I1 q1
theorem jV (ha:PT X a tA):PT X (.UnaryOp .Not a pos) (dZE tA):=by
 intro pins s σ H Q I h
 exact isTrue_not (ha pins s σ H (λc H1=>Q (!c) H1) I h)
theorem aQH {op} {t:TE} (h:PE X a t):PE X (.BoolOp op [a] pos) t:=λpins s σ H Q I hw=>BoolOp_one (h pins s σ H Q I hw)
def tIf (t:TT) (ta tb:TE):TE:=λσ H Q=>t σ H λc H1=>if c=true then ta σ H1 Q else tb σ H1 Q
theorem wG {c:Expr} (hc:PT X c tA) (ha:PE X a ta) (hb:PE X b tb):PE X (.IfExp c a b pos) (tIf tA ta tb):=by
 intro pins s σ H Q I h
 refine wpAny_IfExp (thn (hc pins s σ H _ I h) λd s1 ⟨H1,I1,q1⟩=>?_)
 cases d with
 | true=>exact ha pins s1 σ H1 Q I1 q1
 | false=>exact hb pins s1 σ H1 Q I1 q1
end
end L2
namespace L2
open PySem PySem.Spec PyProof.Rows
def SqL (K:PySem.W.Frag) (H:Hp) (a:Addr) (xs:List V):Prop :=
 Rd H a (.lst xs)\/
   ∃ (o:Obj) (its:Array Value) (n:Nat),K.lookup a=some o/\o.cls=.type "list"/\o.dict=none/\o.data=.seq its n/\its.size<=sizeLine/\Vals xs its.toList
def SqT (K:PySem.W.Frag) (H:Hp) (a:Addr) (xs:List V):Prop :=
 Rd H a (.tup xs)\/
   ∃ (o:Obj) (its:Array Value) (n:Nat),K.lookup a=some o/\o.cls=.type "tuple"/\o.data=.seq its n/\its.size<=sizeLine/\Vals xs its.toList
def eXD:Value->Option V
 | .none=>some .non
 | .bool b=>some (.bl b)
 | .int i _=>some (.int i)
 | .str x _=>some (.str x)
 | .bytes b _=>some (.byt b)
 | .float b _=>some (.flt b)
 | .ref a=>some (.ref a)
 | .type n=>some (.ty n)
 | _=>none
theorem RelV.abs {x:V} {u:Value} (r:RelV x u):eXD u=some x:=by
 cases x with
 | non=>cases r; rfl
 | bl _=>cases r; rfl
 | int _=>obtain ⟨t,rfl⟩:=r; rfl
 | str _=>obtain ⟨t,rfl⟩:=r; rfl
 | byt _=>obtain ⟨t,rfl⟩:=r; rfl
 | flt _=>obtain ⟨t,rfl⟩:=r; rfl
 | ref _=>cases r; rfl
 | ty _=>cases r; rfl
theorem RelV.inj {x y:V} {u:Value} (r:RelV x u) (q:RelV y u):x=y:=Br (r.abs.symm.trans q.abs)
theorem Vals.inj:∀ {xs ys:List V} {us:List Value},Vals xs us->Vals ys us->xs=ys
 | _,_,_,.nil,.nil=>rfl
 | _,_,_,.cons r t,.cons r' t'=>by rw [r.inj r',Vals.inj t t']
section
variable {X:Cx} {pins:List (Addr × Obj)} {σ:St} {H:Hp} {s:Shared} {a:Addr} {xs ys:List V}
theorem SqL.of {K:PySem.W.Frag} (h:H a=some (.lst xs)):SqL K H a xs:=.inl (.inl h)
theorem SqT.of {K:PySem.W.Frag} (h:H a=some (.tup xs)):SqT K H a xs:=.inl (.inl h)
theorem Inv.list (I:Inv X pins σ H s) (h:SqL X.K H a xs):∃ its:List Value,Vals xs its/\PlainL s.heap a its.toArray/\xs.length<=sizeLine:=by
 rcases h with h | ⟨o,its,n,hk,hc,hd,hs,hz,r⟩
 · obtain ⟨z,its,n,r,e⟩:=h.ok I.hok
   exact ⟨its,r,⟨_,n,e,rfl,rfl,rfl⟩,z⟩
 · refine ⟨its.toList,r,⟨o,n,I.kIn a o hk,hc,hd,by simpa using hs⟩,?_⟩
   have e:=r.length
   simp only [Array.length_toList] at e
   omega
theorem Inv.tuple (I:Inv X pins σ H s) (h:SqT X.K H a xs):∃ its:List Value,Vals xs its/\IsTup s.heap a its.toArray/\xs.length<=sizeLine:=by
 rcases h with h | ⟨o,its,n,hk,hc,hs,hz,r⟩
 · obtain ⟨z,its,r,p⟩:=h.ok I.hok
   exact ⟨its,r,p,z⟩
 · refine ⟨its.toList,r,⟨o,I.kIn a o hk,hc,n,by simpa using hs⟩,?_⟩
   have e:=r.length
   simp only [Array.length_toList] at e
   omega
theorem Inv.list_inj (I:Inv X pins σ H s) (h:SqL X.K H a xs) (h':SqL X.K H a ys):xs=ys:=by
 obtain ⟨its,r,⟨o,n,e,_,_,d⟩,_⟩:=I.list h
 obtain ⟨its',r',⟨o',n',e',_,_,d'⟩,_⟩:=I.list h'
 rw [e] at e'; cases e'
 rw [d] at d'
 injection d' with d1 _
 have:its=its':=by simpa using congrArg Array.toList d1
 subst this
 exact r.inj r'
end
abbrev Cx.wish (X:Cx) (E:Value->Shared->Prop):Cx:={ X with xe:=E }
abbrev Cx.nox (X:Cx):Cx:=X.wish λ_ _=>False
theorem Cx.Ok.wish {X:Cx} (ok:X.Ok) (E:Value->Shared->Prop):(X.wish E).Ok :=
 ⟨ok.mod,ok.kind,ok.glob,ok.blt,ok.above,ok.inj,ok.has,ok.cab,ok.hd,ok.frames,ok.stk,ok.exf,ok.bs,ok.bsz,ok.noex,ok.exfs,ok.funs,ok.frf⟩
theorem Cx.Ok.unwish {X:Cx} {E:Value->Shared->Prop} (ok:(X.wish E).Ok):X.Ok :=
 ⟨ok.mod,ok.kind,ok.glob,ok.blt,ok.above,ok.inj,ok.has,ok.cab,ok.hd,ok.frames,ok.stk,ok.exf,ok.bs,ok.bsz,ok.noex,ok.exfs,ok.funs,ok.frf⟩
section
variable {X:Cx} {pins:List (Addr × Obj)} {σ:St} {H:Hp} {s:Shared} {E:Value->Shared->Prop}
theorem Inv.wish (I:Inv X pins σ H s) (E:Value->Shared->Prop):Inv (X.wish E) pins σ H s:=⟨I.ok.wish E,I.os,I.bare,I.base,I.loc,I.cell,I.free,I.freeC,I.pin,I.hok,I.len⟩
theorem Inv.unwish (I:Inv (X.wish E) pins σ H s):Inv X pins σ H s:=⟨I.ok.unwish,I.os,I.bare,I.base,I.loc,I.cell,I.free,I.freeC,I.pin,I.hok,I.len⟩
theorem SP.unwish {D:Ends} {f:Flow} {s':Shared} (h:SP (X.wish E) pins D f s'):SP X pins D f s':=by
 cases f with
 | next=>obtain ⟨σ',H',I,q⟩:=h; exact ⟨σ',H',I.unwish,q⟩
 | brk=>obtain ⟨σ',H',I,q⟩:=h; exact ⟨σ',H',I.unwish,q⟩
 | cont=>obtain ⟨σ',H',I,q⟩:=h; exact ⟨σ',H',I.unwish,q⟩
 | ret u=>obtain ⟨v,σ',H',I,r,q⟩:=h; exact ⟨v,σ',H',I.unwish,r,q⟩
theorem PE.nox {e:Expr} {t:TE} (h:PE X.nox e t):PE X e t:=λpins s σ H Q I hw=>
 Cb (h pins s σ H Q (I.wish _) hw) (λ_ _ ⟨v,H',I',r,q⟩=>⟨v,H',I'.unwish,r,q⟩) λ_ _ z=>False.elim z
theorem PT.nox {e:Expr} {t:TT} (h:PT X.nox e t):PT X e t:=λpins s σ H Q I hw=>
 Cb (h pins s σ H Q (I.wish _) hw) (λ_ _ ⟨H',I',q⟩=>⟨H',I'.unwish,q⟩) λ_ _ z=>False.elim z
theorem PSs.nox {st:List Stmt} {t:TS} (h:PSs X.nox st t):PSs X st t:=λpins s σ H D I hw=>
 Cb (h pins s σ H D (I.wish _) hw) (λ_ _ q=>q.unwish) λ_ _ z=>False.elim z
end
section
variable {X:Cx} {st:Stmt} {rest:List Stmt} {t u:TS} {e:Expr} {te:TE} {pos:Pos}
def cZJ:TS:=λD σ H=>D.nx σ H
def dXJ (t u:TS):TS:=λD σ H=>t { D with nx:=u D } σ H
theorem bS:PSs X [] cZJ:=λ_ _ σ H _ I h=>wpAny_execs_nil ⟨σ,H,I,h⟩
theorem aF (h1:PS X st t) (h2:PSs X rest u):PSs X (st :: rest) (dXJ t u):=by
 intro pins s σ H D I h
 refine wpAny_execs_cons (thn (h1 pins s σ H { D with nx:=u D } I h) λf s1 q=>?_)
 cases f with
 | next=>
   obtain ⟨σ',H',I',q⟩:=q
   exact h2 pins s1 σ' H' D I' q
 | ret v=>exact q
 | brk=>exact q
 | cont=>exact q
theorem aI (h1:PS X st t):PSs X [st] t:=by
 intro pins s σ H D I h
 refine wpAny_execs_cons (thn (h1 pins s σ H D I h) λf s1 q=>?_)
 cases f with
 | next=>exact wpAny_execs_nil q
 | ret v=>exact q
 | brk=>exact q
 | cont=>exact q
theorem Inv.quiet {pins:List (Addr × Obj)} {σ:St} {H:Hp} {s:Shared} (I:Inv X pins σ H s):interactive X.env=false:=by simp [interactive,I.ok.kind]
def cZT (te:TE):TS:=λD σ H=>te σ H λ_ H1=>D.nx σ H1
theorem cK (he:PE X e te) (hs:swapsWith e none pos.line X.env=pure false:=by rfl):PS X (.Expr e pos) (cZT te):=by
 intro pins s σ H D I h
 exact wpAny_Expr_any (thn (he pins s σ H _ I h) λv s1 ⟨x,H1,I1,r1,q1⟩=>⟨σ,H1,I1,q1⟩) I.quiet hs
def eQG (te:TE):TS:=λD σ H=>te σ H D.rt
theorem aV (he:PE X e te):PS X (.Return (some e) pos) (eQG te):=by
 intro pins s σ H D I h
 exact wpAny_Return_some (thn (he pins s σ H _ I h) λv s1 ⟨x,H1,I1,r1,q1⟩=>⟨x,σ,H1,I1,r1,q1⟩)
def dZM (c:TT) (t u:TS):TS:=λD σ H=>c σ H λb H1=>if b=true then t D σ H1 else u D σ H1
theorem cT {c:Expr} {a b:List Stmt} {tc:TT} (hc:PT X c tc) (ha:PSs X a t) (hb:PSs X b u):PS X (.If c a b pos) (dZM tc t u):=by
 intro pins s σ H D I h
 refine wpAny_If (thn (hc pins s σ H _ I h) λd s1 ⟨H1,I1,q1⟩=>?_)
 cases d with
 | true=>exact ha pins s1 σ H1 D I1 q1
 | false=>exact hb pins s1 σ H1 D I1 q1
end
abbrev TG:=V->St->Hp->(St->Hp->Prop)->Prop
abbrev TGs:=List V->St->Hp->(St->Hp->Prop)->Prop
def PG (X:Cx) (target:Expr) (t:TG):Prop :=
 ∀ (pins:List (Addr × Obj)) (s:Shared) (σ:St) (H:Hp) (v:V) (u:Value) (Q:St->Hp->Prop),Inv X pins σ H s->RelV v u->t v σ H Q->
   wpAny (model X.prog X.w) X.A (assign target X.env u) (λ_ s'=>∃ σ' H',Inv X pins σ' H' s'/\Q σ' H') X.xe s
def PGs (X:Cx) (ts:List Expr) (t:TGs):Prop :=
 ∀ (pins:List (Addr × Obj)) (s:Shared) (σ:St) (H:Hp) (vs:List V) (us:List Value) (Q:St->Hp->Prop),Inv X pins σ H s->Vals vs us->t vs σ H Q->
   wpAny (model X.prog X.w) X.A (assignInOrder ((assignEach ts X.env).map (·.2)) us) (λ_ s'=>∃ σ' H',Inv X pins σ' H' s'/\Q σ' H') X.xe s
abbrev cQ0:=V->V->V->Hp->(Hp->Prop)->Prop
def dJQ (X:Cx) (t:cQ0):Prop :=
 ∀ (pins:List (Addr × Obj)) (s:Shared) (σ:St) (H:Hp) (o i v:V) (ov iv u:Value) (Q:Hp->Prop),Inv X pins σ H s->RelV o ov->RelV i iv->RelV v u->t o i v H Q->
   wpAny (model X.prog X.w) X.A (setItem ov iv u) (λ_ s'=>∃ H',Inv X pins σ H' s'/\Q H') X.xe s
section
variable {X:Cx} {pos:Pos}
def pE (i:Nat):TG:=λv σ H Q=>Q (σ.set i (some v)) H
theorem aQ {i:Nat} {x:Str} (hN:X.N.Nodup) (hi:X.N[i]?=some x) (hx:Loc X.env.scope x) (hf:X.fn x=true\/X.env.scope.names.lookup x=some .local:=by first | exact .inl rfl | exact .inr rfl | assumption):PG X (.Name x pos) (pE i):=by
 intro pins s σ H v u Q I r h
 exact wpAny_assign_Name (pM I hN hi hx r (λs' I'=>⟨_,H,I',h⟩) hf)
def dQ6:TGs:=λvs σ H Q=>vs=[]/\Q σ H
def aXC (t:TG) (u:TGs):TGs:=λvs σ H Q=>∃ v r,vs=v :: r/\t v σ H λσ' H'=>u r σ' H' Q
theorem tO:PGs X [] dQ6:=by
 intro pins s σ H vs us Q I r h
 obtain ⟨e,h⟩:=h
 subst e
 cases r
 exact assignInOrder_nil ⟨σ,H,I,h⟩
theorem fJ {e:Expr} {es:List Expr} {t:TG} {u:TGs} (h1:PG X e t) (h2:PGs X es u)
   (hs:(assignEach (e :: es) X.env).map (·.2)=assign e X.env :: (assignEach es X.env).map (·.2):=by rfl):PGs X (e :: es) (aXC t u):=by
 intro pins s σ H vs us Q I r h
 obtain ⟨v,vr,e1,h⟩:=h
 subst e1
 cases r with
 | cons r rr=>
   rw [hs]
   refine assignInOrder_cons (thn (h1 pins s σ H _ _ _ I r h) λ_ s1 ⟨σ1,H1,I1,q1⟩=>?_)
   exact h2 pins s1 σ1 H1 _ _ Q I1 rr q1
def dQJ (K:PySem.W.Frag) (n:Nat) (t:TGs):TG:=λv σ H Q=>∃ a xs,v=.ref a/\SqT K H a xs/\xs.length=n/\t xs σ H Q
theorem dQP {es:List Expr} {k:Nat} {t:TGs} {n:Nat} (hc:X.calm=true) (h:PGs X es t)
   (hn:(assignEach es X.env).length=n:=by rfl) (hst:(assignEach es X.env).findIdx? (·.1)=none:=by rfl):PG X (.Tuple es k pos) (dQJ X.K n t):=by
 intro pins s σ H v u Q I r hw
 obtain ⟨a,xs,e1,hq,hl,hw⟩:=hw
 subst e1
 cases r
 obtain ⟨its,rv,ht,hz⟩:=I.tuple hq
 refine assign_Tuple_tuple (I.ok.hd hc) ht (by simp [hn,<-hl,rv.length]) hst λh' hx=>?_
 have I1:Inv X pins σ H { s with heap:=h' }:=I.kept (t':=s.toks) λb o e=>hx b o (Be (Ao e)) e
 exact h pins _ σ H xs _ Q I1 (by simpa using rv) hw
def eQN (to ti:TE) (t:cQ0):TG:=λv σ H Q=>to σ H λo H1=>ti σ H1 λi H2=>t o i v H2 λH3=>Q σ H3
theorem dX3 {o i:Expr} {to ti:TE} {t:cQ0} (ho:PE X o to) (hi:PE X i ti) (hs:dJQ X t)
   (ha:∀ v,assign (.Subscript o i pos) X.env v=(do
     let ov <-holding [v] (eval o X.env)
     let iv <-holding [v,ov] (eval i X.env)
     standAt pos
     holding [v,ov,iv] (setItem ov iv v)
     release [v,ov,iv] []):=by intro _; rfl):PG X (.Subscript o i pos) (eQN to ti t):=by
 intro pins s σ H v u Q I r h
 rw [ha]
 refine Ac (Bs (thn (ho pins s σ H _ I h) λov s1 ⟨x,H1,I1,r1,q1⟩=>?_))
 refine Ac (Bs (thn (hi pins s1 σ H1 _ I1 q1) λiv s2 ⟨y,H2,I2,r2,q2⟩=>?_))
 refine Ac (Fg (Ac (Bs (thn (hs pins s2 σ H2 x y v ov iv u _ I2 r1 r2 r q2) λ_ s3 ⟨H3,I3,q3⟩=>?_))))
 exact wpAny_release ⟨σ,H3,I3,q3⟩
def cZC (te:TE) (g:TG):TS:=λD σ H=>te σ H λx H1=>g x σ H1 D.nx
theorem zK {tg e:Expr} {te:TE} {g:TG} (he:PE X e te) (hg:PG X tg g) (hs:swapsWithSole [tg] e pos.line X.env=pure false:=by rfl) (hw:swappedStores [tg] e X.env=pure none:=by rfl)
   (h1:(assignEach [tg] X.env).map (·.2)=[assign tg X.env]:=by rfl):PS X (.Assign [tg] e pos) (cZC te g):=by
 intro pins s σ H D I h
 refine wpAny_Assign_stores (thn (he pins s σ H _ I h) λv s1 ⟨x,H1,I1,r1,q1⟩=>?_) hs hw
 rw [h1]
 exact thn (hg pins s1 σ H1 x v _ I1 r1 q1) λ_ s2 q=>q
theorem aP {i:Nat} {x:Str} {e:Expr} {te:TE} {pos':Pos} (hN:X.N.Nodup) (hi:X.N[i]?=some x) (hx:Loc X.env.scope x) (he:PE X e te) (hs:swapsWith e (some (.Name x pos')) pos.line X.env=pure false:=by rfl) (hf:X.fn x=true\/X.env.scope.names.lookup x=some .local:=by first | exact .inl rfl | exact .inr rfl | assumption) :
   PS X (.Assign [.Name x pos'] e pos) (cZC te (pE i)):=by
 intro pins s σ H D I h
 refine wpAny_Assign_Name (thn (he pins s σ H _ I h) λv s1 ⟨y,H1,I1,r1,q1⟩=>?_) hs
 exact pM I1 hN hi hx r1 (λs2 I2=>⟨_,H1,I2,q1⟩) hf
end
section
variable {X:Cx} {pos:Pos}
def cJP (c:TT) (tb:TS):TS:=λD σ H=>∃ W:Nat->St->Hp->Prop,(∃ m,W m σ H)/\∀ m σ H,W m σ H->
 c σ H λb H1=>if b=true then ∃ N:St->Hp->Prop,(∀ σ' H',N σ' H'->∃ m',m' < m/\W m' σ' H')/\tb { D with nx:=N,ct:=N,bk:=D.nx } σ H1 else D.nx σ H1
theorem yH {c:Expr} {body:List Stmt} {tc:TT} {tb:TS} (hp:PassesOwn (model X.prog X.w) X.A X.env X.xe) (hc:PT X c tc) (hb:PSs X body tb):PS X (.While c body [] pos) (cJP tc tb):=by
 intro pins s σ H D I h
 obtain ⟨W,⟨m0,w0⟩,turn⟩:=h
 refine wpAny_While (codeAny_whileLoop (λn s'=>∃ σ' H',Inv X pins σ' H' s'/\W n σ' H') ?_ m0 ⟨σ,H,I,w0⟩)
 rintro n s1 ⟨σ1,H1,I1,w1⟩
 refine Eg hp (thn (hc pins s1 σ1 H1 _ I1 (turn n σ1 H1 w1)) λb s2 ⟨H2,I2,q2⟩=>?_)
 cases b with
 | true=>
   obtain ⟨N,hN,q2⟩:=q2
   rw [if_pos rfl]
   refine Eg hp (thn (hb pins s2 σ1 H2 _ I2 q2) λf s3 q3=>?_)
   cases f with
   | next=>
     obtain ⟨σ3,H3,I3,n3⟩:=q3
     obtain ⟨m',hm,w3⟩:=hN σ3 H3 n3
     exact ⟨m',hm,σ3,H3,I3,w3⟩
   | cont=>
     obtain ⟨σ3,H3,I3,n3⟩:=q3
     obtain ⟨m',hm,w3⟩:=hN σ3 H3 n3
     exact ⟨m',hm,σ3,H3,I3,w3⟩
   | brk=>exact q3
   | ret v=>exact q3
 | false=>
   rw [if_neg Am]
   exact wpAny_execs_nil ⟨σ1,H2,I2,q2⟩
end
structure It where
 go:Nat->Hp->Prop
 yld:Nat->Hp->V->Hp->Prop
 stop:Nat->Hp->Prop
def kM (X:Cx) (pins:List (Addr × Obj)) (H:Hp) (b:Addr):Prop :=
 H b=none/\b≠X.env.locals/\b ∉ X.fs/\(b ∈ X.ex\/X.s₀.heap.objs.size<=b)/\(∀ x c,X.env.cells.lookup x=some c->c≠b)/\∀ p ∈ X.pn ++ pins,p.1≠b
theorem Inv.fpOk {X:Cx} {pins:List (Addr × Obj)} {σ:St} {H H':Hp} {s:Shared} {b:Addr} (I:Inv X pins σ H s) (hb:s.heap.objs.size<=b) (hn:H' b=none):kM X pins H' b:=by
 refine ⟨hn,Gd (Bd I.lt hb),I.nofs hb,.inr (Bb I.sz hb),λx c e z=>?_,λp hp z=>?_⟩
 · obtain ⟨v,q⟩:=I.cell x c e
   exact absurd (Bd q.lt (by rw [z]; exact hb)) (Dp _)
 · exact absurd (Bd (Ao (I.pin p hp).1) (by rw [z]; exact hb)) (Dp _)
structure Turn (P:Program) (w:World) (K:PySem.W.Frag) (tg:Expr) (J:It) (fp:List Addr) (it:Addr) (tn:Nat->Heap->Prop):Prop where
 mem:it∈fp
 obj:∀ i h,tn i h->∀ b∈fp,∃ o,h.get? b=some o/\∀ v,o.data≠.cell v
 keep:∀ i h h',tn i h->(∀ b∈fp,∀ o,h.get? b=some o->h'.get? b=some o)->tn i h'
 item:∀ (X:Cx),X.prog=P->X.w=w->X.K=K->X.calm=true->∀ (i:Nat) (pins:List (Addr × Obj)) (s:Shared) (σ:St) (H:Hp) (E:Value->Shared->Prop),Inv X pins σ H s->(∀ b∈fp,kM X pins H b)->tn i s.heap->J.go i H->
   wpAny (model P w) X.A (pyNext (.ref it)) (λr s1=>∃ u,r=some u/\
     wpAny (model P w) X.A (letOwnedTupleGo tg (.ref it) u) (λ_ s2=>∃ x H',Inv X pins σ H' s2/\RelV x u/\J.yld i H x H'/\tn (i + 1) s2.heap/\∀ b∈fp,H' b=none) E s1) E s
 done:∀ (X:Cx),X.prog=P->X.w=w->X.K=K->X.calm=true->∀ (i:Nat) (pins:List (Addr × Obj)) (s:Shared) (σ:St) (H:Hp) (E:Value->Shared->Prop),Inv X pins σ H s->(∀ b∈fp,kM X pins H b)->tn i s.heap->J.stop i H->
   wpAny (model P w) X.A (pyNext (.ref it)) (λr s1=>r=none/\Inv X pins σ H s1) E s
 self:∀ (A:Around) (i:Nat) (s:Shared) (Q:Value->Shared->Prop) (E:Value->Shared->Prop),tn i s.heap->Q (.ref it) s->wpAny (model P w) A (pyIter (.ref it)) Q E s
abbrev TI:=St->Hp->(It->Hp->Prop)->Prop
def PIE (X:Cx) (pins:List (Addr × Obj)) (σ:St) (tg:Expr) (R:It->Hp->Prop) (itv:Value) (s2:Shared):Prop :=
 ∃ (it:Addr) (fp:List Addr) (tn:Nat->Heap->Prop) (J:It) (H':Hp),itv=.ref it/\Inv X pins σ H' s2/\Turn X.prog X.w X.K tg J fp it tn/\tn 0 s2.heap/\(∀ b∈fp,kM X pins H' b)/\R J H'
def PI (X:Cx) (tg iter:Expr) (wi:TI):Prop :=
 ∀ (pins:List (Addr × Obj)) (s:Shared) (σ:St) (H:Hp) (R:It->Hp->Prop),Inv X pins σ H s->wi σ H R->
   wpAny (model X.prog X.w) X.A (eval iter X.env) (λv s1=>wpAny (model X.prog X.w) X.A (pyIter v) (PIE X pins σ tg R) X.xe s1) X.xe s
theorem pW {M:Model} {A:Around} {E:Value->Shared->Prop} {s:Shared} {tg:Expr} {it:Addr} {u:Value} {o:Obj} {n:String} {vs:Array Value} {Q:Unit->Shared->Prop} (ho:s.heap.get? it=some o) (hc:o.cls=.type n) (hd:o.data=.fields vs)
   (hn:["enumerate", "zip", "dict_itemiterator", "dict_reverseitemiterator", "odict_iterator", "itertools.zip_longest", "itertools.pairwise"].contains n=false) (hQ:Q () s):wpAny M A (letOwnedTupleGo tg (.ref it) u) Q E s:=by
 unfold letOwnedTupleGo
 cases tg <;> first
   | exact Ai hQ
   | (cases u <;> first
       | exact Ai hQ
       | (refine Ac (wpAny_load ho ?_)
          rw [hc,hd]
          show wpAny M A (if (["enumerate", "zip", "dict_itemiterator", "dict_reverseitemiterator", "odict_iterator", "itertools.zip_longest", "itertools.pairwise"].contains n && vs[0]? == some (rawInt _))=true then _ else _) Q E s
          rw [if_neg (by intro h; rw [hn,Bool.false_and] at h; cases h)]
          exact Ai hQ))
def Itl (K:PySem.W.Frag) (a:Addr):It :=
 ⟨λi H=>∃ xs x,SqL K H a xs/\xs[i]?=some x,λi H x H'=>H'=H/\∀ xs,SqL K H a xs->xs[i]?=some x,λi H=>∃ xs,SqL K H a xs/\xs.length<=i⟩
def Itr (lo:Int) (n:Nat):It:=⟨λi _=>i < n,λi H x H'=>H'=H/\x=.int (lo + i),λi _=>n<=i⟩
theorem aZ7 {P:Program} {w:World} {K:PySem.W.Frag} {tg:Expr} (a it:Addr):Turn P w K tg (Itl K a) [it] it (λi h=>h.IsListIter it a i) where
 mem:=by simp
 obj:=λi h st b hb=>by
   have e:b=it:=by simpa using hb
   subst e
   obtain ⟨o,e,c,d⟩:=st
   exact ⟨o,e,λv z=>by rw [d] at z; cases z⟩
 keep:=λi h h' st k=>st.at λo e=>k it (by simp) o e
 item:=by
   intro X hP hw hK hc i pins s σ H E I hf st hg
   subst hP hw hK
   obtain ⟨xs,x,hq,hx⟩:=hg
   obtain ⟨its,rv,p,hz⟩:=I.list hq
   obtain ⟨u,hu,ru⟩:=rv.get hx
   obtain ⟨f0,f1,f2,f3,f4,f5⟩:=hf it (by simp)
   refine wpAny_pyNext_list_item st p.isList (x:=u) (by simpa using hu) λh' st' sb=>?_
   have I1:Inv X pins σ H { s with heap:=h' }:=I.turned (t':=s.toks) (λb o hb e=>(sb.2 b hb).trans e) f0 f1 f3 f4 f5
   obtain ⟨o,e,c,d⟩:=id st'
   exact ⟨u,rfl,pW (s:={ s with heap:=h' }) e c d (by decide) ⟨x,H,I1,ru,⟨rfl,λys hy=>by rw [I.list_inj hy hq]; exact hx⟩,st',λb hb=>(hf b hb).1⟩⟩
 done:=by
   intro X hP hw hK hc i pins s σ H E I hf st hg
   subst hP hw hK
   obtain ⟨xs,hq,hx⟩:=hg
   obtain ⟨its,rv,p,hz⟩:=I.list hq
   obtain ⟨f0,f1,f2,f3,f4,f5⟩:=hf it (by simp)
   have hl:=rv.length
   exact wpAny_pyNext_list_end (I.ok.hd hc) st p.isList (by simp; omega) λh' eb=>⟨rfl,I.turned (t':=s.toks) (λb o hb e=>eb b o hb e) f0 f1 f3 f4 f5⟩
 self:=λ_ _ _ _ _ st h=>wpAny_pyIter_listiter st h
theorem yK {P:Program} {w:World} {K:PySem.W.Frag} {tg:Expr} (it:Addr) (lo:Int) (n:Nat):Turn P w K tg (Itr lo n) [it] it (λi h=>IsRangeIter h it (lo + (i:Nat) * 1) ((n:Int) - (i:Nat)) 1) where
 mem:=by simp
 obj:=λi h st b hb=>by
   have e:b=it:=by simpa using hb
   subst e
   exact ⟨_,st,λv z=>by
     have z':Data.fields _=Data.cell v:=z
     cases z'⟩
 keep:=λi h h' st k=>k it (by simp) _ st
 item:=by
   intro X hP hw hK hc i pins s σ H E I hf st hg
   subst hP hw hK
   obtain ⟨f0,f1,f2,f3,f4,f5⟩:=hf it (by simp)
   have W:=Walks.range (prog:=X.prog) (w:=X.w) (I.ok.hd hc) it lo 1 n
   refine W.item i s _ _ hg st λv h' tk hv st' kk=>?_
   obtain ⟨t,rfl⟩:=hv
   have I1:Inv X pins σ H { s with heap:=h',toks:=tk }:=I.turned (λb o hb e=>kk b o (by simpa using hb) e) f0 f1 f3 f4 f5
   refine ⟨_,rfl,pW (s:={ s with heap:=h',toks:=tk }) (n := "range_iterator") st' rfl rfl (by decide) ⟨.int (lo + i),H,I1,⟨t,?_⟩,⟨rfl,rfl⟩,st',λb hb=>(hf b hb).1⟩⟩
   rw [Int.mul_one]
 done:=by
   intro X hP hw hK hc i pins s σ H E I hf st hg
   subst hP hw hK
   obtain ⟨f0,f1,f2,f3,f4,f5⟩:=hf it (by simp)
   exact wpAny_pyNext_range_end (I.ok.hd hc) st (by have:n<=i:=hg; omega) λh' eb=>⟨rfl,I.turned (t':=s.toks) (λb o hb e=>eb b o hb e) f0 f1 f3 f4 f5⟩
 self:=λ_ _ _ _ _ st h=>wpAny_pyIter_rangeiter st h
end L2
namespace L2
open PySem PySem.Spec PyProof.Rows
section
variable {X:Cx} {tg:Expr}
theorem vH {pins:List (Addr × Obj)} {σ:St} {H:Hp} {s:Shared} {R:It->Hp->Prop} {E:Value->Shared->Prop} {lo hi:Int} {t u v:Tok} {tk:Nat} (I:Inv X pins σ H s) (h1:-(2 ^ 62)<=lo) (h2:lo < 2 ^ 62) (h3:-(2 ^ 62)<=hi) (h4:hi < 2 ^ 62)
   (q:R (Itr lo (hi - lo).toNat) H):wpAny (model X.prog X.w) X.A (pyIter (.ref s.heap.objs.size)) (PIE X pins σ tg R) E { s with heap:=s.heap.push { cls:=.type "range",data:=.fields #[.int lo t,.int hi u,.int 1 v] },toks:=tk }:=by
 refine wpAny_pyIter_range (IsRange.new ..) (small_one h1 h2 h3 h4) ?_
 have I1:Inv X pins σ H { s with heap:=s.heap.push { cls:=.type "range",data:=.fields #[.int lo t,.int hi u,.int 1 v] },toks:=tk }:=I.kept λb o e=>Af _ e
 refine ⟨(s.heap.push { cls:=.type "range",data:=.fields #[.int lo t,.int hi u,.int 1 v] }).objs.size,[(s.heap.push { cls:=.type "range",data:=.fields #[.int lo t,.int hi u,.int 1 v] }).objs.size],_,_,H,rfl,
   I1.kept (t':=tk) λb o e=>Af _ e,yK _ lo (hi - lo).toNat,?_,λb hb=>?_,q⟩
 · have e1:lo + ((0:Nat):Int) * 1=lo:=by simp
   have e2:(((hi - lo).toNat:Nat):Int) - ((0:Nat):Int)=Builtin.Range.rangeSize lo hi 1:=by rw [rangeSize_one]; split <;> omega
   show IsRangeIter _ _ (lo + ((0:Nat):Int) * 1) ((((hi - lo).toNat:Nat):Int) - ((0:Nat):Int)) 1
   rw [e1,e2]
   exact Av _ rfl
 · have e:b=(s.heap.push { cls:=.type "range",data:=.fields #[.int lo t,.int hi u,.int 1 v] }).objs.size:=by simpa using hb
   subst e
   exact I1.fpOk (Ah _) (I1.hok.fresh (Ah _))
def eXG (wi:TI) (g:TG) (tb:TS):TS:=λD σ H=>wi σ H λJ H1=>∃ W:Nat->Nat->St->Hp->Prop,(∃ m,W 0 m σ H1)/\∀ i m σ H,W i m σ H->
 (J.stop i H/\D.nx σ H)\/(J.go i H/\∃ N:St->Hp->Prop,(∀ σ' H',N σ' H'->∃ m',m' < m/\W (i + 1) m' σ' H')/\∀ x H',J.yld i H x H'->g x σ H' λσ2 H2=>tb { D with nx:=N,ct:=N,bk:=D.nx } σ2 H2)
def nD (fp:List Addr) (h:Heap):List (Addr × Obj):=fp.filterMap λb=>(h.get? b).map λo=>(b,o)
theorem iO {fp:List Addr} {h:Heap} {b:Addr} {o:Obj} (hb:b∈fp) (e:h.get? b=some o):(b,o)∈nD fp h:=Dd.mpr ⟨b,hb,by rw [e]; rfl⟩
theorem aZC {fp:List Addr} {h:Heap} {p:Addr × Obj} (hp:p∈nD fp h):p.1∈fp/\h.get? p.1=some p.2:=by
 obtain ⟨b,hb,e⟩:=Dd.mp hp
 cases q:h.get? b with
 | none=>rw [q] at e; cases e
 | some o=>
   rw [q] at e
   have e':(b,o)=p:=Br e
   subst e'
   exact ⟨hb,q⟩
theorem Inv.pinned {pins:List (Addr × Obj)} {σ:St} {H:Hp} {s:Shared} {fp:List Addr} (I:Inv X pins σ H s) (hf:∀ b∈fp,kM X pins H b) (ho:∀ b∈fp,∃ o,s.heap.get? b=some o/\∀ v,o.data≠.cell v):Inv X (pins ++ nD fp s.heap) σ H s :=
 I.pins_of λp hp=>(Bi.mp hp).elim (λz=>I.pin p (Bk _ z)) λz=>by
   obtain ⟨hb,e⟩:=aZC z
   obtain ⟨f0,f1,f2,_⟩:=hf p.1 hb
   obtain ⟨o,e',d⟩:=ho p.1 hb
   rw [e] at e'; cases e'
   exact ⟨e,f0,f1,f2,d⟩
theorem Inv.unpinned {pins pl:List (Addr × Obj)} {σ:St} {H:Hp} {s:Shared} (I:Inv X (pins ++ pl) σ H s):Inv X pins σ H s:=I.pins_of λp hp=>I.pin p (Bk _ (Cm _ hp))
theorem cJ7 {iter:Expr} {body:List Stmt} {wi:TI} {g:TG} {tb:TS} {pos:Pos} (hp:PassesOwn (model X.prog X.w) X.A X.env X.xe) (hc:X.calm=true) (hi:PI X tg iter wi) (hg:PG X tg g) (hb:PSs X body tb)
   (hs:∀ x,foldedSetIterable iter X.env x=pure x:=by intro _; rfl):PS X (.For tg iter body [] pos) (eXG wi g tb):=by
 intro pins s σ H D I h
 refine wpAny_For (thn (hi pins s σ H _ I h) λv s1 h1=>thn h1 λitv s2 h2=>?_) hs
 obtain ⟨it,fp,tn,J,H2,e,I2,T,st2,f2,W,⟨m0,w0⟩,turn⟩:=h2
 subst e
 -- what stays true of the iterator's objects through the loop
 have stat:∀ {H':Hp},(∀ b∈fp,H' b=none)->∀ b∈fp,kM X pins H' b:=λhn b hb=>⟨hn b hb,(f2 b hb).2⟩
 refine codeAny_forLoop_any (λn s'=>∃ i σ' H',Inv X pins σ' H' s'/\tn i s'.heap/\(∀ b∈fp,H' b=none)/\W i n σ' H') ?_ m0 ⟨0,σ,H2,I2,st2,λb hb=>(f2 b hb).1,w0⟩
 rintro n s3 ⟨i,σ3,H3,I3,st3,fr3,w3⟩
 rcases turn i n σ3 H3 w3 with ⟨stop,qn⟩ | ⟨go,N,hN,step⟩
 · refine Eg hp (thn (T.done X rfl rfl rfl hc i pins s3 σ3 H3 X.xe I3 (stat fr3) st3 stop) λr s4 ⟨hr,I4⟩=>?_)
   subst hr
   exact wpAny_execs_nil ⟨σ3,H3,I4,qn⟩
 · refine Eg hp (thn (T.item X rfl rfl rfl hc i pins s3 σ3 H3 X.xe I3 (stat fr3) st3 go) λr s4 ⟨u,hr,h4⟩=>?_)
   subst hr
   refine Eg hp (thn h4 λ_ s5 ⟨x,H5,I5,r5,y5,st5,fr5⟩=>?_)
   have I5':=I5.pinned (stat fr5) (T.obj _ _ st5)
   refine Eg hp (thn (hg _ s5 σ3 H5 x u _ I5' r5 (step x H5 y5)) λ_ s6 ⟨σ6,H6,I6,q6⟩=>?_)
   refine Eg hp (thn (hb _ s6 σ6 H6 _ I6 q6) λf s7 q7=>?_)
   have again:∀ {σ7:St} {H7:Hp},Inv X (pins ++ nD fp s5.heap) σ7 H7 s7->N σ7 H7->∃ m,m < n/\∃ i σ' H',Inv X pins σ' H' s7/\tn i s7.heap/\(∀ b∈fp,H' b=none)/\W i m σ' H':=fun {σ7 H7} I7 n7=>by
     obtain ⟨m',hm,w7⟩:=hN σ7 H7 n7
     refine ⟨m',hm,i + 1,σ7,H7,I7.unpinned,T.keep _ _ _ st5 λb hb o e=>(I7.pin (b,o) (Bk _ (Bk _ (iO hb e)))).1,λb hb=>?_,w7⟩
     obtain ⟨o,e,d⟩:=T.obj _ _ st5 b hb
     exact (I7.pin (b,o) (Bk _ (Bk _ (iO hb e)))).2.1
   cases f with
   | next=>obtain ⟨σ7,H7,I7,n7⟩:=q7; exact again I7 n7
   | cont=>obtain ⟨σ7,H7,I7,n7⟩:=q7; exact again I7 n7
   | brk=>obtain ⟨σ7,H7,I7,q7⟩:=q7; exact ⟨σ7,H7,I7.unpinned,q7⟩
   | ret v=>obtain ⟨x7,σ7,H7,I7,r7,q7⟩:=q7; exact ⟨x7,σ7,H7,I7.unpinned,r7,q7⟩
end
theorem bX5 {K:PySem.W.Frag} {a:Addr} {xs:List V} {g:TG} {tb:TS} {D:Ends} {σ:St} {H:Hp} (Pv:Nat->St->Hp->Prop) (h0:Pv 0 σ H) (hl:∀ i σ H,i<=xs.length->Pv i σ H->SqL K H a xs)
   (hs:∀ i x σ H,xs[i]?=some x->Pv i σ H->g x σ H λσ2 H2=>tb { D with nx:=Pv (i + 1),ct:=Pv (i + 1),bk:=D.nx } σ2 H2) (hd:∀ σ H,Pv xs.length σ H->D.nx σ H) :
   ∃ W:Nat->Nat->St->Hp->Prop,(∃ m,W 0 m σ H)/\∀ i m σ H,W i m σ H->
     ((Itl K a).stop i H/\D.nx σ H)\/((Itl K a).go i H/\∃ N:St->Hp->Prop,(∀ σ' H',N σ' H'->∃ m',m' < m/\W (i + 1) m' σ' H')/\∀ x H',(Itl K a).yld i H x H'->g x σ H' λσ2 H2=>tb { D with nx:=N,ct:=N,bk:=D.nx } σ2 H2):=by
 refine ⟨λi m σ H=>m=xs.length - i/\i<=xs.length/\Pv i σ H,⟨xs.length,by simp,Nat.zero_le _,h0⟩,?_⟩
 rintro i m σ H ⟨rfl,hi,p⟩
 have q:=hl i σ H hi p
 by_cases hlt:i < xs.length
 · refine .inr ⟨⟨xs,xs[i],q,by simp [hlt]⟩,Pv (i + 1),λσ' H' p'=>⟨xs.length - (i + 1),by omega,rfl,hlt,p'⟩,λx H' y=>?_⟩
   obtain ⟨e,y⟩:=y
   subst e
   exact hs i x σ _ (y xs q) p
 · have e:i=xs.length:=by omega
   subst e
   exact .inl ⟨⟨xs,q,Ah _⟩,hd σ H p⟩
theorem aZ4 {lo:Int} {n:Nat} {g:TG} {tb:TS} {D:Ends} {σ:St} {H:Hp} (Pv:Nat->St->Hp->Prop) (h0:Pv 0 σ H)
   (hs:∀ i σ H,i < n->Pv i σ H->g (.int (lo + i)) σ H λσ2 H2=>tb { D with nx:=Pv (i + 1),ct:=Pv (i + 1),bk:=D.nx } σ2 H2) (hd:∀ σ H,Pv n σ H->D.nx σ H) :
   ∃ W:Nat->Nat->St->Hp->Prop,(∃ m,W 0 m σ H)/\∀ i m σ H,W i m σ H->
     ((Itr lo n).stop i H/\D.nx σ H)\/((Itr lo n).go i H/\∃ N:St->Hp->Prop,(∀ σ' H',N σ' H'->∃ m',m' < m/\W (i + 1) m' σ' H')/\∀ x H',(Itr lo n).yld i H x H'->g x σ H' λσ2 H2=>tb { D with nx:=N,ct:=N,bk:=D.nx } σ2 H2):=by
 refine ⟨λi m σ H=>m=n - i/\i<=n/\Pv i σ H,⟨n,by simp,Nat.zero_le _,h0⟩,?_⟩
 rintro i m σ H ⟨rfl,hi,p⟩
 by_cases hlt:i < n
 · refine .inr ⟨hlt,Pv (i + 1),λσ' H' p'=>⟨n - (i + 1),by omega,rfl,hlt,p'⟩,λx H' y=>?_⟩
   obtain ⟨e,y⟩:=y
   subst e y
   exact hs i σ _ hlt p
 · have e:i=n:=by omega
   subst e
   exact .inl ⟨Ah _,hd σ H p⟩
end L2
namespace L2
open PySem PySem.Spec PyProof.Rows
abbrev R2:=V->V->Hp->VK->Prop
def OpR (X:Cx) (f:Value->Value->Sem Value) (r:R2):Prop :=
 ∀ (pins:List (Addr × Obj)) (s:Shared) (σ:St) (H:Hp) (x y:V) (v u:Value) (Q:VK),Inv X pins σ H s->RelV x v->RelV y u->r x y H Q->
   wpAny (model X.prog X.w) X.A (f v u) (EP X pins σ Q) X.xe s
def UnR (X:Cx) (f:Value->Sem Value) (r:V->Hp->VK->Prop):Prop :=
 ∀ (pins:List (Addr × Obj)) (s:Shared) (σ:St) (H:Hp) (x:V) (v:Value) (Q:VK),Inv X pins σ H s->RelV x v->r x H Q->
   wpAny (model X.prog X.w) X.A (f v) (EP X pins σ Q) X.xe s
def CallR (X:Cx) (f:Value) (r:List V->Hp->VK->Prop):Prop :=
 ∀ (pins:List (Addr × Obj)) (s:Shared) (σ:St) (H:Hp) (xs:List V) (us:List Value) (Q:VK),Inv X pins σ H s->Vals xs us->r xs H Q->
   wpAny (model X.prog X.w) X.A (call f us) (EP X pins σ Q) X.xe s
def eQ9 (X:Cx) (r:V->Hp->(Bool->Hp->Prop)->Prop):Prop :=
 ∀ (pins:List (Addr × Obj)) (s:Shared) (σ:St) (H:Hp) (x:V) (v:Value) (Q:Bool->Hp->Prop),Inv X pins σ H s->RelV x v->r x H Q->
   wpAny (model X.prog X.w) X.A (truthy v) (TP X pins σ Q) X.xe s
def tOp (r:R2) (ta tb:TE):TE:=λσ H Q=>ta σ H λx H1=>tb σ H1 λy H2=>r x y H2 Q
def tUn (r:V->Hp->VK->Prop) (ta:TE):TE:=λσ H Q=>ta σ H λx H1=>r x H1 Q
def rI (C:Int->Int->Prop) (g:Int->Int->V):R2:=λx y H Q=>∃ i j,x=.int i/\y=.int j/\C i j/\Q (g i j) H
def rI0 (g:Int->Int->V):R2:=λx y H Q=>∃ i j,x=.int i/\y=.int j/\Q (g i j) H
def rU (g:Int->V):V->Hp->VK->Prop:=λx H Q=>∃ i,x=.int i/\Q (g i) H
section
variable {X:Cx} {a b c:Expr} {ta tb tc:TE} {pos:Pos}
theorem dX6 (ha:PE X a ta) (hb:PE X b tb) {pins:List (Addr × Obj)} {s:Shared} {σ:St} {H:Hp} {R:V->V->Hp->Prop} (I:Inv X pins σ H s)
   (h:ta σ H λx H1=>tb σ H1 λy H2=>R x y H2) {Q:Value->Shared->Prop} {f:Value->Value->Sem Value}
   (hf:∀ v u s2 x y H2,Inv X pins σ H2 s2->RelV x v->RelV y u->R x y H2->wpAny (model X.prog X.w) X.A (f v u) Q X.xe s2) :
   wpAny (model X.prog X.w) X.A (eval a X.env) (λv s₁=>wpAny (model X.prog X.w) X.A (eval b X.env) (λu s₂=>wpAny (model X.prog X.w) X.A (f v u) Q X.xe s₂) X.xe s₁) X.xe s:=by
 refine thn (ha pins s σ H _ I h) λv s1 ⟨x,H1,I1,r1,q1⟩=>?_
 refine thn (hb pins s1 σ H1 _ I1 q1) λu s2 ⟨y,H2,I2,r2,q2⟩=>?_
 exact hf v u s2 x y H2 I2 r1 r2 q2
theorem aT {op:Operator} {r:R2} (ho:OpR X (binaryOp op) r) (ha:PE X a ta) (hb:PE X b tb):PE X (.BinOp a op b pos) (tOp r ta tb):=by
 intro pins s σ H Q I h
 exact wpAny_BinOp (dX6 ha hb I h λv u s2 x y H2 I2 rx ry q=>ho pins s2 σ H2 x y v u Q I2 rx ry q)
theorem cZ6 {op:UnaryOp} {r:V->Hp->VK->Prop} (ho:UnR X (unaryOp op) r) (ha:PE X a ta):PE X (.UnaryOp op a pos) (tUn r ta):=by
 intro pins s σ H Q I h
 exact UnaryOp_ (thn (ha pins s σ H _ I h) λv s1 ⟨x,H1,I1,r1,q1⟩=>ho pins s1 σ H1 x v Q I1 r1 q1)
theorem opI {f:Value->Value->Sem Value} {C:Int->Int->Prop} {g:Int->Int->Int}
   (rule:∀ (i j:Int) (t u:Tok) (s:Shared) (Q:Value->Shared->Prop) (E:Value->Shared->Prop),C i j->Q (.int (g i j) s.toks) { s with toks:=s.toks + 1 }->wpAny (model X.prog X.w) X.A (f (.int i t) (.int j u)) Q E s) :
   OpR X f (rI C λi j=>.int (g i j)):=by
 intro pins s σ H x y v u Q I rx ry h
 obtain ⟨i,j,rfl,rfl,hc,q⟩:=h
 obtain ⟨t,rfl⟩:=rx
 obtain ⟨t',rfl⟩:=ry
 exact rule i j t t' s _ _ hc ⟨.int (g i j),H,I.tok _,⟨_,rfl⟩,q⟩
theorem dJF {f:Value->Value->Sem Value} {g:Int->Int->Int}
   (rule:∀ (i j:Int) (t u:Tok) (s:Shared) (Q:Value->Shared->Prop) (E:Value->Shared->Prop),Q (.int (g i j) s.toks) { s with toks:=s.toks + 1 }->wpAny (model X.prog X.w) X.A (f (.int i t) (.int j u)) Q E s) :
   OpR X f (rI0 λi j=>.int (g i j)):=by
 intro pins s σ H x y v u Q I rx ry h
 obtain ⟨i,j,rfl,rfl,q⟩:=h
 obtain ⟨t,rfl⟩:=rx
 obtain ⟨t',rfl⟩:=ry
 exact rule i j t t' s _ _ ⟨.int (g i j),H,I.tok _,⟨_,rfl⟩,q⟩
theorem dJA {f:Value->Value->Sem Value} {g:Int->Int->Bool}
   (rule:∀ (i j:Int) (t u:Tok) (s:Shared) (Q:Value->Shared->Prop) (E:Value->Shared->Prop),Q (.bool (g i j)) s->wpAny (model X.prog X.w) X.A (f (.int i t) (.int j u)) Q E s) :
   OpR X f (rI0 λi j=>.bl (g i j)):=by
 intro pins s σ H x y v u Q I rx ry h
 obtain ⟨i,j,rfl,rfl,q⟩:=h
 obtain ⟨t,rfl⟩:=rx
 obtain ⟨t',rfl⟩:=ry
 exact rule i j t t' s _ _ ⟨.bl (g i j),H,I,rfl,q⟩
def dZR (i j:Int):Prop:=0 < j/\j < 1073741824
def CMul (i j:Int):Prop:=(-(2 ^ 64) < i/\i < 2 ^ 64)\/(-(2 ^ 64) < j/\j < 2 ^ 64)
theorem CMul.ok {i j:Int} (h:CMul i j):IntMulOk i j:=by
 rcases h with ⟨h1,h2⟩ | ⟨h1,h2⟩
 · exact .of_left (intBits_le_64 h1 h2)
 · exact .of_right (intBits_le_64 h1 h2)
theorem dQO:OpR X (binaryOp .Add) (rI0 λi j=>.int (i + j)):=dJF λ_ _ _ _ _ _ _ q=>add_int q
theorem op_sub:OpR X (binaryOp .Sub) (rI0 λi j=>.int (i - j)):=dJF λ_ _ _ _ _ _ _ q=>sub_int q
theorem op_mul:OpR X (binaryOp .Mult) (rI CMul λi j=>.int (i * j)):=opI λ_ _ _ _ _ _ _ hc q=>mul_int q hc.ok
theorem op_fdiv:OpR X (binaryOp .FloorDiv) (rI dZR λi j=>.int (i / j)):=opI λi j _ _ _ _ _ hc q=>by
 have h1:(0:Int) < j:=hc.1
 have h2:j < 1073741824:=hc.2
 exact floordiv_int (by omega) (by rw [Int.fdiv_eq_ediv_of_nonneg i (by omega)]; exact q) (.inl (PyProof.noPylong_small (by omega)))
theorem op_mod:OpR X (binaryOp .Mod) (rI (λ_ j=>0 < j) λi j=>.int (i % j)):=opI λi j _ _ _ _ _ hc q=>by
 have h1:(0:Int) < j:=hc
 exact mod_int' (by omega) (by rw [Int.fmod_eq_emod_of_nonneg i (by omega)]; exact q)
theorem unI {f:Value->Sem Value} {g:Int->Int}
   (rule:∀ (i:Int) (t:Tok) (s:Shared) (Q:Value->Shared->Prop) (E:Value->Shared->Prop),Q (.int (g i) s.toks) { s with toks:=s.toks + 1 }->wpAny (model X.prog X.w) X.A (f (.int i t)) Q E s) :
   UnR X f (rU λi=>.int (g i)):=by
 intro pins s σ H x v Q I rx h
 obtain ⟨i,rfl,q⟩:=h
 obtain ⟨t,rfl⟩:=rx
 exact rule i t s _ _ ⟨.int (g i),H,I.tok _,⟨_,rfl⟩,q⟩
theorem dXK:UnR X (unaryOp .USub) (rU λi=>.int (-i)):=unI λ_ _ _ _ _ q=>neg_int q
end
def cQM:V->V->Bool
 | .non,.non=>true | .non,.int _=>true | .int _,.non=>true | .non,.bl _=>true | .bl _,.non=>true | .non,.str _=>true | .str _,.non=>true
 | .int _,.int _=>true | .bl _,.bl _=>true | .str _,.str _=>true | .byt _,.byt _=>true
 | .int _,.str _=>true | .str _,.int _=>true | .bl _,.str _=>true | .str _,.bl _=>true
 | _,_=>false
def rEq:R2:=λx y H Q=>cQM x y=true/\Q (.bl (decide (x=y))) H
def rNe:R2:=λx y H Q=>cQM x y=true/\Q (.bl (!decide (x=y))) H
theorem aXL {i j:Int}:decide (V.int i=V.int j)=(i == j):=by
 rw [Bool.eq_iff_iff]
 simp
theorem bQN {i j:Bool}:decide (V.bl i=V.bl j)=(i == j):=by
 rw [Bool.eq_iff_iff]
 simp
theorem tT {i j:Str}:decide (V.str i=V.str j)=(i == j):=by
 rw [Bool.eq_iff_iff]
 simp
theorem aX0 {i j:Array UInt8}:decide (V.byt i=V.byt j)=(i.toList == j.toList):=by
 rw [Bool.eq_iff_iff]
 cases i
 cases j
 simp
section
variable {X:Cx} {a b c:Expr} {ta tb tc:TE} {pos:Pos}
theorem bL {pins:List (Addr × Obj)} {σ:St} {H:Hp} {s:Shared} {Q:VK} {k k':Bool} (I:Inv X pins σ H s) (q:Q (.bl k) H) (e:k=k'):EP X pins σ Q (.bool k') s:=by
 subst e
 exact ⟨.bl k,H,I,rfl,q⟩
theorem dZ9:OpR X (compareOp .Eq) rEq:=by
 intro pins s σ H x y v u Q I rx ry h
 obtain ⟨hs,q⟩:=h
 cases x with
 | non=>
   cases rx
   cases y with
   | non=>cases ry; exact PySem.EqNone.eq_none_none (bL I q (by simp))
   | bl j=>cases ry; exact PySem.EqNone.eq_none_bool (bL I q (by simp))
   | int j=>obtain ⟨t',rfl⟩:=ry; exact PySem.EqNone.eq_none_int (bL I q (by simp))
   | str j=>obtain ⟨t',rfl⟩:=ry; exact PySem.EqNone.eq_none_str (bL I q (by simp))
   | _=>exact absurd (show false=true from hs) Am
 | bl i=>
   cases rx
   cases y with
   | non=>cases ry; exact PySem.EqNone.eq_bool_none (bL I q (by simp))
   | bl j=>cases ry; exact eq_bool (bL I q bQN)
   | str j=>obtain ⟨t',rfl⟩:=ry; exact PySem.EqMixed.eq_bool_str (bL I q (by simp))
   | _=>exact absurd (show false=true from hs) Am
 | int i=>
   obtain ⟨t,rfl⟩:=rx
   cases y with
   | non=>cases ry; exact PySem.EqNone.eq_int_none (bL I q (by simp))
   | int j=>obtain ⟨t',rfl⟩:=ry; exact eq_int (bL I q aXL)
   | str j=>obtain ⟨t',rfl⟩:=ry; exact PySem.EqMixed.eq_int_str (bL I q (by simp))
   | _=>exact absurd (show false=true from hs) Am
 | str i=>
   obtain ⟨t,rfl⟩:=rx
   cases y with
   | non=>cases ry; exact PySem.EqNone.eq_str_none (bL I q (by simp))
   | bl j=>cases ry; exact PySem.EqMixed.eq_str_bool (bL I q (by simp))
   | int j=>obtain ⟨t',rfl⟩:=ry; exact PySem.EqMixed.eq_str_int (bL I q (by simp))
   | str j=>obtain ⟨t',rfl⟩:=ry; exact eq_str (bL I q tT)
   | _=>exact absurd (show false=true from hs) Am
 | byt i=>
   obtain ⟨t,rfl⟩:=rx
   cases y with
   | byt j=>obtain ⟨t',rfl⟩:=ry; exact PySem.W.eq_bytes (bL I q aX0)
   | _=>exact absurd (show false=true from hs) Am
 | _=>cases y <;> exact absurd (show false=true from hs) Am
theorem eQS:OpR X (compareOp .NotEq) rNe:=by
 intro pins s σ H x y v u Q I rx ry h
 obtain ⟨hs,q⟩:=h
 cases x with
 | non=>
   cases rx
   cases y with
   | non=>cases ry; exact PySem.EqNone.ne_none_none (bL I q (by simp))
   | bl j=>cases ry; exact PySem.EqNone.ne_none_bool (bL I q (by simp))
   | int j=>obtain ⟨t',rfl⟩:=ry; exact PySem.EqNone.ne_none_int (bL I q (by simp))
   | str j=>obtain ⟨t',rfl⟩:=ry; exact PySem.EqNone.ne_none_str (bL I q (by simp))
   | _=>exact absurd (show false=true from hs) Am
 | bl i=>
   cases rx
   cases y with
   | non=>cases ry; exact PySem.EqNone.ne_bool_none (bL I q (by simp))
   | bl j=>cases ry; exact ne_bool (bL I q (Df not bQN))
   | str j=>obtain ⟨t',rfl⟩:=ry; exact PySem.EqMixed.ne_bool_str (bL I q (by simp))
   | _=>exact absurd (show false=true from hs) Am
 | int i=>
   obtain ⟨t,rfl⟩:=rx
   cases y with
   | non=>cases ry; exact PySem.EqNone.ne_int_none (bL I q (by simp))
   | int j=>obtain ⟨t',rfl⟩:=ry; exact ne_int (bL I q (Df not aXL))
   | str j=>obtain ⟨t',rfl⟩:=ry; exact PySem.EqMixed.ne_int_str (bL I q (by simp))
   | _=>exact absurd (show false=true from hs) Am
 | str i=>
   obtain ⟨t,rfl⟩:=rx
   cases y with
   | non=>cases ry; exact PySem.EqNone.ne_str_none (bL I q (by simp))
   | bl j=>cases ry; exact PySem.EqMixed.ne_str_bool (bL I q (by simp))
   | int j=>obtain ⟨t',rfl⟩:=ry; exact PySem.EqMixed.ne_str_int (bL I q (by simp))
   | str j=>obtain ⟨t',rfl⟩:=ry; exact ne_str (bL I q (Df not tT))
   | _=>exact absurd (show false=true from hs) Am
 | byt i=>
   obtain ⟨t,rfl⟩:=rx
   cases y with
   | byt j=>obtain ⟨t',rfl⟩:=ry; exact PySem.W.ne_bytes (bL I q (Df not aX0))
   | _=>exact absurd (show false=true from hs) Am
 | _=>cases y <;> exact absurd (show false=true from hs) Am
theorem op_lt:OpR X (compareOp .Lt) (rI0 λi j=>.bl (decide (i < j))):=dJA λ_ _ _ _ _ _ _ q=>lt_int q
theorem op_gt:OpR X (compareOp .Gt) (rI0 λi j=>.bl (decide (j < i))):=dJA λ_ _ _ _ _ _ _ q=>gt_int q
theorem op_in_str:OpR X (compareOp .In) (λx y H Q=>∃ i j,x=.str i/\y=.str j/\Q (.bl (!(Builtin.Str.occurrences j i 0 j.length 1).isEmpty)) H):=by
 intro pins s σ H x y v u Q I rx ry h
 obtain ⟨i,j,rfl,rfl,q⟩:=h
 obtain ⟨t,rfl⟩:=rx
 obtain ⟨t',rfl⟩:=ry
 exact in_str (bL I q rfl)
theorem op_isN:OpR X (compareOp .Is) (λx y H Q=>y=.non/\Q (.bl (decide (x=.non))) H):=by
 intro pins s σ H x y v u Q I rx ry h
 obtain ⟨rfl,q⟩:=h
 cases ry
 refine is_none_gen (bL I q ?_)
 cases x <;> first
   | (cases rx; rfl)
   | (obtain ⟨t,rfl⟩:=rx; rfl)
theorem op_notN:OpR X (compareOp .IsNot) (λx y H Q=>y=.non/\Q (.bl (!decide (x=.non))) H):=by
 intro pins s σ H x y v u Q I rx ry h
 obtain ⟨rfl,q⟩:=h
 cases ry
 refine isnot_none_gen (bL I q ?_)
 cases x <;> first
   | (cases rx; rfl)
   | (obtain ⟨t,rfl⟩:=rx; rfl)
theorem OpR.or {f:Value->Value->Sem Value} {r r':R2} (h:OpR X f r) (h':OpR X f r'):OpR X f (λx y H Q=>r x y H Q\/r' x y H Q):=by
 intro pins s σ H x y v u Q I rx ry q
 rcases q with q | q
 · exact h pins s σ H x y v u Q I rx ry q
 · exact h' pins s σ H x y v u Q I rx ry q
theorem bG (b:Expr) {op:CmpOp} (h:op≠.In:=by decide) (h2:op≠.NotIn:=by decide):behindInMarks op b=false:=by
 have e1:(op == CmpOp.In)=false:=by cases op <;> first | rfl | exact absurd rfl h
 have e2:(op == CmpOp.NotIn)=false:=by cases op <;> first | rfl | exact absurd rfl h2
 cases b <;> simp [behindInMarks,e1,e2]
theorem gK {op:CmpOp} {r:R2} (ho:OpR X (compareOp op) r) (ha:PE X a ta) (hb:PE X b tb) (hm:behindInMarks op b=false):PE X (.Compare a [op] [b] pos) (tOp r ta tb):=by
 intro pins s σ H Q I h
 exact wpAny_Compare1 (dX6 ha hb I h λv u s2 x y H2 I2 rx ry q=>ho pins s2 σ H2 x y v u Q I2 rx ry q) hm
def dZ4 (K:PySem.W.Frag) (x:V) (H:Hp) (k:Bool):Prop :=
 match x with
 | .non=>k=false
 | .bl b=>k=b
 | .int i=>k=(i != 0)
 | .str y=>y.length<=sizeLine/\k=((y.length:Int) != 0)
 | .byt y=>y.size<=sizeLine/\k=((y.size:Int) != 0)
 | .ref p=>(∃ xs,SqL K H p xs/\k=!xs.isEmpty)\/(∃ xs,SqT K H p xs/\k=!xs.isEmpty)\/∃ kvs,H p=some (.dK kvs)/\k=!kvs.isEmpty
 | _=>False
theorem zU {κ:Type} {kvs:List (κ × V)} {vs:List (κ × Value)} (r:KV kvs vs):(!vs.isEmpty)=!kvs.isEmpty:=by
 cases r <;> rfl
theorem pA {xs:List V} {its:List Value} (r:Vals xs its):(!its.toArray.isEmpty)=!xs.isEmpty:=by
 cases r <;> simp
theorem kW:(sizeLine:Nat) < 2 ^ 63:=by rw [sizeLine_eq]; decide
theorem tH:eQ9 X (λx H Q=>∃ k,dZ4 X.K x H k/\Q k H):=by
 intro pins s σ H x v Q I rx h
 obtain ⟨k,e,q⟩:=h
 have hl:=kW
 have hs:sizeLine=16777216:=sizeLine_eq
 cases x with
 | non=>
   cases rx
   have e':k=false:=e
   subst e'
   exact truthy_none ⟨H,I,q⟩
 | bl b=>
   cases rx
   have e':k=b:=e
   subst e'
   exact Ej ⟨H,I,q⟩
 | int i=>
   obtain ⟨t,rfl⟩:=rx
   have e':k=(i != 0):=e
   subst e'
   exact PySem.P.truthy_int ⟨H,I,q⟩
 | str y=>
   obtain ⟨t,rfl⟩:=rx
   obtain ⟨hy,e'⟩:y.length<=sizeLine/\k=((y.length:Int) != 0):=e
   subst e'
   exact PySem.P.truthy_str (by omega) ⟨H,I.tok _,q⟩
 | byt y=>
   obtain ⟨t,rfl⟩:=rx
   obtain ⟨hy,e'⟩:y.size<=sizeLine/\k=((y.size:Int) != 0):=e
   subst e'
   exact PySem.W.truthy_bytes (by omega) ⟨H,I.tok _,q⟩
 | ref p=>
   cases rx
   have e':(∃ xs,SqL X.K H p xs/\k=!xs.isEmpty)\/(∃ xs,SqT X.K H p xs/\k=!xs.isEmpty)\/∃ kvs,H p=some (.dK kvs)/\k=!kvs.isEmpty:=e
   rcases e' with ⟨xs,hx,e'⟩ | ⟨xs,hx,e'⟩ | ⟨kvs,hx,e'⟩
   · subst e'
     obtain ⟨its,r,pl,hz⟩:=I.list hx
     have hlen:=r.length
     exact wpAny_truthy_list pl.isList (by simp only [List.size_toArray]; omega) ⟨H,I.tok _,by rw [pA r]; exact q⟩
   · subst e'
     obtain ⟨its,r,pl,hz⟩:=I.tuple hx
     have hlen:=r.length
     exact truthy_tuple pl (by simp only [List.size_toArray]; omega) ⟨H,I.tok _,by rw [pA r]; exact q⟩
   · subst e'
     obtain ⟨hz,hS,vs,r,m⟩:kvs.length<=sizeLine/\(p == sysModules)=false/\∃ vs,KV kvs vs/\s.heap.DictOf (bB X.prog X.w) p vs:=I.hok p _ hx
     have hlen:kvs.length=vs.length:=Paired.length r
     exact wpAny_truthy_dict hS m (by omega) ⟨H,I.tok _,by rw [zU r]; exact q⟩
 | _=>exact (show False from e).elim
theorem aQQ:OpR X (binaryOp .Add) (λx y H Q=>∃ i j,x=.str i/\y=.str j/\i.length + j.length<=sizeLine/\Q (.str (i ++ j)) H):=by
 intro pins s σ H x y v u Q I rx ry h
 obtain ⟨i,j,rfl,rfl,hz,q⟩:=h
 obtain ⟨t,rfl⟩:=rx
 obtain ⟨t',rfl⟩:=ry
 exact add_str (λt' tk=>⟨.str (i ++ j),H,I.tok _,⟨_,rfl⟩,q⟩) hz
theorem eX {x:V} {us:List Value} (r:Vals [x] us):∃ u,us=[u]/\RelV x u:=by
 cases r with
 | cons r1 r2=>cases r2; exact ⟨_,rfl,r1⟩
theorem pJ {x y:V} {us:List Value} (r:Vals [x,y] us):∃ u w',us=[u,w']/\RelV x u/\RelV y w':=by
 cases r with
 | cons r1 r2=>
   cases r2 with
   | cons r3 r4=>cases r4; exact ⟨_,_,rfl,r1,r3⟩
theorem aZU (hc:X.calm=true):CallR X (.builtin "max") (λxs H Q=>∃ i j,xs=[.int i,.int j]/\Q (.int (if j > i then j else i)) H):=by
 intro pins s σ H xs us Q I r h
 obtain ⟨i,j,rfl,q⟩:=h
 obtain ⟨u,w',rfl,⟨t,rfl⟩,⟨t',rfl⟩⟩:=pJ r
 refine max_two_ints (I.ok.hd hc) λh' tk k=>⟨_,H,I.kept k,?_,q⟩
 by_cases hj:j > i
 · rw [if_pos hj,if_pos hj]; exact ⟨_,rfl⟩
 · rw [if_neg hj,if_neg hj]; exact ⟨_,rfl⟩
theorem aZ5 (hc:X.calm=true):CallR X (.builtin "min") (λxs H Q=>∃ i j,xs=[.int i,.int j]/\Q (.int (if j < i then j else i)) H):=by
 intro pins s σ H xs us Q I r h
 obtain ⟨i,j,rfl,q⟩:=h
 obtain ⟨u,w',rfl,⟨t,rfl⟩,⟨t',rfl⟩⟩:=pJ r
 refine min_two_ints (I.ok.hd hc) λh' tk k=>⟨_,H,I.kept k,?_,q⟩
 by_cases hj:j < i
 · rw [if_pos hj,if_pos hj]; exact ⟨_,rfl⟩
 · rw [if_neg hj,if_neg hj]; exact ⟨_,rfl⟩
theorem call_int1:CallR X (.type "int") (λxs H Q=>(∃ i,xs=[.int i]/\Q (.int i) H)\/∃ k,xs=[.bl k]/\Q (.int (if k then 1 else 0)) H):=by
 intro pins s σ H xs us Q I r h
 rcases h with ⟨i,rfl,q⟩ | ⟨k,rfl,q⟩
 · obtain ⟨u,rfl,t,rfl⟩:=eX r
   exact call_int_int ⟨.int i,H,I,⟨_,rfl⟩,q⟩
 · obtain ⟨u,rfl,r1⟩:=eX r
   cases r1
   exact call_int_bool ⟨.int (if k then 1 else 0),H,I.tok _,⟨_,rfl⟩,q⟩
def eQ3 (K:PySem.W.Frag) (x:V) (H:Hp) (n:Nat):Prop :=
 match x with
 | .str y=>y.length<=sizeLine/\n=y.length
 | .byt y=>y.size<=sizeLine/\n=y.size
 | .ref p=>(∃ xs,SqL K H p xs/\n=xs.length)\/∃ xs,SqT K H p xs/\n=xs.length
 | _=>False
theorem call_len:CallR X (.builtin "len") (λxs H Q=>∃ x n,xs=[x]/\eQ3 X.K x H n/\Q (.int n) H):=by
 intro pins s σ H xs us Q I r h
 obtain ⟨x,n,rfl,e,q⟩:=h
 obtain ⟨u,rfl,rx⟩:=eX r
 have hl:=kW
 have hs:sizeLine=16777216:=sizeLine_eq
 cases x with
 | str y=>
   obtain ⟨t,rfl⟩:=rx
   obtain ⟨hy,e'⟩:y.length<=sizeLine/\n=y.length:=e
   subst e'
   exact len_str (by omega) ⟨.int _,H,I.tok _,⟨_,rfl⟩,q⟩
 | byt y=>
   obtain ⟨t,rfl⟩:=rx
   obtain ⟨hy,e'⟩:y.size<=sizeLine/\n=y.size:=e
   subst e'
   exact PySem.W.len_bytes (by omega) ⟨.int _,H,I.tok _,⟨_,rfl⟩,q⟩
 | ref p=>
   cases rx
   have e':(∃ xs,SqL X.K H p xs/\n=xs.length)\/∃ xs,SqT X.K H p xs/\n=xs.length:=e
   rcases e' with ⟨xs,hx,e'⟩ | ⟨xs,hx,e'⟩
   · subst e'
     obtain ⟨its,r',pl,hz⟩:=I.list hx
     have hlen:=r'.length
     exact Calls.call_len_list pl.isList (by simp only [List.size_toArray]; omega) ⟨.int xs.length,H,I.tok _,⟨_,by simp only [List.size_toArray]; rw [hlen]⟩,q⟩
   · subst e'
     obtain ⟨its,r',pl,hz⟩:=I.tuple hx
     have hlen:=r'.length
     exact len_tuple pl (by simp only [List.size_toArray]; omega) ⟨.int xs.length,H,I.tok _,⟨_,by simp only [List.size_toArray]; rw [hlen]⟩,q⟩
 | _=>exact (show False from e).elim
end
end L2
namespace L2
open PySem PySem.Spec PyProof.Rows
structure ObjM (h:Heap) (x dx C:Addr) (mA:Str->Option Value):Prop where
 obj:h.get? x=some (PySem.W.instObj C dx)
 ns:h.Ns1 dx mA
 ne:dx≠x
theorem rO {h:Heap} {dx:Addr} {mA:Str->Option Value} (n:h.Ns1 dx mA):∃ od,h.get? dx=some od/\∀ name,PySem.W.lookIn name od=some (mA name):=by
 obtain ⟨o,es,ep,ho,hd,hk,_,hm⟩:=n
 refine ⟨o,ho,λname=>?_⟩
 have e:=hm name
 unfold nsFind findBy at e
 rw [<-Array.find?_toList] at e
 unfold PySem.W.lookIn
 rw [hd]
 dsimp only
 split
 · rename_i y q
   rw [q] at e
   exact Df some e
 · rename_i q
   rw [q] at e
   have a:es.toList.any (·.refKey)=false:=by
     rw [List.any_eq_false]
     intro y hy
     obtain ⟨z,t,hkey⟩:=hk y (Array.mem_toList_iff.mp hy)
     simp [DictEntry.refKey,hkey]
   have a':¬ es.toList.any (·.refKey)=true:=by rw [a]; exact Am
   rw [if_neg a']
   exact Df some e
theorem ObjM.look {h:Heap} {x dx C:Addr} {mA:Str->Option Value} (I:ObjM h x dx C mA):∃ od,PySem.W.InstAt h x (PySem.W.instObj C dx) C (some od)/\∀ name,PySem.W.lookIn name od=some (mA name) :=
 let ⟨od,ho,hl⟩:=rO I.ns
 ⟨od,⟨I.obj,rfl,rfl,ho⟩,hl⟩
section
variable {prog:Program} {w:World} {A:Around} {E:Value->Shared->Prop} {s:Shared} {K:PySem.W.Frag} {x dx C f:Addr} {mA:Str->Option Value} {name:Str} {v:Value}
end
theorem RelO.some_of {v:V} {o:Option Value} (r:RelO (some v) o):∃ u,o=some u/\RelV v u:=by
 cases o with
 | none=>exact (show False from r).elim
 | some u=>exact ⟨u,rfl,r⟩
theorem RelO.none_of {o:Option Value} (r:RelO none o):o=none:=by
 cases o with
 | none=>rfl
 | some u=>exact (show False from r).elim
section
variable {P:Program} {w:World} {H H':Hp} {h h':Heap} {a C dx:Addr} {fs fs':List (Str × V)}
theorem cQW (hok:HOk P w H h) (e:H a=some (.ins C dx fs)):∃ mA,ObjM h a dx C mA/\(∀ f,RelO (fs.lookup f) (mA f))/\PySem.Within mA (fs.map (·.1))/\fs.length<=1000/\H dx=some (.own a):=by
 obtain ⟨d,z,ne,ob,mA,n,r,q⟩:=(show ObjOk P w H h a (.ins C dx fs) from hok a _ e)
 exact ⟨mA,⟨ob,n,ne⟩,r,q,z,d⟩
end
structure Cls (K:PySem.W.Frag) (C:Addr):Prop where
 pg:PySem.W.plainGet K C Str.empty=true
 hd:PySem.W.hasDictIn K C=true
 po:PySem.W.plainOver K C=true
 sa:PySem.W.findIn K (.ref C) "__setattr__"=some (some (.builtin "object.__setattr__"))
theorem Cls.get {K:PySem.W.Frag} {C:Addr} (c:Cls K C) (f:Str):PySem.W.plainGet K C f=true:=c.pg
section
variable {X:Cx} {pins:List (Addr × Obj)} {σ:St} {H:Hp} {s:Shared} {a C dx:Addr} {fs:List (Str × V)} {f:Str} {v:V} {A:Around} {E:Value->Shared->Prop}
theorem Inv.made (I:Inv X pins σ H s):Inv X pins σ (upd (upd H s.heap.objs.size (.own (s.heap.objs.size + 1))) (s.heap.objs.size + 1) (.ins C s.heap.objs.size []))
   { s with heap:=(s.heap.push PySem.W.emptyDict).push (PySem.W.instObj C s.heap.objs.size) }:=by
 have e1:(s.heap.push PySem.W.emptyDict).get? s.heap.objs.size=some PySem.W.emptyDict:=Av s.heap rfl
 have e2:((s.heap.push PySem.W.emptyDict).push (PySem.W.instObj C s.heap.objs.size)).get? (s.heap.objs.size + 1)=some (PySem.W.instObj C s.heap.objs.size):=by
   have:=Av (s.heap.push PySem.W.emptyDict) (o:=PySem.W.instObj C s.heap.objs.size) rfl
   rwa [Ew] at this
 have e3:(s.heap.push PySem.W.emptyDict).Ns s.heap.objs.size (λ_=>none):=⟨PySem.W.emptyDict,#[],_,e1,rfl,(λe he=>absurd he (by simp)),λ_=>rfl⟩
 have I1:=I.laid (a:=s.heap.objs.size) (o:=.own (s.heap.objs.size + 1)) (h':=s.heap.push PySem.W.emptyDict) (t':=s.toks) (λb u q=>Af _ q) (Ah _) ⟨_,e1⟩
 refine I1.laid (a:=s.heap.objs.size + 1) (o:=.ins C s.heap.objs.size []) (t':=s.toks) (λb u q=>Af _ q) (Nat.le_of_eq (Ew _ _)) ?_
 have ne:s.heap.objs.size≠s.heap.objs.size + 1:=Be (Nat.lt_succ_self _)
 refine ⟨by rw [aK ne,aD],Ci _,ne,e2,λ_=>none,(Heap.Ns1.of_empty e3).at λo q=>Af _ q,λ_=>True.intro,λy hy=>absurd rfl hy⟩
theorem cQL {prog:Program} {w:World} {env:Env} {e:Expr} {f:Str} {pos:Pos} {s:Shared} {Q:Value->Shared->Prop} (hb:attributeBase e f env (eval e env)=eval e env)
   (h:wpAny (model prog w) A (eval e env) (λo s₁=>wpAny (model prog w) A (getAttr o f true) Q E s₁) E s):wpAny (model prog w) A (eval (.Attribute e f pos) env) Q E s :=
 Attribute_any_ h (by rw [arm_eval_Attribute,hb])
end
section
variable {X:Cx} {o e value:Expr} {f:Str} {pos pos' tpos:Pos} {ta tv:TE}
end
section
variable {X:Cx} {pins:List (Addr × Obj)} {σ:St} {H:Hp} {s:Shared} {A:Around} {E:Value->Shared->Prop} {Q:Value->Shared->Prop} {c:Value} {b:Bool}
inductive TyOf (K:PySem.W.Frag) (H:Hp):V->Value->Prop where
 | non:TyOf K H .non (.type "NoneType")
 | bl (x:Bool):TyOf K H (.bl x) (.type "bool")
 | int (i:Int):TyOf K H (.int i) (.type "int")
 | str (x:Str):TyOf K H (.str x) (.type "str")
 | flt (x:UInt64):TyOf K H (.flt x) (.type "float")
 | lst {a:Addr} {xs:List V} (e:H a=some (.lst xs)):TyOf K H (.ref a) (.type "list")
 | frz {a:Addr} {o:Obj} {xs:List V} (e:H a=some (.frz o (.lst xs))):TyOf K H (.ref a) (.type "list")
 | tup {a:Addr} {xs:List V} (e:H a=some (.tup xs)):TyOf K H (.ref a) (.type "tuple")
 | dK {a:Addr} {kvs:List (Key × V)} (e:H a=some (.dK kvs)):TyOf K H (.ref a) (.type "dict")
 | dT {a:Addr} {kvs:List (List Key × V)} (e:H a=some (.dT kvs)):TyOf K H (.ref a) (.type "dict")
 | ins {a C dx:Addr} {fs:List (Str × V)} (e:H a=some (.ins C dx fs)) (cl:Cls K C) (ha:PySem.W.findIn K (.ref C) "__class__"=some (some (.builtin "object.__class__")))
     (hn:PySem.W.specialIn K (.builtin "object.__class__") "__get__"=some (some (.builtin "getset_descriptor.__get__"))) (htk:PySem.W.takesIn K (.builtin "object.__class__")=some true)
     (hm:PySem.W.mroIn K C (.type "object")=some true):TyOf K H (.ref a) (.ref C)
theorem aJG {x:V} {u t:Value} (I:Inv X pins σ H s) (rx:RelV x u) (ty:TyOf X.K H x t) (e:PySem.W.kitOne X.K t c=some b) (h:∀ tk,Q (.bool b) { s with toks:=tk }) :
   wpAny (model X.prog X.w) A (call (.builtin "isinstance") [u,c]) Q E s:=by
 cases ty with
 | non=>cases (show u=Value.none from rx); exact Cu PySem.W.kitx_none I.kIn True.intro e (λz=>nomatch z) h
 | bl y=>cases (show u=Value.bool y from rx); exact Cu PySem.W.kitx_bool I.kIn True.intro e (λz=>nomatch z) h
 | int i=>obtain ⟨t,q⟩:=(show ∃ t,u=Value.int i t from rx); cases q; exact Cu PySem.W.kitx_int I.kIn True.intro e (λz=>nomatch z) h
 | str y=>obtain ⟨t,q⟩:=(show ∃ t,u=Value.str y t from rx); cases q; exact Cu PySem.W.kitx_str I.kIn True.intro e (λz=>nomatch z) h
 | flt y=>obtain ⟨t,q⟩:=(show ∃ t,u=Value.float y t from rx); cases q; exact Cu PySem.W.kitx_float I.kIn True.intro e (λz=>nomatch z) h
 | @lst a xs ea=>
   cases (show u=Value.ref a from rx)
   obtain ⟨_,_,n,_,h1⟩:=(show ObjOk X.prog X.w H s.heap a (.lst xs) from I.hok a _ ea)
   exact Cu PySem.W.kitx_list I.kIn ⟨_,h1,rfl⟩ e (λz=>nomatch z) h
 | @frz a ob xs ea=>
   cases (show u=Value.ref a from rx)
   obtain ⟨_,_,_,n,_,h1⟩:=(show ObjOk X.prog X.w H s.heap a (.frz ob (.lst xs)) from I.hok a _ ea)
   exact Cu PySem.W.kitx_list I.kIn ⟨_,h1,rfl⟩ e (λz=>nomatch z) h
 | @tup a xs ea=>
   cases (show u=Value.ref a from rx)
   obtain ⟨_,_,_,p⟩:=(show ObjOk X.prog X.w H s.heap a (.tup xs) from I.hok a _ ea)
   obtain ⟨o,h1,h2,_⟩:=p
   exact Cu PySem.W.kitx_tuple I.kIn ⟨o,h1,h2⟩ e (λz=>nomatch z) h
 | @dK a kvs ea=>
   cases (show u=Value.ref a from rx)
   obtain ⟨_,_,vs,_,p⟩:=(show ObjOk X.prog X.w H s.heap a (.dK kvs) from I.hok a _ ea)
   obtain ⟨o,es,ep,h1,h2,_⟩:=p
   exact Cu PySem.W.kitx_dict I.kIn ⟨o,h1,h2.1⟩ e (λz=>nomatch z) h
 | @dT a kvs ea=>
   cases (show u=Value.ref a from rx)
   obtain ⟨_,_,xs,_,o,es,ep,h1,h2,_⟩:=(show ObjOk X.prog X.w H s.heap a (.dT kvs) from I.hok a _ ea)
   exact Cu PySem.W.kitx_dict I.kIn ⟨o,h1,h2.1⟩ e (λz=>nomatch z) h
 | @ins a C dx fs ea cl ha hn htk hm=>
   cases (show u=Value.ref a from rx)
   obtain ⟨mA,O,_⟩:=cQW I.hok ea
   obtain ⟨od,J,_⟩:=O.look
   exact Cu (PySem.W.kitx_own (cl.get _) cl.hd ha hn htk hm) I.kIn J e (λz=>nomatch z) h
end
end L2
namespace L2
open PySem PySem.Spec PyProof.Rows
structure Room (k:Nat) (A:Around):Prop where
 hd:A.handled=none
 dp:A.depth + 3 * k + 5 < recursionLimit
 un:A.units + 16 * k + 200 < cLine
theorem Room.mono {j k:Nat} {A:Around} (r:Room k A) (h:j<=k):Room j A:=⟨r.hd,by have:=r.dp; omega,by have:=r.un; omega⟩
theorem Room.deeper {k:Nat} {A:Around} (r:Room (k + 1) A) (env:Env):Room k (A.deeper env) :=
 ⟨r.hd,by have:=r.dp; show A.depth + 1 + 3 * k + 5 < _; omega,by have:=r.un; show A.units + 3 + 16 * k + 200 < _; omega⟩
theorem Room.in1 {k:Nat} {A:Around} (r:Room (k + 1) A):Room k A.in1 :=
 ⟨r.hd,by have:=r.dp; show A.depth + 3 * k + 5 < _; omega,by have:=r.un; show A.units + 1 + 16 * k + 200 < _; omega⟩
theorem zJ {A:Around} {C:Addr} {us:List Value} {kw:List (Str × Value)}:(A.under (.builtin "type.__call__" ⟨.ref C :: us,kw⟩)).depth=A.depth + 1:=by
 first | rfl | simp [Around.under,Code.weight,Code.isCreation,Code.isGuard,Code.isCaller,Code.frames,Code.isFrame,guardIds]
theorem yJ {A:Around} {C:Addr} {us:List Value} {kw:List (Str × Value)}:(A.under (.builtin "type.__call__" ⟨.ref C :: us,kw⟩)).units=A.units + 1:=by
 first | rfl | simp [Around.under,Code.cUnits,Code.frames,Code.isFrame]
theorem Room.make {k:Nat} {A:Around} (r:Room (k + 1) A) (C:Addr) (us:List Value) (kw:List (Str × Value)):Room k (A.under (.builtin "type.__call__" ⟨.ref C :: us,kw⟩)) :=
 ⟨r.hd,by have:=r.dp; rw [zJ]; omega,by have:=r.un; rw [yJ]; omega⟩
theorem Room.depth {k:Nat} {A:Around} (r:Room k A):A.depth < recursionLimit:=by have:=r.dp; omega
theorem Room.units {k:Nat} {A:Around} (r:Room k A):A.units + 64 < cLine:=by have:=r.un; omega
theorem Room.units0 {k:Nat} {A:Around} (r:Room k A):A.units < cLine:=by have:=r.un; omega
def wA:TA:=λ_ H Q=>Q [] H
def aXH (ta:TE) (tr:TA):TA:=λσ H Q=>ta σ H λx H1=>tr σ H1 λxs H2=>Q (x :: xs) H2
section
variable {X:Cx} {e:Expr} {es:List Expr} {te:TE} {t:TA} {pos:Pos}
theorem aB:PA X [] wA:=λ_ _ _ _ H Q I h=>Calls.spliced_nil ⟨[],H,I,.nil,h⟩
theorem aA (ha:PE X e te) (hr:PA X es t) (hs:starEach (e :: es) X.env=(false,eval e X.env) :: starEach es X.env:=by rfl):PA X (e :: es) (aXH te t):=by
 intro pos pins s σ H Q I h
 rw [hs]
 show wpAny _ _ (spliced ((false,eval e X.env) :: backTo pos (starEach es X.env))) _ _ s
 refine Calls.spliced_cons (thn (ha pins s σ H _ I h) λu s1 ⟨x,H1,I1,r1,q1⟩=>?_)
 exact thn (hr pos pins s1 σ H1 _ I1 q1) λus s2 ⟨xs,H2,I2,r2,q2⟩=>⟨x :: xs,H2,I2,.cons r1 r2,q2⟩
def eQJ (t:TA):TE:=λσ H Q=>t σ H λxs H1=>xs.length<=sizeLine/\∀ p,H1 p=none->Q (.ref p) (upd H1 p (.tup xs))
def bQP (t:TA):TE:=λσ H Q=>t σ H λxs H1=>xs.length<=sizeLine/\∀ p,H1 p=none->Q (.ref p) (upd H1 p (.lst xs))
theorem jN {x1} (h:PA X es t):PE X (.Tuple es x1 pos) (eQJ t):=by
 intro pins s σ H Q I hq
 refine wpAny_Tuple_spliced (thn (h pos pins s σ H _ I hq) λus s1 ⟨xs,H1,I1,r,z,q⟩=>⟨by rw [<-r.length]; exact z,?_⟩)
 have hf:H1 s1.heap.objs.size=none:=I1.hok.fresh (Ah _)
 refine ⟨.ref s1.heap.objs.size,upd H1 s1.heap.objs.size (.tup xs),I1.laid (t':=s1.toks) (λb u e=>Af _ e) (Ah _) ?_,rfl,q _ hf⟩
 exact ⟨z,us,r,⟨_,Av _ rfl,rfl,_,rfl⟩⟩
theorem bE (h:PA X es t):PE X (.List es pos) (bQP t):=by
 intro pins s σ H Q I hq
 refine wpAny_List_spliced (thn (h pos pins s σ H _ I hq) λus s1 ⟨xs,H1,I1,r,z,q⟩=>⟨by rw [<-r.length]; exact z,?_⟩)
 have hf:H1 s1.heap.objs.size=none:=I1.hok.fresh (Ah _)
 refine ⟨.ref s1.heap.objs.size,upd H1 s1.heap.objs.size (.lst xs),I1.laid (t':=s1.toks) (λb u e=>Af _ e) (Ah _) ?_,rfl,q _ hf⟩
 exact ⟨z,us,0,r,Av _ rfl⟩
end
abbrev Sp:=List V->Hp->VK->XK->Prop
abbrev CXT:=List Env->Hp->Shared->XK->Value->Shared->Prop
structure Env0 (P:Program) (w:World) (K:PySem.W.Frag) (mg:Str->Option Value) (base:Heap) (A:Around) (outer:List Env) (s:Shared) (H:Hp):Prop where
 frames:A.frames=some outer
 mod:Mod K mg base
 bs:∀ b o,base.get? b=some o->s.heap.get? b=some o/\H b=none
 bsz:base.objs.size<=s.heap.objs.size
 funs:s.heap.FunFrames base outer
 frf:∀ b∈frs outer,H b=none
 hok:HOk P w H s.heap
 bare:AllBare s.gens
def CE (outer:List Env) (P:Program) (w:World) (H:Hp) (s:Shared) (Q:VK) (u:Value) (s':Shared):Prop :=
 ∃ v H',s'.os=s.os/\AllBare s'.gens/\Un (frs outer) [] H H' s.heap s'.heap/\HOk P w H' s'.heap/\RelV v u/\Q v H'
def CR (CX:CXT) (outer:List Env) (P:Program) (w:World) (H:Hp) (s:Shared) (Q:VK) (E:XK) (r:Result) (s':Shared):Prop :=
 match r with
 | .ok (.ret u)=>CE outer P w H s Q u s'
 | .ok _=>False
 | .error e=>CX outer H s E e s'
structure FnOk (P:Program) (w:World) (K:PySem.W.Frag) (mg:Str->Option Value) (base:Heap) (CX:CXT) (k:Nat) (f:Addr) (fd:FuncData) (ps:List Str) (sp:Sp):Prop where
 len:∀ vs H Q E,sp vs H Q E->vs.length=ps.length
 run:∀ (A:Around) (outer:List Env) (s:Shared) (H:Hp) (args:Args) (us:List Value) (vs:List V) (Q:VK) (E:XK),Room k A->Env0 P w K mg base A outer s H->BindsTo s fd args (ps.zip us)->Vals vs us->sp vs H Q E->
   codeAny (model P w) A (.call (.ref f) args) (CR CX outer P w H s Q E) s
theorem FnOk.mono {P:Program} {w:World} {K:PySem.W.Frag} {mg:Str->Option Value} {base:Heap} {CX:CXT} {j k:Nat} {f:Addr} {fd:FuncData} {ps:List Str} {sp:Sp} (F:FnOk P w K mg base CX j f fd ps sp) (h:j<=k) :
   FnOk P w K mg base CX k f fd ps sp:=⟨F.len,λA outer s H args us vs Q E hr=>F.run A outer s H args us vs Q E (hr.mono h)⟩
theorem FnOk.imp {P:Program} {w:World} {K:PySem.W.Frag} {mg:Str->Option Value} {base:Heap} {CX:CXT} {k:Nat} {f:Addr} {fd:FuncData} {ps:List Str} {sp sp':Sp} (F:FnOk P w K mg base CX k f fd ps sp)
   (h:∀ vs H Q E,sp' vs H Q E->sp vs H Q E):FnOk P w K mg base CX k f fd ps sp' :=
 ⟨λvs H Q E q=>F.len vs H Q E (h _ _ _ _ q),λA outer s H args us vs Q E hr he hb hv hs=>F.run A outer s H args us vs Q E hr he hb hv (h _ _ _ _ hs)⟩
theorem Env0.make {P:Program} {w:World} {K:PySem.W.Frag} {mg:Str->Option Value} {base:Heap} {A:Around} {outer:List Env} {s:Shared} {H:Hp} (e:Env0 P w K mg base A outer s H) (C:Addr) (us:List Value) (kw:List (Str × Value)) :
   Env0 P w K mg base (A.under (.builtin "type.__call__" ⟨.ref C :: us,kw⟩)) outer s H:=⟨by first | exact e.frames | (simpa [Around.under,Code.envs,Code.isFrame,pushEnvs] using e.frames),e.mod,e.bs,e.bsz,e.funs,e.frf,e.hok,e.bare⟩
theorem Env0.in1 {P:Program} {w:World} {K:PySem.W.Frag} {mg:Str->Option Value} {base:Heap} {A:Around} {outer:List Env} {s:Shared} {H:Hp} (e:Env0 P w K mg base A outer s H) :
   Env0 P w K mg base A.in1 outer s H:=⟨e.frames,e.mod,e.bs,e.bsz,e.funs,e.frf,e.hok,e.bare⟩
section
variable {X:Cx} {pins:List (Addr × Obj)} {σ:St} {H:Hp} {s s':Shared}
theorem Inv.env0 (I:Inv X pins σ H s):Env0 X.prog X.w X.K X.mg X.base X.A X.stack s H :=
 ⟨I.ok.frames,I.ok.mod,I.bs,Bb I.ok.bsz I.sz,I.stack,I.stkFree,I.hok,I.bare⟩
theorem Inv.after {Q:VK} {u:Value} (I:Inv X pins σ H s) (h:CE X.stack X.prog X.w H s Q u s'):EP X pins σ Q u s':=by
 obtain ⟨v,H',os,bare,un,hok,r,q⟩:=h
 obtain ⟨hh,g,d,t,os'⟩:=s'
 obtain rfl:os'=s.os:=os
 exact ⟨v,H',I.call (h':=hh) (g':=g) (d':=d) (t':=t) (ch:=[]) un hok bare (λb z=>absurd z (by simp)),r,q⟩
end
def aQ1 (sp:Sp) (dvs:List V) (E:XK) (t:TA):TE:=λσ H Q=>t σ H λvs H1=>sp (vs ++ dvs) H1 Q E
def Binds (K:PySem.W.Frag) (fd:FuncData) (ps:List Str) (ds:List Value):Prop :=
 ∀ (s:Shared) (us:List Value),K.In s.heap->(us ++ ds).length=ps.length->BindsTo s fd ⟨us,[]⟩ (ps.zip (us ++ ds))
theorem Binds.all {K:PySem.W.Frag} {fd:FuncData} {ps:List Str} (h:∀ us:List Value,us.length=ps.length->bindArgs fd ⟨us,[]⟩=pure (ps.zip us)):Binds K fd ps []:=λs us _ hl=>by
 rw [Bu] at hl ⊢
 exact .of_eq (h us hl)
def nF (CX:CXT) (X:Cx) (E:XK):Prop:=∀ (pins:List (Addr × Obj)) (σ:St) (H:Hp) (s:Shared) (e:Value) (s':Shared),Inv X pins σ H s->CX X.stack H s E e s'->X.xe e s'
section
variable {X:Cx} {CX:CXT} {k:Nat} {f C:Addr} {fd:FuncData} {ps:List Str} {sp:Sp} {dvs:List V} {ds:List Value} {E:XK} {x m:Str} {p pos apos:Pos} {e o:Expr} {es:List Expr} {ta:TE} {t:TA}
theorem dQQ {pins:List (Addr × Obj)} {σ:St} {H:Hp} {s:Shared} {Q:VK} {us:List Value} {vs:List V} (F:FnOk X.prog X.w X.K X.mg X.base CX k f fd ps sp) (hr:Room k X.A) (hb:Binds X.K fd ps ds) (hd:Vals dvs ds) (hx:nF CX X E)
   (I:Inv X pins σ H s) (r:Vals vs us) (h:sp (vs ++ dvs) H Q E):wpAny (model X.prog X.w) X.A (call (.ref f) us) (EP X pins σ Q) X.xe s:=by
 have r2:Vals (vs ++ dvs) (us ++ ds):=r.append hd
 have hl:(us ++ ds).length=ps.length:=by rw [<-r2.length]; exact F.len _ _ _ _ h
 refine Fc (Ek (F.run X.A X.stack s H ⟨us,[]⟩ (us ++ ds) (vs ++ dvs) Q E hr I.env0 (hb s us I.kIn hl) r2 h) λr s' hq=>?_)
 cases r with
 | error e=>exact hx pins σ H s e s' I hq
 | ok fl=>
   cases fl with
   | ret u=>exact I.after hq
   | next=>exact False.elim hq
   | brk=>exact False.elim hq
   | cont=>exact False.elim hq
theorem aX4 (F:FnOk X.prog X.w X.K X.mg X.base CX k f fd ps sp) (hr:Room k X.A) (hg:Gl X x) (hm:X.mg x=some (.ref f)) (hk:PySem.W.keepIn X.K (.ref f)=true) (hb:Binds X.K fd ps ds) (hd:Vals dvs ds) (hx:nF CX X E)
   (ha:PA X (e :: es) t) (hdb:(x == ("__debug__" : Str))=false:=by decide) (he:starEach (e :: es) X.env=(false,eval e X.env) :: starEach es X.env:=by rfl) (hpl:(backTo pos (starEach es X.env)).any (·.1)=false:=by rfl) :
   PE X (.Call (.Name x p) (e :: es) [] pos) (aQ1 sp dvs E t):=by
 intro pins s σ H Q I h
 refine Eb (iK I hg hm ?_ hdb)
 refine PySem.W.callWith_K (h₀:=X.base) I.ok.mod.kin hk (thn (ha pos pins s σ H _ I h) λus s1 ⟨vs,H1,I1,r,q⟩=>⟨I1.kIn,?_⟩) he hpl
 exact dQQ F hr hb hd hx I1 r q
end
def PK (X:Cx) (kws:List Keyword) (t:TA):Prop :=
 ∀ (pos:Pos) (pins:List (Addr × Obj)) (s:Shared) (σ:St) (H:Hp) (Q:List V->Hp->Prop),Inv X pins σ H s->t σ H Q->wpAny (model X.prog X.w) X.A (evalAll ((backToKw pos (keywordEach kws X.env)).map (·.2))) (AP X pins σ Q) X.xe s
section
variable {X:Cx} {CX:CXT} {k:Nat} {f C:Addr} {fd:FuncData} {ps ks:List Str} {sp:Sp} {E:XK} {x m:Str} {p pos apos kpos:Pos} {e o:Expr} {es:List Expr} {kws:List Keyword} {te ta:TE} {t tk:TA} {nm:Option Str}
theorem cJ3:PK X [] wA:=λ_ _ _ _ H Q I h=>wpAny_evalAll_nil ⟨[],H,I,.nil,h⟩
theorem cQQ (ha:PE X e te) (hr:PK X kws t):PK X (⟨nm,e,kpos⟩ :: kws) (aXH te t):=by
 intro pos pins s σ H Q I h
 show wpAny _ _ (evalAll ((do let v <-eval e X.env; standAt pos; pure v) :: (backToKw pos (keywordEach kws X.env)).map (·.2))) _ _ s
 refine wpAny_evalAll_cons (Ac (thn (ha pins s σ H _ I h) λu s1 ⟨x,H1,I1,r1,q1⟩=>Ac (Fg (Ai ?_))))
 exact thn (hr pos pins s1 σ H1 _ I1 q1) λus s2 ⟨xs,H2,I2,r2,q2⟩=>⟨x :: xs,H2,I2,.cons r1 r2,q2⟩
variable {g:List Value->List Value->List Value} {gV:List V->List V->List V}
end
structure FnScope (N P:List Str) (sc:Scope):Prop where
 kind:sc.kind=.function
 co:sc.isCoroutine=false
 gen:sc.isGenerator=false
 nd:N.Nodup
 pre:N.take P.length=P
 par:∀ x∈P,sc.names.lookup x=some .local\/sc.names.lookup x=some .cell
 nofree:∀ y∈sc.names,y.2≠.free
theorem sW {kindOf:Str->Option NameKind} {x:Str}:∀ {binds:List (Str × Value)} {m:Str->Option Value},(∀ v,(x,v) ∉ binds)->bindL kindOf binds m x=m x
 | [],_,_=>rfl
 | (n,v) :: r,m,h=>by
   unfold bindL
   rw [sW λw hw=>h w (An _ hw)]
   split
   · have:x≠n:=by rintro rfl; exact h v Aq
     simp [this]
   · rfl
theorem rM {kindOf:Str->Option NameKind} {x:Str}:∀ {binds:List (Str × Value)} {m:Str->Option Value},(∀ v,(x,v) ∉ binds)->bindC kindOf binds m x=m x
 | [],_,_=>rfl
 | (n,v) :: r,m,h=>by
   unfold bindC
   rw [rM λw hw=>h w (An _ hw)]
   split
   · rfl
   · have:x≠n:=by rintro rfl; exact h v Aq
     simp [this]
theorem sE {kindOf:Str->Option NameKind} {x:Str} {v:Value}:∀ {P:List Str} {vs:List Value} {i:Nat} {m:Str->Option Value},P.Nodup->P[i]?=some x->vs[i]?=some v->kindOf x=some .local->
   bindL kindOf (P.zip vs) m x=some v
 | [],_,_,_,_,h,_,_=>by simp at h
 | _ :: _,[],_,_,_,_,h,_=>by simp at h
 | p :: P,w :: vs,0,m,nd,h1,h2,hk=>by
   simp at h1 h2; subst h1; subst h2
   show bindL kindOf ((p,w) :: P.zip vs) m p=_
   unfold bindL
   rw [sW λv hv=>(By.mp nd).1 (List.of_mem_zip hv).1,if_pos hk]
   simp
 | p :: P,w :: vs,i + 1,m,nd,h1,h2,hk=>by
   show bindL kindOf ((p,w) :: P.zip vs) m x=_
   unfold bindL
   exact sE (i:=i) (List.nodup_cons.mp nd).2 (by simpa using h1) (by simpa using h2) hk
theorem rY {kindOf:Str->Option NameKind} {x:Str} {v:Value}:∀ {P:List Str} {vs:List Value} {i:Nat} {m:Str->Option Value},P.Nodup->P[i]?=some x->vs[i]?=some v->kindOf x≠some .local->
   bindC kindOf (P.zip vs) m x=some v
 | [],_,_,_,_,h,_,_=>by simp at h
 | _ :: _,[],_,_,_,_,h,_=>by simp at h
 | p :: P,w :: vs,0,m,nd,h1,h2,hk=>by
   simp at h1 h2; subst h1; subst h2
   show bindC kindOf ((p,w) :: P.zip vs) m p=_
   unfold bindC
   rw [rM λv hv=>(By.mp nd).1 (List.of_mem_zip hv).1,if_neg hk]
   simp
 | p :: P,w :: vs,i + 1,m,nd,h1,h2,hk=>by
   show bindC kindOf ((p,w) :: P.zip vs) m x=_
   unfold bindC
   exact rY (i:=i) (List.nodup_cons.mp nd).2 (by simpa using h1) (by simpa using h2) hk
def jL (N:List Str) (vs:List V):St:=vs.map some ++ List.replicate (N.length - vs.length) none
def gF (CX:CXT) (P:Program) (w:World) (K:PySem.W.Frag) (mg:Str->Option Value) (base:Heap) (N:List Str) (qual:Str) (scope:Scope) (f:Addr) (cd:Value) (A:Around) (outer:List Env) (s:Shared) (H:Hp) (E:XK):Cx where
 prog:=P
 w:=w
 K:=K
 mg:=mg
 base:=base
 A:=A.deeper (envOfC qual scope s.heap.objs.size f cd)
 N:=N
 s₀:=s
 H₀:=H
 env:=envOfC qual scope s.heap.objs.size f cd
 outer:=outer
 stack:=envOfC qual scope s.heap.objs.size f cd :: outer
 ex:=[]
 calm:=true
 fn:=λ_=>true
 pn:=[]
 xe:=λe s'=>wpAny (model P w) (A.deeper (envOfC qual scope s.heap.objs.size f cd)) (leaving (envOfC qual scope s.heap.objs.size f cd) e) (λ_ s''=>CX outer H s E e s'') (λe' s''=>CX outer H s E e' s'') s'
theorem cA {sc:Scope} {n:Nat} {x:Str} (h:sc.names.lookup x=some .cell):∃ c,(cellsFrom n sc.names []).lookup x=some c:=by
 have q:=PySem.W.cellsFrom_some sc.names n [] (.inl h)
 exact Er.mp q
theorem aJ5 {CX:CXT} {P:Program} {w:World} {K:PySem.W.Frag} {mg:Str->Option Value} {base:Heap} {N ps:List Str} {qual:Str} {scope:Scope} {f:Addr} {cd:Value} {A:Around} {outer:List Env} {s s1:Shared} {H:Hp} {E:XK} {us:List Value} {vs:List V}
   (S:FnScope N ps scope) (hd:A.handled=none) (e0:Env0 P w K mg base A outer s H) (hl:vs.length=ps.length) (r:Vals vs us)
   (x:InCallC s s.heap.objs.size (bindL (envOfC qual scope s.heap.objs.size f cd).kindOf (ps.zip us) λ_=>none) (cellsFrom (s.heap.objs.size + 1) scope.names []) (bindC (envOfC qual scope s.heap.objs.size f cd).kindOf (ps.zip us) λ_=>none) s1) :
   Inv (gF CX P w K mg base N qual scope f cd A outer s H E) [] (jL N vs) H s1:=by
 have hpl:ps.length<=N.length:=by have:=Df List.length S.pre; rw [Bo] at this; omega
 obtain ⟨h1,tk,rfl,hk⟩:=x.done
 have noA:∀ b:Addr,b ∉ (gF CX P w K mg base N qual scope f cd A outer s H E).ex:=λb z=>absurd (show b ∈ ([]:List Addr) from z) (by simp)
 refine ⟨⟨e0.mod,S.kind,rfl,rfl,Ah _,λy z c h1 h2=>?_,λy hy=>?_,λy c _ h=>?_,λ_=>hd,Around.frames_deeper e0.frames,.inr ⟨rfl,rfl⟩,λb z=>absurd z (noA b),e0.bs,e0.bsz,λb _ _=>noA b,λb z=>absurd z (noA b),e0.funs,e0.frf⟩,
   rfl,e0.bare,Un.kept hk,⟨_,x.toInCall.ns,λi y v h1 h2 h3=>?_⟩,λy c h=>⟨_,x.cell y c h⟩,e0.hok.fresh (Nat.le_refl _),λy c h=>?_,λp hp=>absurd (show p∈([]:List (Addr × Obj)) from hp) (by simp),e0.hok.kept hk,?_⟩
 · exact name_of_addr x.apart (Cy h1) (Cy h2)
 · have hy:scope.names.lookup y=some .cell\/scope.names.lookup y=some .free:=hy
   rcases hy with hy | hy
   · exact cA hy
   · exact absurd rfl (S.nofree _ (Cy hy))
 · exact Fb (x.above y c (Cy h))
 · have hi:i < vs.length:=by
     unfold jL at h2
     by_cases hi:i < vs.length
     · exact hi
     · rw [List.getElem?_append_right (by simpa using hi)] at h2
       rw [List.getElem?_replicate] at h2
       split at h2 <;> cases h2
   have ha:vs[i]?=some v:=by
     unfold jL at h2
     rw [List.getElem?_append_left (by simpa using hi),List.getElem?_map] at h2
     cases e:vs[i]? with
     | none=>rw [e] at h2; cases h2
     | some a=>rw [e] at h2; cases h2; rfl
   obtain ⟨u,hu,rv⟩:=r.get ha
   have hp:ps[i]?=some y:=by
     rw [<-S.pre,List.getElem?_take_of_lt (by omega)]; exact h1
   have ndP:ps.Nodup:=by rw [<-S.pre]; exact S.nd.sublist (Ge _ _)
   refine ⟨u,rv,?_⟩
   rcases S.par y (Ak hp) with k | k
   · exact .inl ⟨k,sE ndP hp hu k⟩
   · obtain ⟨c,e⟩:=cA (n:=s.heap.objs.size + 1) k
     refine .inr ⟨.inl k,c,e,?_⟩
     have q:=x.cell y c e
     rw [rY ndP hp hu (by show scope.names.lookup y≠_; rw [k]; decide)] at q
     exact q
 · exact e0.hok.fresh (Fb (x.above y c (Cy h)))
 · unfold jL
   show _=N.length
   rw [Aj,Ab,List.length_replicate]
   omega
theorem cZ7 {CX:CXT} {P:Program} {w:World} {K:PySem.W.Frag} {mg:Str->Option Value} {base:Heap} {k:Nat} {f:Addr} {name qual:Str} {params:Arguments} {body:List Stmt} {scope:Scope} {dV kV doc pm cdv ct oc:Value} {an od:Option Addr}
   {osl:Array (Option Value)} {N ps:List Str} {sp:Sp} (lk:K.lookup f=some ⟨oc,od,.func (PySem.W.fnOf name qual params body scope dV kV doc pm an cdv ct),osl⟩) (hcd:PySem.W.codeIn K cdv qual=true) (S:FnScope N ps scope)
   (len:∀ vs H Q E,sp vs H Q E->vs.length=ps.length)
   (hbody:∀ (A:Around) (outer:List Env) (s:Shared) (H:Hp) (vs:List V) (Q:VK) (E:XK),Room k (A.deeper (envOfC qual scope s.heap.objs.size f cdv))->sp vs H Q E->
     ∃ t,PSs (gF CX P w K mg base N qual scope f cdv A outer s H E) body t/\t { nx:=λ_ H'=>Q .non H',rt:=Q } (jL N vs) H) :
   FnOk P w K mg base CX (k + 1) f (PySem.W.fnOf name qual params body scope dV kV doc pm an cdv ct) ps sp:=by
 refine ⟨len,λA outer s H args us vs Q E hr e0 hb r hsp=>?_⟩
 have hl:=len _ _ _ _ hsp
 have KX:K.In s.heap:=e0.mod.kin.keeps λb o e=>(e0.bs b o e).1
 have lim:s.heap.NoLimit:=e0.mod.nolimit.keeps λb o e=>(e0.bs b o e).1
 have hkind:∀ y∈ps.zip us,scope.names.lookup y.1=some .local\/(scope.names.lookup y.1=some .cell/\((cellsFrom (s.heap.objs.size + 1) scope.names []).lookup y.1).isSome=true):=λ⟨n,v⟩ hy=>by
   rcases S.par n (List.of_mem_zip hy).1 with q | q
   · exact .inl q
   · exact .inr ⟨q,PySem.W.cellsFrom_some _ _ _ (.inl q)⟩
 refine codeAny_call_function hr.depth (KX _ _ lk) rfl S.co S.gen rfl (PySem.W.codeRec_of KX hcd) (hb _ _ _ _ ?_)
 refine wpAny_newFunctionEnv_cells S.kind hkind λenv he s1 x=>?_
 subst he
 refine ⟨lim.keeps x.toInCall.keep,codeAny_func ?_⟩
 obtain ⟨t,ht,hq⟩:=hbody A outer s H vs Q E (hr.deeper _) hsp
 have I:Inv (gF CX P w K mg base N qual scope f cdv A outer s H E) [] (jL N vs) H s1:=aJ5 S hr.hd e0 hl r x
 refine Cb (ht [] s1 (jL N vs) H _ I hq) (λfl s' hs=>?_) λe s' hs=>hs
 have fin:∀ {σ':St} {H':Hp} {v:V} {u:Value},Inv (gF CX P w K mg base N qual scope f cdv A outer s H E) [] σ' H' s'->RelV v u->Q v H'->CE outer P w H s Q u s' :=
   fun {σ' H' v u} J rv q=>⟨v,H',J.os,J.bare,J.base,J.hok,rv,q⟩
 cases fl with
 | ret u=>
   obtain ⟨v,σ',H',J,rv,q⟩:=hs
   exact fin J rv q
 | next=>
   obtain ⟨σ',H',J,q⟩:=hs
   exact fin (v:=V.non) (u:=Value.none) J rfl q
 | brk=>
   obtain ⟨_,_,_,q⟩:=hs
   exact False.elim q
 | cont=>
   obtain ⟨_,_,_,q⟩:=hs
   exact False.elim q
end L2
namespace L2
open PySem PySem.Spec PyProof.Rows
section
variable {X:Cx} {x:Str} {p pos:Pos} {e:Expr} {es:List Expr} {t:TA} {id T:String} {r:List V->Hp->VK->Prop}
def tCB (r:List V->Hp->VK->Prop) (t:TA):TE:=λσ H Q=>t σ H λvs H1=>r vs H1 Q
theorem bA (hc:CallR X (.builtin id) r) (hg:Gl X x) (hm:X.mg x=none) (hv:bootBuiltins x=some (.builtin id)) (ha:PA X (e :: es) t) (hn:x≠"__name__" := by decide) (hdb:(x == ("__debug__" : Str))=false:=by decide)
   (he:starEach (e :: es) X.env=(false,eval e X.env) :: starEach es X.env:=by rfl) (hpl:(backTo pos (starEach es X.env)).any (·.1)=false:=by rfl):PE X (.Call (.Name x p) (e :: es) [] pos) (tCB r t):=by
 intro pins s σ H Q I h
 refine Eb (iX I hg hm hv ?_ hn hdb)
 exact PyProof.Rows.callWith_builtin1 (thn (ha pos pins s σ H _ I h) λus s1 ⟨vs,H1,I1,r1,q1⟩=>hc pins s1 σ H1 vs us Q I1 r1 q1) he hpl
theorem bM (hc:CallR X (.type T) r) (hg:Gl X x) (hm:X.mg x=none) (hv:bootBuiltins x=some (.type T)) (ha:PA X (e :: es) t) (hn:x≠"__name__" := by decide) (hdb:(x == ("__debug__" : Str))=false:=by decide)
   (he:starEach (e :: es) X.env=(false,eval e X.env) :: starEach es X.env:=by rfl) (hpl:(backTo pos (starEach es X.env)).any (·.1)=false:=by rfl):PE X (.Call (.Name x p) (e :: es) [] pos) (tCB r t):=by
 intro pins s σ H Q I h
 refine Eb (iX I hg hm hv ?_ hn hdb)
 exact Cr (thn (ha pos pins s σ H _ I h) λus s1 ⟨vs,H1,I1,r1,q1⟩=>hc pins s1 σ H1 vs us Q I1 r1 q1) he hpl
end
end L2
namespace HT
open PySem PyProof.Rows
section
open PySem.SeqAt
open PySem.AutoSeq1 (wpAny_loadPart')
open PySem.MeetsSeq PySem.MeetsSeq2 PySem.MeetsSeq3
end
section
variable {prog:Program} {w:World} {A:Around} {E:Value->Shared->Prop} {s:Shared}
def sIx (n d:Nat):Option Int->Nat
 | none=>d
 | some v=>if v < 0 then (v + (n:Int)).toNat else min v.toNat n
end
end HT
namespace L2
open PySem PySem.Spec PyProof.Rows
abbrev TO:=St->Hp->(Option Int->Hp->Prop)->Prop
def PO (X:Cx) (e:Option Expr) (t:TO):Prop :=
 ∀ (pins:List (Addr × Obj)) (s:Shared) (σ:St) (H:Hp) (Q:Option Int->Hp->Prop),Inv X pins σ H s->t σ H Q->
   wpAny (model X.prog X.w) X.A (evalPart e X.env) (λu s'=>∃ o H',Inv X pins σ H' s'/\IsPart u o/\Q o H') X.xe s
def aXQ:TO:=λ_ H Q=>Q none H
section
variable {X:Cx} {e:Expr} {te:TE} {lo hi:Option Expr} {tl th:TO} {pos p2:Pos}
theorem cZB:PO X none aXQ:=by
 intro pins s σ H Q I h
 rw [evalPart_none]
 exact Ai ⟨none,H,I,.none,h⟩
def SlR (X:Cx) (r:V->Option Int->Option Int->Hp->VK->Prop):Prop :=
 ∀ (pins:List (Addr × Obj)) (s:Shared) (σ:St) (H:Hp) (x:V) (v vl vu:Value) (lo hi:Option Int) (sl:Addr) (Q:VK),Inv X pins σ H s->RelV x v->s.heap.IsSliceOf sl vl vu .none->IsPart vl lo->IsPart vu hi->r x lo hi H Q->
   ∃ T id,typeLookup (.type T) "__getitem__"=pure (some (.builtin id))/\s.TypeIs v T/\wpAny (model X.prog X.w) X.A (getItem v (.ref sl)) (EP X pins σ Q) X.xe s
theorem SlR.or {r r':V->Option Int->Option Int->Hp->VK->Prop} (h:SlR X r) (h':SlR X r'):SlR X (λx lo hi H Q=>r x lo hi H Q\/r' x lo hi H Q):=by
 intro pins s σ H x v vl vu lo hi sl Q I rx hs pl pu q
 rcases q with q | q
 · exact h pins s σ H x v vl vu lo hi sl Q I rx hs pl pu q
 · exact h' pins s σ H x v vl vu lo hi sl Q I rx hs pl pu q
def tSl (r:V->Option Int->Option Int->Hp->VK->Prop) (te:TE) (tl th:TO):TE:=λσ H Q=>te σ H λx H1=>tl σ H1 λl H2=>th σ H2 λu H3=>r x l u H3 Q
theorem vS {r:V->Option Int->Option Int->Hp->VK->Prop} (hr:SlR X r) (he:PE X e te) (hl:PO X lo tl) (hu:PO X hi th):PE X (.Subscript e (.Slice lo hi none p2) pos) (tSl r te tl th):=by
 intro pins s σ H Q I h
 refine Subscript_ (thn (he pins s σ H _ I h) λv s1 ⟨x,H1,I1,r1,q1⟩=>?_)
 refine wpAny_Slice (thn (hl pins s1 σ H1 _ I1 q1) λvl s2 ⟨l,H2,I2,pl,q2⟩=>thn (hu pins s2 σ H2 _ I2 q2) λvu s3 ⟨u,H3,I3,pu,q3⟩=>?_)
 rw [evalPart_none]
 refine Ai ?_
 have I4:Inv X pins σ H3 { s3 with heap:=s3.heap.push { cls:=.type "slice",data:=.fields #[vl,vu,.none] } }:=I3.kept (t':=s3.toks) λb ob q=>Af _ q
 obtain ⟨T,id,hT,ht,hg⟩:=hr pins { s3 with heap:=s3.heap.push { cls:=.type "slice",data:=.fields #[vl,vu,.none] } } σ H3 x v vl vu l u s3.heap.objs.size Q I4 r1 (Heap.IsSliceOf.new ..) pl pu q3
 show wpAny (model X.prog X.w) X.A (subscriptTail e (.Slice lo hi none p2) v (.ref s3.heap.objs.size)) (EP X pins σ Q) X.xe { s3 with heap:=s3.heap.push { cls:=.type "slice",data:=.fields #[vl,vu,.none] } }
 exact tail_any (ops:=[.ref s3.heap.objs.size,v]) ht hT hg (by with_unfolding_all rfl)
def rE (xs:List V) (lo hi:Option Int):List V:=(xs.drop (HT.sIx xs.length 0 lo)).take (HT.sIx xs.length xs.length hi - HT.sIx xs.length 0 lo)
theorem vR (xs:List V) (lo hi:Option Int):(rE xs lo hi).length<=xs.length:=by
 unfold rE
 rw [Bo,Co]
 omega
end
end L2
namespace L2
open PySem PySem.Spec PyProof.Rows
def ixN (n:Nat) (i:Int):Option Nat:=if 0<=i then (if i < n then some i.toNat else none) else if -(n:Int)<=i then some (i + n).toNat else none
def atI {α:Type} (xs:List α) (i:Int):Option α:=(ixN xs.length i).bind λj=>xs[j]?
theorem aQV {n:Nat} {i:Int} {j:Nat} (h:ixN n i=some j):seqIndex? i n=some j/\j < n/\-(n:Int)<=i/\i < n:=by
 unfold ixN at h
 by_cases h0:0<=i
 · rw [if_pos h0] at h
   by_cases h1:i < n
   · rw [if_pos h1] at h
     have e:i.toNat=j:=Br h
     exact ⟨by rw [seqIndex_of h0 h1,e],by omega,by omega,h1⟩
   · rw [if_neg h1] at h; cases h
 · rw [if_neg h0] at h
   by_cases h1:-(n:Int)<=i
   · rw [if_pos h1] at h
     have e:(i + n).toNat=j:=Br h
     exact ⟨by rw [seqIndex_neg (by omega) h1,e],by omega,h1,by omega⟩
   · rw [if_neg h1] at h; cases h
theorem uU {α:Type} {xs:List α} {i:Int} {v:α} (h:atI xs i=some v):∃ j,seqIndex? i xs.length=some j/\xs[j]?=some v/\j < xs.length/\-(xs.length:Int)<=i/\i < xs.length:=by
 unfold atI at h
 cases e:ixN xs.length i with
 | none=>rw [e] at h; cases h
 | some j=>
   rw [e] at h
   obtain ⟨h1,h2,h3,h4⟩:=aQV e
   exact ⟨j,h1,h,h2,h3,h4⟩
theorem eO {α:Type} {xs:List α} {j:Nat} {v:α} (h:xs[j]?=some v):atI xs (j:Int)=some v:=by
 have hj:j < xs.length:=(Ae.mp h).1
 have e:ixN xs.length (j:Int)=some j:=by
   unfold ixN
   rw [if_pos (by omega),if_pos (by omega)]; simp
 unfold atI; rw [e]; exact h
theorem wF {α:Type} (xs:List α) (v:α):atI (xs ++ [v]) (-1)=some v:=by
 have hl:(xs ++ [v]).length=xs.length + 1:=by simp
 have e:ixN (xs ++ [v]).length (-1)=some xs.length:=by
   unfold ixN
   rw [hl,if_neg (by decide),if_pos (by omega)]
   congr 1
   omega
 unfold atI
 rw [e]
 show (xs ++ [v])[xs.length]?=some v
 simp
def cXB (b:Expr):Prop:=∀ o i,subscripted b false o i=operate [o,i] (getItem o i)
def IxR (X:Cx) (r:R2):Prop :=
 ∀ (value slice:Expr) (pins:List (Addr × Obj)) (s:Shared) (σ:St) (H:Hp) (x y:V) (v u:Value) (Q:VK),Inv X pins σ H s->RelV x v->RelV y u->r x y H Q->
   subscripted slice false v u=operate [v,u] (getItem v u)->wpAny (model X.prog X.w) X.A (subscriptTail value slice v u) (EP X pins σ Q) X.xe s
def MtR (X:Cx) (id:String) (r:V->List V->Hp->VK->Prop):Prop :=
 ∀ (pins:List (Addr × Obj)) (s:Shared) (σ:St) (H:Hp) (x:V) (xs:List V) (v:Value) (us:List Value) (Q:VK),Inv X pins σ H s->RelV x v->Vals xs us->r x xs H Q->
   wpAny (model X.prog X.w) X.A (call (.builtin id) (v :: us)) (EP X pins σ Q) X.xe s
section
variable {X:Cx} {a b:Expr} {ta tb:TE} {pos:Pos}
theorem IxR.or {r r':R2} (h:IxR X r) (h':IxR X r'):IxR X (λx y H Q=>r x y H Q\/r' x y H Q):=by
 intro value slice pins s σ H x y v u Q I rx ry q hs
 rcases q with q | q
 · exact h value slice pins s σ H x y v u Q I rx ry q hs
 · exact h' value slice pins s σ H x y v u Q I rx ry q hs
theorem MtR.or {id:String} {r r':V->List V->Hp->VK->Prop} (h:MtR X id r) (h':MtR X id r'):MtR X id (λx xs H Q=>r x xs H Q\/r' x xs H Q):=by
 intro pins s σ H x xs v us Q I rx rs q
 rcases q with q | q
 · exact h pins s σ H x xs v us Q I rx rs q
 · exact h' pins s σ H x xs v us Q I rx rs q
theorem bH {r:R2} (hr:IxR X r) (ha:PE X a ta) (hb:PE X b tb) (hs:cXB b):PE X (.Subscript a b pos) (tOp r ta tb):=by
 intro pins s σ H Q I h
 exact Subscript_ (dX6 ha hb I h λv u s2 x y H2 I2 rx ry q=>hr a b pins s2 σ H2 x y v u Q I2 rx ry q (hs _ _))
def cJW (K:PySem.W.Frag):R2:=λx y H Q=>∃ p xs i v,x=.ref p/\y=.int i/\SqL K H p xs/\atI xs i=some v/\Q v H
def dZO (K:PySem.W.Frag):R2:=λx y H Q=>∃ p xs i v,x=.ref p/\y=.int i/\SqT K H p xs/\atI xs i=some v/\Q v H
def dZN:R2:=λx y H Q=>∃ z i c,x=.str z/\y=.int i/\z.length<=sizeLine/\atI z.cps.toList i=some c/\Q (.str ⟨#[c]⟩) H
theorem ix_list:IxR X (cJW X.K):=by
 intro value slice pins s σ H x y v u Q I rx ry h hs
 obtain ⟨p,xs,i,z,rfl,rfl,hq,he,q⟩:=h
 cases rx
 obtain ⟨t,rfl⟩:=ry
 obtain ⟨its,r,pl,hz⟩:=I.list hq
 obtain ⟨j,h1,h2,h3,h4,h5⟩:=uU he
 obtain ⟨w,ew,rw'⟩:=r.get h2
 have hl:=r.length
 have hn:=kW
 have fin:EP X pins σ Q w s:=⟨z,H,I,rw',q⟩
 by_cases h0:0<=i
 · have hj:i.toNat=j:=by
     rw [seqIndex_of h0 h5] at h1
     exact Br h1
   exact item_listR pl.isList h0 (by omega) (by rw [hj]; simpa using ew) fin hs
 · have hj:(i + (its.toArray.size:Int)).toNat=j:=by
     rw [seqIndex_neg (by omega) h4] at h1
     rw [Bm,<-hl]
     exact Br h1
   exact subscriptTail_builtinR (x:=w) pl.isList.typeIs slot_list_getitem.lookup
     (wpAny_getItem_list_neg (Q:=λr s'=>r=w/\EP X pins σ Q r s') pl.isList (by omega) (by rw [List.size_toArray] <;> omega) (by omega) (by rw [hj]; simpa using ew) ⟨rfl,fin⟩) hs
theorem ix_tup:IxR X (dZO X.K):=by
 intro value slice pins s σ H x y v u Q I rx ry h hs
 obtain ⟨p,xs,i,z,rfl,rfl,hq,he,q⟩:=h
 cases rx
 obtain ⟨t,rfl⟩:=ry
 obtain ⟨its,r,pl,hz⟩:=I.tuple hq
 obtain ⟨j,h1,h2,h3,h4,h5⟩:=uU he
 obtain ⟨w,ew,rw'⟩:=r.get h2
 have hl:=r.length
 have hn:=kW
 have fin:EP X pins σ Q w s:=⟨z,H,I,rw',q⟩
 exact subscriptTail_builtinR (x:=w) pl.typeIs slot_tuple_getitem.lookup
   (getItem_tuple (j:=j) (Q:=λr s'=>r=w/\EP X pins σ Q r s') pl (by omega) (by omega) (by rw [List.size_toArray,<-hl]; exact h1) (by simpa using ew) ⟨rfl,fin⟩) hs
theorem cJ8:IxR X dZN:=by
 intro value slice pins s σ H x y v u Q I rx ry h hs
 obtain ⟨z,i,c,rfl,rfl,hz,he,q⟩:=h
 obtain ⟨t,rfl⟩:=rx
 obtain ⟨t',rfl⟩:=ry
 obtain ⟨j,h1,h2,h3,h4,h5⟩:=uU he
 have hl:z.cps.toList.length=z.length:=by simp [Str.length]
 rw [hl] at h1 h4 h5
 have hn:=kW
 exact tail_any (typeIs_str s z t) slot_str_getitem.lookup (getItem_str (c:=c) (by
   have e1:decide (i < -(2 ^ 63:Int))=false:=Au (by omega)
   have e2:decide (i ≥ 2 ^ 63)=false:=Au (by omega)
   rw [e1,e2,Bool.or_false]) (by rw [h1]; simpa using h2) ⟨.str ⟨#[c]⟩,H,I.tok _,⟨_,rfl⟩,q⟩) hs
def rIx (K:PySem.W.Frag):R2:=λx y H Q=>cJW K x y H Q\/dZO K x y H Q\/dZN x y H Q
theorem ix_seq:IxR X (rIx X.K):=ix_list.or (ix_tup.or cJ8)
theorem aQT (its:List Value) (n j:Nat) (u:Value):Obj.mapSeq (·.setIfInBounds j u) { cls:=.type "list",data:=.seq its.toArray n }={ cls:=.type "list",data:=.seq (its.set j u).toArray n }:=by
 simp [Obj.mapSeq]
theorem Inv.lst {pins:List (Addr × Obj)} {σ:St} {H:Hp} {s:Shared} {p:Addr} {xs:List V} (I:Inv X pins σ H s) (h:H p=some (.lst xs)) :
   ∃ (its:List Value) (n:Nat),Vals xs its/\s.heap.get? p=some { cls:=.type "list",data:=.seq its.toArray n }/\xs.length<=sizeLine:=by
 obtain ⟨z,its,n,r,e⟩:=I.hok p _ h
 exact ⟨its,n,r,e,z⟩
theorem Inv.lstUpd {pins:List (Addr × Obj)} {σ:St} {H:Hp} {s:Shared} {p:Addr} {xs ys:List V} {its its':List Value} {n n':Nat} {f:Obj->Obj} (I:Inv X pins σ H s) (h:H p=some (.lst xs))
   (ho:s.heap.get? p=some { cls:=.type "list",data:=.seq its.toArray n }) (hf:f { cls:=.type "list",data:=.seq its.toArray n }={ cls:=.type "list",data:=.seq its'.toArray n' }) (r:Vals ys its') (hz:ys.length<=sizeLine) (t:Nat) :
   Inv X pins σ (upd H p (.lst ys)) { s with heap:=s.heap.update p f,toks:=t }:=by
 have e:(s.heap.update p f).get? p=some { cls:=.type "list",data:=.seq its'.toArray n' }:=by
   rw [Heap.get?_update_self f ho (by rw [hf] <;> rfl),hf]
 refine I.write (x:=p) (e:=p) (by rw [h]; trivial) (.inl rfl) (λb u hb q=>(Bz _ _ (Ne.symm hb)).trans q) ⟨_,e⟩ ?_
 exact ⟨hz,its',n',r,e⟩
def cZN:V->V->V->Hp->(Hp->Prop)->Prop:=λo i v H Q=>∃ p xs k j,o=.ref p/\i=.int k/\H p=some (.lst xs)/\ixN xs.length k=some j/\Q (upd H p (.lst (xs.set j v)))
theorem bXK:dJQ X cZN:=by
 intro pins s σ H o i v ov iv u Q I ro ri rv h
 obtain ⟨p,xs,k,j,rfl,rfl,hp,hj,q⟩:=h
 cases ro
 obtain ⟨t,rfl⟩:=ri
 obtain ⟨its,n,r,ho,hz⟩:=I.lst hp
 obtain ⟨h1,h2,h3,h4⟩:=aQV hj
 have hl:=r.length
 have hn:=kW
 have I':Inv X pins σ (upd H p (.lst (xs.set j v))) { s with heap:=s.heap.update p (Obj.mapSeq (·.setIfInBounds j u)) } :=
   I.lstUpd hp ho (aQT its n j u) (r.set rv j) (by rw [Eh]; exact hz) s.toks
 by_cases h0:0<=k
 · have hk:k.toNat=j:=by
     rw [seqIndex_of h0 h4] at h1
     exact Br h1
   exact PySem.W.ki_setAt ho h0 (by omega) (by rw [Bm,<-hl]; exact h4) (by rw [hk]; exact ⟨_,I',q⟩)
 · have hk:(k + (its.toArray.size:Int)).toNat=j:=by
     rw [seqIndex_neg (by omega) h3] at h1
     rw [Bm,<-hl]
     exact Br h1
   exact PySem.W.ki_setBack ho (by omega) (by rw [Bm,<-hl]; exact h3) (by omega) (by rw [hk]; exact ⟨_,I',q⟩)
theorem tJ (lo hi:Option Int) (n:Nat):(sliceBounds lo hi none n).1=((HT.sIx n 0 lo:Nat):Int)/\(sliceBounds lo hi none n).2.1=((HT.sIx n n hi:Nat):Int)/\(sliceBounds lo hi none n).2.2=1:=by
 refine ⟨?_,?_,rfl⟩
 · cases lo with
   | none=>simp [sliceBounds,HT.sIx]
   | some i=>
     simp only [sliceBounds,HT.sIx,Option.getD_none,show (1:Int) > 0 by decide,if_true]
     by_cases h:i < 0
     · simp only [h,if_true] <;> omega
     · simp only [h,if_false] <;> omega
 · cases hi with
   | none=>simp [sliceBounds,HT.sIx]
   | some i=>
     simp only [sliceBounds,HT.sIx,Option.getD_none,show (1:Int) > 0 by decide,if_true]
     by_cases h:i < 0
     · simp only [h,if_true] <;> omega
     · simp only [h,if_false] <;> omega
theorem qS (its:List Value) (lo hi:Option Int):slicePick its.toArray lo hi none=((its.drop (HT.sIx its.length 0 lo)).take (HT.sIx its.length its.length hi - HT.sIx its.length 0 lo)).toArray:=by
 obtain ⟨h1,h2,h3⟩:=tJ lo hi its.toArray.size
 unfold slicePick
 rw [h1,h2,h3]
 simp only [sliceRange_one,pick_run,List.size_toArray] <;> rfl
def eQ1 (K:PySem.W.Frag):V->Option Int->Option Int->Hp->VK->Prop:=λx lo hi H Q=>∃ a xs,x=.ref a/\SqL K H a xs/\∀ p,H p=none->Q (.ref p) (upd H p (.lst (rE xs lo hi)))
theorem sl_list:SlR X (eQ1 X.K):=by
 intro pins s σ H x v vl vu lo hi sl Q I rx hs pl pu h
 obtain ⟨a,xs,rfl,hx,q⟩:=h
 cases rx
 obtain ⟨its,r,ht,hz⟩:=I.list hx
 have hlen:=r.length
 refine ⟨"list",_,slot_list_getitem.lookup,ht.isList.typeIs,?_⟩
 refine wpAny_getItem_list_slice ht.isList hs pl pu .none (by simp) ?_ (by rw [List.size_toArray] <;> omega)
 rw [qS,<-hlen]
 refine ⟨.ref s.heap.objs.size,_,I.laid (t':=s.toks) (o:=.lst (rE xs lo hi)) (λb ob q=>Af _ q) (Ah _) ?_,rfl,q _ (I.hok.fresh (Ah _))⟩
 exact ⟨Bb (vR xs lo hi) hz,_,0,(r.drop (HT.sIx xs.length 0 lo)).take (HT.sIx xs.length xs.length hi - HT.sIx xs.length 0 lo),Av _ rfl⟩
def bX:V->Bool
 | .non=>true
 | .bl _=>true
 | .int _=>true
 | .str _=>true
 | _=>false
def eqV:V->V->Bool
 | .non,.non=>true
 | .bl a,.bl b=>a == b
 | .bl a,.int b=>(if a then 1 else 0) == b
 | .int a,.bl b=>a == (if b then 1 else 0)
 | .int a,.int b=>a == b
 | .str a,.str b=>a == b
 | _,_=>false
theorem lN {A:Around} {s:Shared} {y x:V} {u v:Value} (ry:RelV y u) (rx:RelV x v) (fy:bX y=true) (fx:bX x=true):SeqAt.EqAt A s u v (eqV y x):=by
 cases y with
 | non=>
   cases ry
   cases x with
   | non=>cases rx; exact SeqAt.EqAt.same _
   | bl b=>cases rx; exact SeqAt.EqAt.none_bool b
   | int b=>obtain ⟨t,rfl⟩:=rx; exact SeqAt.EqAt.none_int b t
   | str b=>obtain ⟨t,rfl⟩:=rx; exact SeqAt.EqAt.none_str b t
   | _=>exact absurd (show false=true from fx) Am
 | bl a=>
   cases ry
   cases x with
   | non=>cases rx; exact SeqAt.EqAt.bool_none a
   | bl b=>cases rx; exact SeqAt.EqAt.bool_bool a b
   | int b=>obtain ⟨t,rfl⟩:=rx; exact SeqAt.EqAt.bool_int a b t
   | str b=>obtain ⟨t,rfl⟩:=rx; exact SeqAt.EqAt.bool_str a b t
   | _=>exact absurd (show false=true from fx) Am
 | int a=>
   obtain ⟨t',rfl⟩:=ry
   cases x with
   | non=>cases rx; exact SeqAt.EqAt.int_none a t'
   | bl b=>cases rx; exact SeqAt.EqAt.int_bool a t' b
   | int b=>obtain ⟨t,rfl⟩:=rx; exact SeqAt.EqAt.int_int a t' b t
   | str b=>obtain ⟨t,rfl⟩:=rx; exact SeqAt.EqAt.int_str a t' b t
   | _=>exact absurd (show false=true from fx) Am
 | str a=>
   obtain ⟨t',rfl⟩:=ry
   cases x with
   | non=>cases rx; exact SeqAt.EqAt.str_none a t'
   | bl b=>cases rx; exact SeqAt.EqAt.str_bool a t' b
   | int b=>obtain ⟨t,rfl⟩:=rx; exact SeqAt.EqAt.str_int a t' b t
   | str b=>obtain ⟨t,rfl⟩:=rx; exact SeqAt.EqAt.str_str a t' b t
   | _=>exact absurd (show false=true from fx) Am
 | _=>exact absurd (show false=true from fy) Am
def eqU (x:V) (u:Value):Bool:=match u with
 | .none=>eqV .non x
 | .bool b=>eqV (.bl b) x
 | .int i _=>eqV (.int i) x
 | .str z _=>eqV (.str z) x
 | _=>false
theorem bXA {x y:V} {u:Value} (r:RelV y u) (f:bX y=true):eqU x u=eqV y x:=by
 cases y with
 | non=>cases r; rfl
 | bl b=>cases r; rfl
 | int i=>obtain ⟨t,rfl⟩:=r; rfl
 | str z=>obtain ⟨t,rfl⟩:=r; rfl
 | _=>exact absurd (show false=true from f) Am
theorem mL {x:V}:∀ {xs:List V} {us:List Value},Vals xs us->xs.all bX=true->us.any (eqU x)=xs.any λy=>eqV y x
 | _,_,.nil,_=>rfl
 | y :: xs,u :: us,.cons r t,f=>by
   rw [List.all_cons,Dz] at f
   rw [Gq,Gq,bXA r f.1,mL t f.2]
theorem jD {A:Around} {s:Shared} {x:V} {v:Value} (rx:RelV x v) (fx:bX x=true):∀ {xs:List V} {us:List Value},Vals xs us->xs.all bX=true->∀ u∈us,SeqAt.EqAt A s u v (eqU x u)
 | _,_,.nil,_=>λu hu=>by cases hu
 | y :: xs,u :: us,.cons r t,f=>λu' hu=>by
   rw [List.all_cons,Dz] at f
   rcases Bc.mp hu with rfl | hu
   · rw [bXA r f.1]; exact lN r rx f.1 fx
   · exact jD rx fx t f.2 u' hu
def inV (x:V) (xs:List V):Bool:=xs.any λy=>eqV y x
def rIn (K:PySem.W.Frag) (neg:Bool):R2:=λx y H Q=>∃ p xs,y=.ref p/\(SqL K H p xs\/SqT K H p xs)/\bX x=true/\xs.all bX=true/\Q (.bl (if neg then !inV x xs else inV x xs)) H
theorem op_in_seq:OpR X (compareOp .In) (rIn X.K false):=by
 intro pins s σ H x y v u Q I rx ry h
 obtain ⟨p,xs,rfl,hq,fx,fs,q⟩:=h
 cases ry
 rcases hq with hq | hq
 · obtain ⟨its,r,pl,hz⟩:=I.list hq
   refine SeqAt.in_listAt (eqU x) pl.isList (λw hw=>jD rx fx r fs w (by simpa using hw)) ⟨.bl _,H,I,rfl,?_⟩
   rw [show its.toArray.any (eqU x)=its.any (eqU x) by simp,mL r fs]
   exact q
 · obtain ⟨its,r,pl,hz⟩:=I.tuple hq
   refine SeqAt.in_tupleAt (eqU x) pl (λw hw=>jD rx fx r fs w (by simpa using hw)) ⟨.bl _,H,I,rfl,?_⟩
   rw [show its.toArray.any (eqU x)=its.any (eqU x) by simp,mL r fs]
   exact q
theorem op_notIn_seq:OpR X (compareOp .NotIn) (rIn X.K true):=by
 intro pins s σ H x y v u Q I rx ry h
 obtain ⟨p,xs,rfl,hq,fx,fs,q⟩:=h
 cases ry
 rcases hq with hq | hq
 · obtain ⟨its,r,pl,hz⟩:=I.list hq
   refine SeqAt.notIn_listAt (eqU x) pl.isList (λw hw=>jD rx fx r fs w (by simpa using hw)) ⟨.bl _,H,I,rfl,?_⟩
   rw [show its.toArray.any (eqU x)=its.any (eqU x) by simp,mL r fs]
   exact q
 · obtain ⟨its,r,pl,hz⟩:=I.tuple hq
   refine SeqAt.notIn_tupleAt (eqU x) pl (λw hw=>jD rx fx r fs w (by simpa using hw)) ⟨.bl _,H,I,rfl,?_⟩
   rw [show its.toArray.any (eqU x)=its.any (eqU x) by simp,mL r fs]
   exact q
theorem mK:CallR X (.builtin "len") (λxs H Q=>∃ p ys,xs=[.ref p]/\(SqL X.K H p ys\/SqT X.K H p ys)/\Q (.int ys.length) H):=by
 intro pins s σ H xs us Q I r h
 obtain ⟨p,ys,rfl,hq,q⟩:=h
 obtain ⟨u,rfl,rx⟩:=eX r
 cases rx
 have hn:=kW
 rcases hq with hq | hq
 · obtain ⟨its,r',pl,hz⟩:=I.list hq
   have hlen:=r'.length
   exact Calls.call_len_list pl.isList (by simp only [List.size_toArray] <;> omega) ⟨.int ys.length,H,I.tok _,⟨s.toks + 1,by rw [List.size_toArray,hlen]⟩,q⟩
 · obtain ⟨its,r',pl,hz⟩:=I.tuple hq
   have hlen:=r'.length
   exact len_tuple pl (by simp only [List.size_toArray] <;> omega) ⟨.int ys.length,H,I.tok _,⟨s.toks + 1,by rw [List.size_toArray,hlen]⟩,q⟩
theorem CallR.or {f:Value} {r r':List V->Hp->VK->Prop} (h:CallR X f r) (h':CallR X f r'):CallR X f (λxs H Q=>r xs H Q\/r' xs H Q):=by
 intro pins s σ H xs us Q I rs q
 rcases q with q | q
 · exact h pins s σ H xs us Q I rs q
 · exact h' pins s σ H xs us Q I rs q
theorem call_list_of:CallR X (.type "list") (λxs H Q=>∃ p ys,xs=[.ref p]/\(SqL X.K H p ys\/SqT X.K H p ys)/\∀ l,H l=none->Q (.ref l) (upd H l (.lst ys))):=by
 intro pins s σ H xs us Q I r h
 obtain ⟨p,ys,rfl,hq,q⟩:=h
 obtain ⟨u,rfl,rx⟩:=eX r
 cases rx
 have fin:∀ (its:List Value),Vals ys its->ys.length<=sizeLine->∀ (h':Heap) (c':Nat),(∀ b o',s.heap.get? b=some o'->h'.get? b=some o')->
     h'.get? s.heap.objs.size=some { cls:=.type "list",dict:=none,data:=.seq its.toArray c',slots:=#[] }->EP X pins σ Q (.ref s.heap.objs.size) { s with heap:=h' }:=λits r' hz h' c' kp e=>
   ⟨.ref s.heap.objs.size,_,I.laid (t':=s.toks) kp (Ah _) (show ObjOk X.prog X.w _ h' _ (.lst ys) from ⟨hz,its,c',r',e⟩),rfl,q _ (I.hok.fresh (Ah _))⟩
 rcases hq with hq | hq
 · obtain ⟨its,r',pl,hz⟩:=I.list hq
   have hlen:=r'.length
   obtain ⟨o,ho,hc,n,hd⟩:=pl.isList
   exact call_list_seq p (.inl rfl) ho hc hd (λh' c' kp e=>fin its r' hz h' c' kp e) (by simp only [List.size_toArray] <;> omega)
 · obtain ⟨its,r',pl,hz⟩:=I.tuple hq
   have hlen:=r'.length
   obtain ⟨o,ho,hc,n,hd⟩:=pl
   exact call_list_seq p (.inr rfl) ho hc hd (λh' c' kp e=>fin its r' hz h' c' kp e) (by simp only [List.size_toArray] <;> omega)
def tyV (K:PySem.W.Frag) (T:String) (x:V) (H:Hp):Prop:=match x with
 | .str _=>T="str"
 | .int _=>T="int"
 | .ref p=>(T="list"/\∃ xs,SqL K H p xs)\/(T="tuple"/\∃ o,K.lookup p=some o/\o.cls=.type "tuple"/\o.dict=none)\/
     (T="dict"/\((∃ kvs,H p=some (.dK kvs))\/∃ kvs,H p=some (.dT kvs)))\/(T="set"/\∃ S n,H p=some (.set S n))
 | _=>False
theorem dQM {pins:List (Addr × Obj)} {σ:St} {H:Hp} {s:Shared} {T:String} {x:V} {v:Value} (I:Inv X pins σ H s) (r:RelV x v) (ty:tyV X.K T x H) :
   s.TypeIs v T/\∀ a,v=.ref a->∃ ob,s.heap.get? a=some ob/\ob.dict=none:=by
 cases x with
 | str z=>
   obtain ⟨t,rfl⟩:=r
   cases (show T="str" from ty)
   exact ⟨typeIs_str s z t,λ_ e=>nomatch e⟩
 | int i=>
   obtain ⟨t,rfl⟩:=r
   cases (show T="int" from ty)
   exact ⟨typeIs_int s i t,λ_ e=>nomatch e⟩
 | ref p=>
   cases r
   rcases ty with ⟨rfl,xs,hq⟩ | ⟨rfl,o,hk,hc,hd⟩ | ⟨rfl,hk⟩ | ⟨rfl,S,n,hk⟩
   · obtain ⟨its,_,pl,_⟩:=I.list hq
     refine ⟨pl.isList.typeIs,λa e=>?_⟩
     cases e
     obtain ⟨o,n,e,c,hd,_⟩:=pl
     exact ⟨o,e,hd⟩
   · refine ⟨⟨o,I.kIn p o hk,hc⟩,λa e=>?_⟩
     cases e
     exact ⟨o,I.kIn _ o hk,hd⟩
   · have z:∃ o,s.heap.get? p=some o/\o.ExactDict:=by
       rcases hk with ⟨kvs,hk⟩ | ⟨kvs,hk⟩
       · obtain ⟨_,_,_,_,o,_,_,e,ex,_⟩:=I.hok p _ hk
         exact ⟨o,e,ex⟩
       · obtain ⟨_,_,_,_,o,_,_,e,ex,_⟩:=I.hok p _ hk
         exact ⟨o,e,ex⟩
     obtain ⟨o,e,ex⟩:=z
     refine ⟨⟨o,e,ex.1⟩,λa e2=>?_⟩
     cases e2
     exact ⟨o,e,ex.2.1⟩
   · obtain ⟨o,_,_,_,e,ex,_⟩:=I.hok p _ hk
     refine ⟨⟨o,e,ex.1⟩,λa e2=>?_⟩
     cases e2
     exact ⟨o,e,ex.2.1⟩
 | _=>exact False.elim ty
variable {o e:Expr} {es:List Expr} {to:TE} {t:TA} {name:Str} {apos cpos:Pos} {T id:String} {r:V->List V->Hp->VK->Prop}
end
end L2
namespace L2
open PySem PySem.Spec PyProof.Rows
def MtM (X:Cx) (id:String) (r:V->List V->Hp->VK->Prop):Prop :=
 ∀ (pins:List (Addr × Obj)) (s:Shared) (σ:St) (H:Hp) (x:V) (xs:List V) (v:Value) (us:List Value) (Q:VK),Inv X pins σ H s->RelV x v->Vals xs us->r x xs H Q->
   wpAny (model X.prog X.w) X.A (call (.builtin id) (v :: us)) (EP X pins σ Q) X.xe s
theorem Vals.one:∀ {x:V} {us:List Value},Vals [x] us->∃ u,us=[u]/\RelV x u
 | _,_,.cons r .nil=>⟨_,rfl,r⟩
theorem Vals.two:∀ {x y:V} {us:List Value},Vals [x,y] us->∃ u v,us=[u,v]/\RelV x u/\RelV y v
 | _,_,_,.cons r (.cons q .nil)=>⟨_,_,rfl,r,q⟩
theorem Vals.zero:∀ {us:List Value},Vals [] us->us=[]
 | _,.nil=>rfl
theorem Vals.reverse {xs:List V} {us:List Value} (h:Vals xs us):Vals xs.reverse us.reverse:=by
 induction h with
 | nil=>exact .nil
 | cons r t ih=>rw [List.reverse_cons,List.reverse_cons]; exact Vals.append ih (.cons r .nil)
section
variable {X:Cx} {pins:List (Addr × Obj)} {σ:St} {H:Hp} {s:Shared} {l b:Addr} {xs ys zs:List V}
theorem Inv.lset {its its':List Value} {n:Nat} {f:Array Value->Array Value} {t':Nat} (I:Inv X pins σ H s) (hH:H l=some (.lst xs))
   (e:s.heap.get? l=some { cls:=.type "list",data:=.seq its.toArray n }) (hf:f its.toArray=its'.toArray) (hv:Vals ys its') (hz:ys.length<=sizeLine) :
   Inv X pins σ (upd H l (.lst ys)) { s with heap:=s.heap.update l (Obj.mapSeq f),toks:=t' }:=by
 have q:=PySem.IsL.update e f
 rw [hf] at q
 refine I.write (x:=l) (e:=l) (by rw [hH]; exact trivial) (.inl rfl) (λb' u hb hu=>(Bz s.heap (Obj.mapSeq f) (Ne.symm hb)).trans hu) ⟨_,q⟩ ?_
 exact ⟨hz,its',_,hv,q⟩
theorem Inv.lnew {its:List Value} {t':Nat} (I:Inv X pins σ H s) (hv:Vals ys its) (hz:ys.length<=sizeLine) :
   Inv X pins σ (upd H s.heap.objs.size (.lst ys)) { s with heap:=s.heap.push { cls:=.type "list",data:=.seq its.toArray },toks:=t' } :=
 I.laid (λ_ _ q=>Af _ q) (Ah _) ⟨hz,its,0,hv,Av _ rfl⟩
theorem Inv.fresh (I:Inv X pins σ H s):H s.heap.objs.size=none:=I.hok.fresh (Ah _)
theorem Inv.lstM (I:Inv X pins σ H s) (hH:H l=some (.lst xs)):xs.length<=sizeLine/\∃ (its:List Value) (n:Nat),Vals xs its/\xs.length=its.length/\s.heap.get? l=some { cls:=.type "list",data:=.seq its.toArray n }:=by
 obtain ⟨z,its,n,r,e⟩:=I.hok l _ hH
 exact ⟨z,its,n,r,r.length,e⟩
theorem bJI {n:Nat} (h:n<=sizeLine):Builtin.List.listTooLong n=false:=by
 unfold Builtin.List.listTooLong
 exact Au (by omega)
end
section
variable {X:Cx}
def aQ0:V->List V->Hp->VK->Prop:=λx vs H Q=>∃ l xs y,x=.ref l/\vs=[y]/\H l=some (.lst xs)/\xs.length < sizeLine/\Q .non (upd H l (.lst (xs ++ [y])))
theorem sK:MtM X "list.append" aQ0:=by
 intro pins s σ H x vs v us Q I rx rv h
 obtain ⟨l,xs,y,rfl,rfl,hH,hz,q⟩:=h
 cases rx
 obtain ⟨u,rfl,ru⟩:=rv.one
 obtain ⟨z,its,n,r,hl,e⟩:=I.lstM hH
 refine call_meets F.slot_list_append ⟨_,e,rfl⟩ F.entry_list_append (F.args_list_append_2 _ _) (PySem.list_append l its.toArray n u (by rw [Bm]; omega)) ⟨e,?_⟩
 refine ⟨.non,_,I.lset (its':=its ++ [u]) hH e (by simp) (r.append (.cons ru .nil)) ?_,rfl,q⟩
 rw [Aj,List.length_singleton]
 omega
def aX5:V->List V->Hp->VK->Prop:=λx vs H Q=>∃ l b xs zs,x=.ref l/\vs=[.ref b]/\H l=some (.lst xs)/\H b=some (.lst zs)/\xs.length + zs.length<=sizeLine/\Q .non (upd H l (.lst (xs ++ zs)))
theorem aJL:MtM X "list.extend" aX5:=by
 intro pins s σ H x vs v us Q I rx rv h
 obtain ⟨l,b,xs,zs,rfl,rfl,hH,hB,hz,q⟩:=h
 cases rx
 obtain ⟨u,rfl,ru⟩:=rv.one
 cases ru
 obtain ⟨z,its,n,r,hl,e⟩:=I.lstM hH
 obtain ⟨z2,its2,n2,r2,hl2,e2⟩:=I.lstM hB
 have hsz:its.toArray.size + its2.toArray.size<=sizeLine:=by rw [Bm,Bm]; omega
 have hlong:¬ (!its.toArray.isEmpty && Builtin.List.listTooLong (its.toArray.size + its2.toArray.size))=true:=by
   rw [bJI hsz,Gf]
   exact Am
 refine call_meets F.slot_list_extend ⟨_,e,rfl⟩ F.entry_list_extend (F.args_list_extend_2 _ _)
   (AutoSeq1.list_extend_list_list_0 l its.toArray n b its2.toArray n2 hlong (by rw [Bm]; omega) (by omega)) ⟨e,e2,?_⟩
 refine ⟨.non,_,I.lset (its':=its ++ its2) hH e (by simp) (r.append r2) ?_,rfl,q⟩
 rw [Aj]
 omega
def eQ0:R2:=λx y H Q=>∃ l b xs zs,x=.ref l/\y=.ref b/\H l=some (.lst xs)/\H b=some (.lst zs)/\xs.length + zs.length<=sizeLine/\∀ p,H p=none->Q (.ref p) (upd H p (.lst (xs ++ zs)))
theorem dX5:OpR X (binaryOp .Add) eQ0:=by
 intro pins s σ H x y v u Q I rx ry h
 obtain ⟨l,b,xs,zs,rfl,rfl,hH,hB,hz,q⟩:=h
 cases rx
 cases ry
 obtain ⟨z,its,n,r,hl,e⟩:=I.lstM hH
 obtain ⟨z2,its2,n2,r2,hl2,e2⟩:=I.lstM hB
 refine PySem.P.add_list e e2 ?_ (by rw [Bm,Bm]; omega)
 have ea:its.toArray ++ its2.toArray=(its ++ its2).toArray:=by simp
 rw [ea]
 exact ⟨.ref _,_,I.lnew (t':=s.toks) (r.append r2) (by rw [Aj]; omega),rfl,q _ I.fresh⟩
end
section
variable {prog:Program} {w:World} {A:Around} {E:Value->Shared->Prop} {s:Shared}
end
section
variable {X:Cx}
end
end L2
namespace Att
open PySem PySem.W PySem.Calls PyProof.Rows
theorem oG {P:Params} {h:Heap}:∀ (ns:List Int) (vs:List Value),WellAll P h vs (ns.map WData.int)->IntsAre vs ns:=by
 intro ns
 induction ns with
 | nil=>
   intro vs w
   rw [Gv] at w
   cases w
   exact .nil
 | cons n ns ih=>
   intro vs w
   rw [Ar] at w
   cases w with
   | cons a b=>
     cases a
     exact .cons _ _ (ih _ b)
theorem aZZ {l:OpenLaw} {n:Nat} (hn:l.most=some n) {P:Params} {h:Heap} {args:List WData} {vals:List Value}
   (hpre:l.row.toRowW.claim.pre args=true) (hwl:WellAll P h vals args) :
   ∃ a vs ns,vals=[Value.ref a]/\args=[WData.list (ns.map WData.int)]/\h.get? a=some { cls:=.type "list",data:=.seq vs.toArray }/\IntsAre vs ns/\ns.length<=n:=by
 have hsh:WShape.hasAll [] args [.list .int]=true:=(pre_splitW hpre).1
 have hc:l.pre.holds [] { args:=args }=true:=(pre_splitW hpre).2
 obtain ⟨d,r,rfl,h1,h2⟩:=hasAllW_cons hsh
 obtain rfl:=hasAllW_nil h2
 obtain ⟨xs,rfl,h3⟩:=hasW_list h1
 obtain ⟨ns,rfl⟩:=items_int h3
 have hlen:ns.length<=n:=by
   unfold OpenLaw.pre at hc
   have h4:(WTm.not (.lt (.lit (.int (n:Int))) (.len (.arg 0)))).holds [] { args:=[.list (ns.map .int)] }=true:=by
     have h4:=(holds_andW hc).1
     rw [hn] at h4
     exact h4
   have h5:=condW_of h4 (w_not (w_lt w_lit (w_len_list (w_arg rfl))))
   rw [Ab] at h5
   refine Nat.le_of_not_lt λq=>?_
   have q':(n:Int) < ((ns.length:Nat):Int):=by omega
   first
     | (rw [Ap q'] at h5; exact absurd h5 (by decide))
     | (simp at h5; omega)
 cases hwl with
 | cons w1 w2=>
   cases w2
   cases w1 with
   | list ho hall=>exact ⟨_,_,ns,rfl,rfl,ho,oG ns _ hall,hlen⟩
theorem aZ6 (l:OpenLaw) (args:List WData):l.row.toRowW.claim.post args (.bool true) args=true :=
 postW_of (r:=l.row.toRowW) (X:=(true == true))
   (show WShape.has [] (.bool true) .bool=true by first | rfl | decide | simp [WShape.has,WShape.arms,WShape.armsAll])
   (show (WTm.eq .res (.lit (.bool true))).value [] { args:=args,res:=some (.bool true),after:=args }=some (.bool (true == true)) from w_eq_bool (w_res rfl) w_lit) rfl
theorem attach_call {l:OpenLaw} {n:Nat} {q:Program} {loose:List Str} {XP:(Str->Option Value)->Heap->Prop} {YP:World->Heap->Prop} {d:DefRec}
   (hn:l.most=some n) (hdf:d.params.defaults=[])
   (call:∀ (w:World) (s₀ s₁:Shared) (mg mb:Str->Option Value) (fa:Addr) (o:Obj) (pm cd doc:Value) (a:Addr) (vs:List Value) (ns:List Int),
     Ground q loose [] XP w s₀ mg mb s₁.heap->YP w s₁.heap->
     s₁.heap.get? fa=some o->o.data=.func (docDef d.name d.params d.body d.scope pm cd doc)->s₁.heap.CodeRec cd d.name->mg d.name=some (.ref fa)->
     s₁.heap.get? a=some { cls:=.type "list",data:=.seq vs.toArray }->IntsAre vs ns->ns.length<=n->s₁.gens=#[]->
     codeAny (model l.prog w) callerA (.call (.ref fa) ⟨[.ref a],[]⟩) (λr s'=>r=.ok (.ret (.bool true))/\OldK s₁.heap s'.heap/\s'.os=s₁.os/\AllBare s'.gens) s₁) :
   WalkO q loose XP YP l.row.toRowW d [] (λf vs=>PySem.call f vs):=by
 intro w s₀ s₁ mg mb G Y fa o pm cd doc dV kV ho hd hcd hD hmg hg args vals as hpre hlay hrd hwl hlo
 obtain rfl:dV=.none:=Dflts.none hD hdf
 obtain rfl:kV=.none:=Dflts.noKw hD
 obtain ⟨a,vs,ns,rfl,rfl,hobj,hints,hlen⟩:=aZZ hn hpre hwl
 refine enter_call (Ek (call w s₀ s₁ mg mb fa o pm cd doc a vs ns G Y ho (fd_plain hd) hcd hmg hobj hints hlen hg) λr s' hq=>?_)
 obtain ⟨rfl,h2,h3,h4⟩:=hq
 exact ⟨.inl ⟨.bool true,.bool true,[],rfl,λ_=>rfl,.bool true,aZ6 l _,λ_=>⟨List.Pairwise.nil,λ_ hm=>(nomatch hm)⟩⟩,h2,h3,h4⟩
section
variable {prog:Program} {w:World} {A:Around} {E:Value->Shared->Prop} {s:Shared} {K:Frag}
end
end Att
namespace L2
open PySem PySem.Spec PyProof.Rows
theorem sZ:∀ {vs:List Value} {ns:List Int},IntsAre vs ns->Vals (ns.map V.int) vs
 | _,_,.nil=>.nil
 | _,_,.cons n t h=>.cons ⟨t,rfl⟩ (sZ h)
def dQG (H:Hp):Prop:=∀ b,H b=none\/∃ o xs,H b=some (.frz o (.lst xs))
theorem bQ9 {P:Program} {w:World} {K:PySem.W.Frag} {mg mb:Str->Option Value} {CX:CXT} {k:Nat} {fa a:Addr} {fd:FuncData} {x:Str} {sp:Sp} {s₁:Shared} {vs:List Value} {ns:List Int}
   (KX:K.In s₁.heap) (hns:s₁.heap.Ns mainGlobals mg) (hb:s₁.heap.Ns builtinsNs mb) (hbb:∀ x:Str,x≠"__name__"->mb x=bootBuiltins x) (hlim:s₁.heap.NoLimit) (hg:s₁.gens=#[])
   (ha:s₁.heap.get? a=some { cls:=.type "list",data:=.seq vs.toArray }) (hi:IntsAre vs ns) (hl:ns.length<=sizeLine) (hr:Room k callerA)
   (F:∀ base:Heap,K.In base->base.Ns mainGlobals mg->FnOk P w K mg base CX k fa fd [x] sp) (hbind:∀ (s:Shared) (u:Value),BindsTo s fd ⟨[u],[]⟩ [(x,u)])
   (hsp:∀ H:Hp,dQG H->SqL K H a (ns.map V.int)->sp [.ref a] H (λv _=>v=.bl true) λ_ _ _=>False)
   (hCX:∀ H e s',CX [] H s₁ (λ_ _ _=>False) e s'->False) :
   codeAny (model P w) callerA (.call (.ref fa) ⟨[.ref a],[]⟩) (λr s'=>r=.ok (.ret (.bool true))/\OldK s₁.heap s'.heap/\s'.os=s₁.os/\AllBare s'.gens) s₁:=by
 have rv:=sZ hi
 have lenV:=hi.length
 -- from an abstract heap in which nothing but the script may be tracked
 have core:∀ H:Hp,dQG H->SqL K H a (ns.map V.int)->HOk P w H s₁.heap->(∀ b,H b≠none->b=a)->(H a≠none->K.lookup a=none)->
     codeAny (model P w) callerA (.call (.ref fa) ⟨[.ref a],[]⟩) (λr s'=>r=.ok (.ret (.bool true))/\OldK s₁.heap s'.heap/\s'.os=s₁.os/\AllBare s'.gens) s₁:=by
   intro H hO hS hok hA hK
   have base_of:∀ {b:Addr} {o:Obj},s₁.heap.get? b=some o->H b=none->(tR s₁.heap H).get? b=some o:=λe n=>bJX e n
   have noA:∀ {b:Addr} {o:Obj} {es:Array DictEntry} {ep:Nat},s₁.heap.get? b=some o->o.data=.dict es ep->H b=none:=fun {b o es ep} e d=>by
     cases q:H b with
     | none=>rfl
     | some u=>
       have e':b=a:=hA b (by rw [q]; simp)
       subst e'
       rw [ha] at e; cases e
       have d':Data.seq vs.toArray _=Data.dict es ep:=d
       cases d'
   have nsK:∀ {b:Addr} {m:Str->Option Value},s₁.heap.Ns b m->(tR s₁.heap H).Ns b m:=fun {b m} ⟨o,es,ep,e,d,r⟩=>⟨o,es,ep,base_of e (noA e d),d,r⟩
   have hKb:K.In (tR s₁.heap H):=λb o e=>base_of (KX b o e) (by
     cases q:H b with
     | none=>rfl
     | some u=>
       have e':b=a:=hA b (by rw [q]; simp)
       subst e'
       rw [hK (by rw [q]; simp)] at e; cases e)
   have hM:Mod K mg (tR s₁.heap H):=⟨hKb,nsK hns,⟨mb,nsK hb,hbb⟩,let ⟨mc,h1,h2⟩:=hlim; ⟨mc,nsK h1,h2⟩⟩
   have e0:Env0 P w K mg (tR s₁.heap H) callerA [] s₁ H:=⟨rfl,hM,λb o e=>cQ5 e,Nat.le_of_eq (aZ2 _ _),trivial,λb hb=>absurd (show b∈([]:List Addr) from hb) (by simp),hok,.of_eq hg⟩
   refine Ek ((F _ hKb (nsK hns)).run callerA [] s₁ H ⟨[.ref a],[]⟩ [.ref a] [.ref a] _ _ hr e0 (hbind s₁ (.ref a)) (.cons rfl .nil) (hsp H hO hS)) λr s' h=>?_
   cases r with
   | error e=>exact (hCX H e s' h).elim
   | ok fl=>
     cases fl with
     | next=>exact False.elim h
     | brk=>exact False.elim h
     | cont=>exact False.elim h
     | ret u=>
       obtain ⟨v,H',os,bare,un,hok',r',q⟩:=h
       have q':v=.bl true:=q
       subst q'
       obtain rfl:u=Value.bool true:=r'
       refine ⟨rfl,OldK.of_keep λb o e=>?_,os,bare⟩
       cases q:H b with
       | none=>exact un.keep b o e q (by intro z; exact absurd (show b∈([]:List Addr) from z) (by simp)) (by simp)
       | some u=>
         rcases hO b with z | ⟨ob,xs,z⟩
         · rw [q] at z; cases z
         · have z2:=un.frzs b ob _ z
           obtain ⟨e1,_⟩:=hok b _ z
           obtain ⟨e2,_⟩:=hok' b _ z2
           rw [e] at e1; cases e1
           exact e2
 cases hk:K.lookup a with
 | some o=>
   -- the script is one of the module's own objects
   have e:=KX a o hk
   rw [ha] at e
   cases e
   refine core (λ_=>none) (λ_=>.inl rfl) (.inr ⟨_,vs.toArray,_,hk,rfl,rfl,rfl,by rw [List.size_toArray,lenV]; exact hl,by simpa using rv⟩) (λb u z=>by have z':(none:Option HO)=some u:=z; cases z') (λb z=>absurd rfl z) λz=>absurd rfl z
 | none=>
   refine core (λb=>if b=a then some (.frz { cls:=.type "list",data:=.seq vs.toArray } (.lst (ns.map V.int))) else none) (λb=>?_) (.inl (.inr ⟨{ cls:=.type "list",data:=.seq vs.toArray },if_pos rfl⟩)) (λb u z=>?_) (λb z=>?_) λ_=>hk
   · by_cases hb:b=a
     · exact .inr ⟨_,_,if_pos hb⟩
     · exact .inl (if_neg hb)
   · by_cases hb:b=a
     · have z':=(if_pos hb).symm.trans z
       cases z'
       subst hb
       exact ⟨ha,by rw [Ab]; exact hl,vs,_,rv,ha⟩
     · have z':=(if_neg hb).symm.trans z
       cases z'
   · by_cases hb:b=a
     · exact hb
     · exact absurd (if_neg hb) z
end L2
namespace L2
open PySem PySem.Spec PyProof.Rows
theorem cQ9 {l:PySem.W.OpenLaw} {n k:Nat} {q:Program} {loose:List Str} {XP:(Str->Option Value)->Heap->Prop} {YP:World->Heap->Prop} {d:DefRec} {K:Params->PySem.W.Frag} {CX:World->CXT} {sp:World->Sp} {x:Str}
   (hn:l.most=some n) (hn2:n<=sizeLine) (hdf:d.params.defaults=[]) (hr:Room k callerA)
   (hY:∀ (w:World) (h:Heap),YP w h->(K w.params).In h)
   (F:∀ (w:World) (mg:Str->Option Value) (fa:Addr) (h:Heap),(K w.params).In h->h.Ns mainGlobals mg->mg d.name=some (.ref fa)->
     ∃ fd:FuncData,(∀ (s:Shared) (u:Value),BindsTo s fd ⟨[u],[]⟩ [(x,u)])/\
       ∀ base:Heap,(K w.params).In base->base.Ns mainGlobals mg->FnOk l.prog w (K w.params) mg base (CX w) k fa fd [x] (sp w))
   (hsp:∀ (w:World) (H:Hp) (a:Addr) (ns:List Int),ns.length<=n->dQG H->SqL (K w.params) H a (ns.map V.int)->sp w [.ref a] H (λv _=>v=.bl true) λ_ _ _=>False)
   (hCX:∀ (w:World) (H:Hp) (s:Shared) (e:Value) (s':Shared),CX w [] H s (λ_ _ _=>False) e s'->False) :
   PySem.W.WalkO q loose XP YP l.row.toRowW d [] (λf vs=>PySem.call f vs):=by
 refine Att.attach_call hn hdf λw s₀ s₁ mg mb fa o pm cd doc a vs ns G Y ho hd hcd hmg hobj hints hlen hg=>?_
 have KX:=hY w _ Y
 obtain ⟨fd,hb,hF⟩:=F w mg fa _ KX G.T.g hmg
 exact bQ9 KX G.T.g G.T.b G.T.builtins G.T.nolimit hg hobj hints (Bb hlen hn2) hr hF hb (λH hO hS=>hsp w H a ns hlen hO hS) λH e s'=>hCX w H s₁ e s'
end L2
namespace L2
open PySem PySem.Spec PyProof.Rows
def aS (s:Stmt):Arguments:=match s with
 | .FunctionDef _ a _ _ _ _ _ _ _ _=>a
 | _=>{ posonlyargs:=[],args:=[],vararg:=none,kwonlyargs:=[],kw_defaults:=[],kwarg:=none,defaults:=[] }
def aR (s:Stmt):List Stmt:=match s with
 | .FunctionDef _ _ b _ _ _ _ _ _ _=>b
 | _=>[]
def aG (s:Stmt):Scope:=match s with
 | .FunctionDef _ _ _ _ _ _ sc _ _ _=>sc
 | _=>{ kind:=.function,names:=[],isGenerator:=false,isCoroutine:=false }
abbrev CX0:CXT:=λ_ _ _ _ _ _=>False
abbrev E0:XK:=λ_ _ _=>False
theorem dZV {X:Cx}:nF CX0 X E0:=λ_ _ _ _ _ _ _ h=>h.elim
structure Fun (K:PySem.W.Frag) (x qual:Str) (st:Stmt) (f:Addr) (fd:FuncData):Prop where
 ex:∃ (oc:Value) (od:Option Addr) (kV doc pm:Value) (an:Option Addr) (cdv ct:Value) (osl:Array (Option Value)),
   fd=PySem.W.fnOf x qual (aS st) (aR st) (aG st) .none kV doc pm an cdv ct/\K.lookup f=some ⟨oc,od,.func fd,osl⟩/\PySem.W.codeIn K cdv qual=true
 kp:PySem.W.keepIn K (.ref f)=true
section
variable {P:Program} {w:World} {K:PySem.W.Frag} {mg:Str->Option Value} {base:Heap}
theorem Fun.ok {x qual:Str} {st:Stmt} {f:Addr} {fd:FuncData} {N ps:List Str} {k:Nat} {sp:Sp} (F:Fun K x qual st f fd) (S:FnScope N ps (aG st)) (len:∀ vs H Q E,sp vs H Q E->vs.length=ps.length)
   (hbody:∀ (cdv:Value) (A:Around) (outer:List Env) (s:Shared) (H:Hp) (vs:List V) (Q:VK) (E:XK),Room k (A.deeper (envOfC qual (aG st) s.heap.objs.size f cdv))->sp vs H Q E->
     ∃ t,PSs (gF CX0 P w K mg base N qual (aG st) f cdv A outer s H E).nox (aR st) t/\t { nx:=λ_ H'=>Q .non H',rt:=Q } (jL N vs) H):FnOk P w K mg base CX0 (k + 1) f fd ps sp:=by
 obtain ⟨oc,od,kV,doc,pm,an,cdv,ct,osl,rfl,lk,hcd⟩:=F.ex
 refine cZ7 lk hcd S len λA outer s H vs Q E hr hsp=>?_
 obtain ⟨t,h,q⟩:=hbody cdv A outer s H vs Q E hr hsp
 exact ⟨t,h.nox,q⟩
theorem Fun.binds {x qual:Str} {st:Stmt} {f:Addr} {fd:FuncData} {ps:List Str} (F:Fun K x qual st f fd)
   (h:∀ (kV doc pm:Value) (an:Option Addr) (cdv ct:Value) (us:List Value),us.length=ps.length->bindArgs (PySem.W.fnOf x qual (aS st) (aR st) (aG st) .none kV doc pm an cdv ct) ⟨us,[]⟩=pure (ps.zip us)):Binds K fd ps []:=by
 obtain ⟨oc,od,kV,doc,pm,an,cdv,ct,osl,rfl,lk,hcd⟩:=F.ex
 exact .all (h kV doc pm an cdv ct)
theorem bD {x qual:Str} {st:Stmt} {f:Addr} {oc:Value} {od an:Option Addr} {osl:Array (Option Value)} {kV doc pm cdv ct:Value} (l:K.lookup f=some ⟨oc,od,.func (PySem.W.fnOf x qual (aS st) (aR st) (aG st) .none kV doc pm an cdv ct),osl⟩)
   (c:PySem.W.codeIn K cdv qual=true) (k:PySem.W.keepIn K (.ref f)=true):Fun K x qual st f (PySem.W.fnOf x qual (aS st) (aR st) (aG st) .none kV doc pm an cdv ct):=⟨⟨oc,od,kV,doc,pm,an,cdv,ct,osl,rfl,l,c⟩,k⟩
end
section
variable {X:Cx}
theorem pv (i:Nat) {x:Str} {pos:Pos} (hN:X.N[i]?=some x:=by rfl) (hv:Vis X.env.scope x:=by first | exact Or.inl rfl | exact Or.inr (Or.inl rfl) | exact Or.inr (Or.inr rfl)) (hd:(x == ("__debug__" : Str))=false:=by decide)
   (hcd:(x == ("__classdict__" : Str))=false:=by decide):PE X (.Name x pos) (eQQ i):=cJZ hN hv hd hcd
end
theorem eQ6 {A B:Prop} (h:B):if false=true then A else B:=by
 rw [if_neg Am]
 exact h
theorem eQZ {A B:Prop} (h:A):if true=true then A else B:=by
 rw [if_pos rfl]
 exact h
theorem gD {c A B:Prop} [Decidable c] (h1:c->A) (h2:¬ c->B):if c then A else B:=by
 by_cases h:c
 · rw [if_pos h]
   exact h1 h
 · rw [if_neg h]
   exact h2 h
def Same (H H':Hp):Prop:=∀ b o,H b=some o->H' b=some o
theorem Same.refl (H:Hp):Same H H:=λ_ _ h=>h
theorem Same.trans {H H1 H2:Hp} (a:Same H H1) (b:Same H1 H2):Same H H2:=λc o h=>b c o (a c o h)
theorem Same.free {H H':Hp} (e:Same H H') {l:Addr} (h:H' l=Option.none):H l=Option.none:=by
 cases q:H l with
 | none=>rfl
 | some o=>
   rw [e l o q] at h
   cases h
theorem Same.seq {K:PySem.W.Frag} {H H':Hp} {a:Addr} {xs:List V} (e:Same H H') (h:SqL K H a xs):SqL K H' a xs:=by
 rcases h with (h | ⟨o,h⟩) | h
 · exact .inl (.inl (e _ _ h))
 · exact .inl (.inr ⟨o,e _ _ h⟩)
 · exact .inr h
end L2
set_option maxHeartbeats 4000000
namespace FlT
open PySem PySem.Spec PyProof.Rows
def sIx (n d:Nat):Option Int->Nat
 | none=>d
 | some v=>if v < 0 then (v + (n:Int)).toNat else min v.toNat n
theorem app_cps (x y:Str):(x ++ y).cps.toList=x.cps.toList ++ y.cps.toList:=by
 show (x.cps ++ y.cps).toList=_
 simp
theorem str_ext {x y:Str} (h:x.cps.toList=y.cps.toList):x=y:=by
 obtain ⟨⟨x⟩⟩:=x
 obtain ⟨⟨y⟩⟩:=y
 cases h
 rfl
end FlT
set_option maxHeartbeats 4000000
namespace L2
open PySem PySem.Spec PyProof.Rows
theorem PE.imp {X:Cx} {e:Expr} {t t':TE} (h:PE X e t) (i:∀ σ H Q,t' σ H Q->t σ H Q):PE X e t':=λpins s σ H Q I q=>h pins s σ H Q I (i σ H Q q)
theorem PT.imp {X:Cx} {e:Expr} {t t':TT} (h:PT X e t) (i:∀ σ H Q,t' σ H Q->t σ H Q):PT X e t':=λpins s σ H Q I q=>h pins s σ H Q I (i σ H Q q)
theorem OpR.imp {X:Cx} {f:Value->Value->Sem Value} {r r':R2} (h:OpR X f r) (i:∀ x y H Q,r' x y H Q->r x y H Q):OpR X f r':=λpins s σ H x y v u Q I rx ry q=>h pins s σ H x y v u Q I rx ry (i x y H Q q)
theorem CallR.imp {X:Cx} {f:Value} {r r':List V->Hp->VK->Prop} (h:CallR X f r) (i:∀ xs H Q,r' xs H Q->r xs H Q):CallR X f r':=λpins s σ H xs us Q I rx q=>h pins s σ H xs us Q I rx (i xs H Q q)
theorem MtR.imp {X:Cx} {id:String} {r r':V->List V->Hp->VK->Prop} (h:MtR X id r) (i:∀ x xs H Q,r' x xs H Q->r x xs H Q):MtR X id r':=λpins s σ H x xs v us Q I rx rs q=>h pins s σ H x xs v us Q I rx rs (i x xs H Q q)
theorem IxR.imp {X:Cx} {r r':R2} (h:IxR X r) (i:∀ x y H Q,r' x y H Q->r x y H Q):IxR X r':=λvalue slice pins s σ H x y v u Q I rx ry q hs=>h value slice pins s σ H x y v u Q I rx ry (i x y H Q q) hs
theorem SlR.imp {X:Cx} {r r':V->Option Int->Option Int->Hp->VK->Prop} (h:SlR X r) (i:∀ x lo hi H Q,r' x lo hi H Q->r x lo hi H Q):SlR X r':=λpins s σ H x v vl vu lo hi sl Q I rx hs pl pu q=>h pins s σ H x v vl vu lo hi sl Q I rx hs pl pu (i x lo hi H Q q)
def Its (z:Str):It:=⟨λi _=>i < z.cps.size,λi H x H'=>H'=H/\∃ c,z.cps[i]?=some c/\x=.str ⟨#[c]⟩,λi _=>z.cps.size<=i⟩
theorem aQM {P:Program} {w:World} {K:PySem.W.Frag} {tg:Expr} (z:Str) (t:Tok) (it:Addr):Turn P w K tg (Its z) [it] it (λi h=>h.IsStrIter it "str_ascii_iterator" z t i) where
 mem:=by simp
 obj:=λi h st b hb=>by
   have e:b=it:=by simpa using hb
   subst e
   obtain ⟨o,e,c,d⟩:=st
   exact ⟨o,e,λv z=>by rw [d] at z; cases z⟩
 keep:=λi h h' st k=>let ⟨o,ho,r⟩:=st; ⟨o,k it (by simp) o ho,r⟩
 item:=by
   intro X hP hw hK hc i pins s σ H E I hf st hg
   subst hP hw hK
   obtain ⟨f0,f1,f2,f3,f4,f5⟩:=hf it (by simp)
   have hi:i < z.cps.size:=hg
   refine wpAny_pyNext_ascii_item st (c:=z.cps[i]) (by simp [hi]) λh' st' sb=>?_
   have I1:Inv X pins σ H { s with heap:=h',toks:=s.toks + 1 }:=I.turned (λb o hb e=>(sb.2 b hb).trans e) f0 f1 f3 f4 f5
   obtain ⟨o,e,c,d⟩:=id st'
   exact ⟨_,rfl,pW (s:={ s with heap:=h',toks:=s.toks + 1 }) e c d (by decide) ⟨.str ⟨#[z.cps[i]]⟩,H,I1,⟨_,rfl⟩,⟨rfl,_,by simp [hi],rfl⟩,st',λb hb=>(hf b hb).1⟩⟩
 done:=by
   intro X hP hw hK hc i pins s σ H E I hf st hg
   subst hP hw hK
   obtain ⟨f0,f1,f2,f3,f4,f5⟩:=hf it (by simp)
   have hi:z.cps.size<=i:=hg
   exact wpAny_pyNext_ascii_end (I.ok.hd hc) st (by simp [hi]) λh' eb=>⟨rfl,I.turned (t':=s.toks) (λb o hb e=>eb b o hb e) f0 f1 f3 f4 f5⟩
 self:=λ_ _ _ _ _ st h=>wpAny_pyIter_striter_ascii st h
theorem aJV {P:Program} {w:World} {K:PySem.W.Frag} {tg:Expr} (z:Str) (t:Tok) (it:Addr):Turn P w K tg (Its z) [it] it (λi h=>h.IsStrIter it "str_iterator" z t i) where
 mem:=by simp
 obj:=λi h st b hb=>by
   have e:b=it:=by simpa using hb
   subst e
   obtain ⟨o,e,c,d⟩:=st
   exact ⟨o,e,λv z=>by rw [d] at z; cases z⟩
 keep:=λi h h' st k=>let ⟨o,ho,r⟩:=st; ⟨o,k it (by simp) o ho,r⟩
 item:=by
   intro X hP hw hK hc i pins s σ H E I hf st hg
   subst hP hw hK
   obtain ⟨f0,f1,f2,f3,f4,f5⟩:=hf it (by simp)
   have hi:i < z.cps.size:=hg
   refine wpAny_pyNext_wide_item st (c:=z.cps[i]) (by simp [hi]) λh' st' sb=>?_
   have I1:Inv X pins σ H { s with heap:=h',toks:=s.toks + 1 }:=I.turned (λb o hb e=>(sb.2 b hb).trans e) f0 f1 f3 f4 f5
   obtain ⟨o,e,c,d⟩:=id st'
   exact ⟨_,rfl,pW (s:={ s with heap:=h',toks:=s.toks + 1 }) e c d (by decide) ⟨.str ⟨#[z.cps[i]]⟩,H,I1,⟨_,rfl⟩,⟨rfl,_,by simp [hi],rfl⟩,st',λb hb=>(hf b hb).1⟩⟩
 done:=by
   intro X hP hw hK hc i pins s σ H E I hf st hg
   subst hP hw hK
   obtain ⟨f0,f1,f2,f3,f4,f5⟩:=hf it (by simp)
   have hi:z.cps.size<=i:=hg
   exact wpAny_pyNext_wide_end (I.ok.hd hc) st (by simp [hi]) λh' eb=>⟨rfl,I.turned (t':=s.toks) (λb o hb e=>eb b o hb e) f0 f1 f3 f4 f5⟩
 self:=λ_ _ _ _ _ st h=>wpAny_pyIter_striter_wide st h
section
variable {X:Cx} {tg:Expr}
end
theorem cQD {z:Str} {g:TG} {tb:TS} {D:Ends} {σ:St} {H:Hp} (Pv:Nat->St->Hp->Prop) (h0:Pv 0 σ H)
   (hs:∀ i c σ H,z.cps.toList[i]?=some c->Pv i σ H->g (.str ⟨#[c]⟩) σ H λσ2 H2=>tb { D with nx:=Pv (i + 1),ct:=Pv (i + 1),bk:=D.nx } σ2 H2) (hd:∀ σ H,Pv z.cps.toList.length σ H->D.nx σ H) :
   ∃ W:Nat->Nat->St->Hp->Prop,(∃ m,W 0 m σ H)/\∀ i m σ H,W i m σ H->
     ((Its z).stop i H/\D.nx σ H)\/((Its z).go i H/\∃ N:St->Hp->Prop,(∀ σ' H',N σ' H'->∃ m',m' < m/\W (i + 1) m' σ' H')/\∀ x H',(Its z).yld i H x H'->g x σ H' λσ2 H2=>tb { D with nx:=N,ct:=N,bk:=D.nx } σ2 H2):=by
 have hl:z.cps.toList.length=z.cps.size:=by simp
 rw [hl] at hd
 refine ⟨λi m σ H=>m=z.cps.size - i/\i<=z.cps.size/\Pv i σ H,⟨z.cps.size,by simp,Nat.zero_le _,h0⟩,?_⟩
 rintro i m σ H ⟨rfl,hi,p⟩
 by_cases hlt:i < z.cps.size
 · refine .inr ⟨hlt,Pv (i + 1),λσ' H' p'=>⟨z.cps.size - (i + 1),by omega,rfl,hlt,p'⟩,λx H' y=>?_⟩
   obtain ⟨e,c,hc,hx⟩:=y
   subst e hx
   exact hs i c σ _ (by simpa using hc) p
 · have e:i=z.cps.size:=by omega
   subst e
   exact .inl ⟨Ah _,hd σ H p⟩
section
variable {X:Cx} {a b c:Expr} {ta tb tc:TE} {pos:Pos}
def eXC:V->Option Int->Option Int->Hp->VK->Prop:=λx lo hi H Q=>∃ z,x=.str z/\z.length<=sizeLine/\Q (.str (Txt.slice z lo hi)) H
theorem cJY:SlR X eXC:=by
 intro pins s σ H x v vl vu lo hi sl Q I rx hs pl pu h
 obtain ⟨z,rfl,hz,q⟩:=h
 obtain ⟨t,rfl⟩:=rx
 refine ⟨"str",_,PySem.F.slot_str_getitem.lookup,typeIs_str _ _ _,?_⟩
 cases pl with
 | none=>
   cases pu with
   | none=>exact Ey (l:=none) (u:=none) (st:=none) hs rfl (post_val_or_str ⟨Bb (Txt.slice_le z _ _) hz,λt' k=>⟨.str (Txt.slice z none none),H,I.tok _,⟨_,rfl⟩,q⟩⟩)
   | int j uj=>exact Ey (l:=none) (u:=some (j,uj)) (st:=none) hs rfl (post_val_or_str ⟨Bb (Txt.slice_le z _ _) hz,λt' k=>⟨.str (Txt.slice z none (some j)),H,I.tok _,⟨_,rfl⟩,q⟩⟩)
 | int i ui=>
   cases pu with
   | none=>exact Ey (l:=some (i,ui)) (u:=none) (st:=none) hs rfl (post_val_or_str ⟨Bb (Txt.slice_le z _ _) hz,λt' k=>⟨.str (Txt.slice z (some i) none),H,I.tok _,⟨_,rfl⟩,q⟩⟩)
   | int j uj=>exact Ey (l:=some (i,ui)) (u:=some (j,uj)) (st:=none) hs rfl (post_val_or_str ⟨Bb (Txt.slice_le z _ _) hz,λt' k=>⟨.str (Txt.slice z (some i) (some j)),H,I.tok _,⟨_,rfl⟩,q⟩⟩)
def bJ8:V->List V->Hp->VK->Prop:=λx vs H Q=>∃ z y i rest,x=.str z/\vs=[.str y]/\Builtin.Str.occurrences z y 0 z.length 1=i :: rest/\Q (.int ((i:Nat):Int)) H
theorem mt_index:MtR X "str.index" bJ8:=by
 intro pins s σ H x vs v us Q I rx rv h
 obtain ⟨z,y,i,rest,rfl,rfl,ho,q⟩:=h
 obtain ⟨t,rfl⟩:=rx
 obtain ⟨u,rfl,ru⟩:=rv.one
 obtain ⟨t',rfl⟩:=ru
 exact SC.index ho ⟨.int i,H,I.tok _,⟨_,rfl⟩,q⟩
theorem zB {ys:List Str}:∀ {us:List Value},Vals (ys.map V.str) us->StrsAre us ys:=by
 induction ys with
 | nil=>intro us r; rw [Gv] at r; cases r; exact .nil
 | cons n ns ih=>
   intro us r
   rw [Ar] at r
   cases r with
   | cons r1 r2=>
     obtain ⟨t,e⟩:=r1
     subst e
     exact .cons n t (ih r2)
theorem qW:CallR X (.type "int") (λxs H Q=>∃ x n,xs=[.str x]/\PySem.intText? x=some n/\x.length<=640/\Q (.int n) H):=by
 intro pins s σ H xs us Q I r h
 obtain ⟨x,n,rfl,hn,hl,q⟩:=h
 obtain ⟨u,rfl,t,rfl⟩:=eX r
 exact PySem.W.KIN.call_text hn hl ⟨.int n,H,I.tok _,⟨_,rfl⟩,q⟩
theorem call_isinst:CallR X (.builtin "isinstance") (λxs H Q=>∃ x T t b,xs=[x,.ty T]/\TyOf X.K H x t/\PySem.W.kitOne X.K t (.type T)=some b/\Q (.bl b) H):=by
 intro pins s σ H xs us Q I r h
 obtain ⟨x,T,t,b,rfl,ty,e,q⟩:=h
 obtain ⟨u,w',rfl,rx,ry⟩:=pJ r
 cases (show w'=Value.type T from ry)
 exact aJG I rx ty e λtk=>⟨.bl b,H,I.tok _,rfl,q⟩
theorem xS {bs:List Bool}:∀ {us:List Value},Vals (bs.map V.bl) us->LSm.BoolsAre us bs:=by
 induction bs with
 | nil=>intro us r; rw [Gv] at r; cases r; exact .nil
 | cons n ns ih=>
   intro us r
   rw [Ar] at r
   cases r with
   | cons r1 r2=>
     cases r1
     exact .cons n (ih r2)
theorem rF (hc:X.calm=true):CallR X (.builtin "all") (λxs H Q=>∃ (p:Addr) (bs:List Bool),xs=[.ref p]/\SqL X.K H p (bs.map V.bl)/\Q (.bl (bs.all id)) H):=by
 intro pins s σ H xs us Q I r h
 obtain ⟨p,bs,rfl,hp,q⟩:=h
 obtain ⟨u,rfl,ru⟩:=eX r
 cases ru
 obtain ⟨its,rv,pl,hz⟩:=I.list hp
 have hb:=xS rv
 have hl:=pl.isList
 have hlt:p < s.heap.objs.size:=by obtain ⟨_,e,_⟩:=hl; exact Ao e
 refine call_all_walk (El hl ?_)
 refine ⟨s.heap.objs.size,[s.heap.objs.size,p],[s.heap.objs.size],its.toArray.size,_,_,λi=>(bs[i]?).getD true,rfl,Walks.list (A:=X.A.in1) (I.ok.hd hc) _ p (Be hlt) its.toArray,
   ⟨⟨_,Av _ rfl,rfl,rfl⟩,hl.push _⟩,λi v s' Q' E' hP hQ=>?_,λh' tk hk=>?_⟩
 · obtain ⟨b,e,rfl⟩:=hb.get i v (by simpa using hP)
   simp only [e,Option.getD_some] at hQ
   exact Ej hQ
 · have e:((List.range its.toArray.size).all λi=>(bs[i]?).getD true)=bs.all id:=by
     rw [Bm,hb.length]; exact LSm.range_all bs
   rw [e]
   exact ⟨.bl (bs.all id),H,I.kept (LSm.kept_iter hk),rfl,q⟩
def kN (xs ys:List V):Bool:=xs.length == ys.length && (List.range xs.length).all λj=>eqV (xs.getD j .non) (ys.getD j .non)
theorem Vals.getD_rel {xs:List V} {us:List Value} {j:Nat} (r:Vals xs us) (h:j < us.length):RelV (xs.getD j .non) us[j]:=by
 have hl:=r.length
 have hx:j < xs.length:=by omega
 obtain ⟨u,hu,ru⟩:=r.get (Aa hx)
 rw [Aa h] at hu
 cases hu
 rw [Ad,Aa hx]
 exact ru
theorem iI {xs:List V} (h:xs.all bX=true) (j:Nat):bX (xs.getD j .non)=true:=by
 rw [Ad]
 cases e:xs[j]? with
 | none=>rfl
 | some x=>exact Dn.mp h x (Ak e)
def dX7 (K:PySem.W.Frag) (neg:Bool):R2:=λx y H Q=>∃ p q xs ys,x=.ref p/\y=.ref q/\SqL K H p xs/\SqL K H q ys/\xs.all bX=true/\ys.all bX=true/\Q (.bl (if neg then !kN xs ys else kN xs ys)) H
theorem xE {xs ys:List V} (h:xs.length≠ys.length):kN xs ys=false:=by
 unfold kN
 rw [Et.mpr h,Bool.false_and]
theorem mX {xs ys:List V} (h:xs.length=ys.length):kN xs ys=(List.range xs.length).all λj=>eqV (xs.getD j .non) (ys.getD j .non):=by
 unfold kN
 rw [h,beq_self_eq_true,Bool.true_and]
theorem aQB (hu:X.A.units < cLine):OpR X (compareOp .Eq) (dX7 X.K false):=by
 intro pins s σ H x y v u Q I rx ry h
 obtain ⟨p,q,xs,ys,rfl,rfl,hp,hq,fx,fy,k⟩:=h
 cases rx
 cases ry
 obtain ⟨its,r1,l1,_⟩:=I.list hp
 obtain ⟨its2,r2,l2,_⟩:=I.list hq
 have e1:=r1.length
 have e2:=r2.length
 by_cases hl:xs.length=ys.length
 · refine SeqAt.eq_listAt (e:=λj=>eqV (xs.getD j .non) (ys.getD j .non)) l1.isList l2.isList (by simp only [List.size_toArray]; omega) hu (λj h1 h2=>?_) ?_
   · have h1':j < its.length:=by simpa using h1
     have h2':j < its2.length:=by simpa using h2
     simpa using lN (A:=X.A.in1) (s:=s) (r1.getD_rel h1') (r2.getD_rel h2') (iI fx j) (iI fy j)
   · refine ⟨.bl (kN xs ys),H,I,?_,k⟩
     rw [mX hl]
     simp only [List.size_toArray,<-e1]
     rfl
 · refine SeqAt.eq_list_lengthsAt l1.isList l2.isList (by simp only [List.size_toArray,bne_iff_ne]; omega) hu ⟨.bl (kN xs ys),H,I,?_,k⟩
   rw [xE hl]
   rfl
theorem zP (hu:X.A.units < cLine):OpR X (compareOp .NotEq) (dX7 X.K true):=by
 intro pins s σ H x y v u Q I rx ry h
 obtain ⟨p,q,xs,ys,rfl,rfl,hp,hq,fx,fy,k⟩:=h
 cases rx
 cases ry
 obtain ⟨its,r1,l1,_⟩:=I.list hp
 obtain ⟨its2,r2,l2,_⟩:=I.list hq
 have e1:=r1.length
 have e2:=r2.length
 by_cases hl:xs.length=ys.length
 · refine SeqAt.RcNeAt.lists (e:=λj=>eqV (xs.getD j .non) (ys.getD j .non)) l1.isList l2.isList (by simp only [List.size_toArray]; omega) hu (λj h1 h2=>?_) X.prog X.w _ _ ?_
   · have h1':j < its.length:=by simpa using h1
     have h2':j < its2.length:=by simpa using h2
     simpa using lN (A:=X.A.in1) (s:=s) (r1.getD_rel h1') (r2.getD_rel h2') (iI fx j) (iI fy j)
   · refine ⟨.bl (!kN xs ys),H,I,?_,k⟩
     rw [mX hl]
     simp only [List.size_toArray,<-e1]
     rfl
 · refine SeqAt.RcNeAt.lists_lengths l1.isList l2.isList (by simp only [List.size_toArray,bne_iff_ne]; omega) hu X.prog X.w _ _ ⟨.bl (!kN xs ys),H,I,?_,k⟩
   rw [xE hl]
   rfl
end
end L2
set_option maxHeartbeats 4000000
namespace L2
open PySem PySem.Spec PyProof.Rows
def rdO:Option HO->Option (List V)
 | some (.lst xs)=>some xs
 | some (.frz _ (.lst xs))=>some xs
 | _=>none
def rdL (H:Hp) (a:Addr):Option (List V):=rdO (H a)
theorem aU {K:PySem.W.Frag} {H:Hp} {a:Addr} {xs:List V} (h:rdL H a=some xs):SqL K H a xs:=by
 unfold rdL rdO at h
 split at h
 · cases h; exact .inl (.inl (by assumption))
 · cases h; exact .inl (.inr ⟨_,by assumption⟩)
 · cases h
theorem aO {H:Hp} {a:Addr} {xs:List V} (h:H a=some (.lst xs)):rdL H a=some xs:=by unfold rdL; rw [h]; rfl
theorem bV {H:Hp} {a:Addr} {xs:List V}:rdL (upd H a (.lst xs)) a=some xs:=aO aD
theorem aQK {H:Hp} {a b:Addr} {o:HO} (h:b≠a):rdL (upd H a o) b=rdL H b:=by unfold rdL; rw [aK h]
theorem aH {H H':Hp} {a:Addr} {xs:List V} (e:Same H H') (h:rdL H a=some xs):rdL H' a=some xs:=by
 unfold rdL at h ⊢
 cases q:H a with
 | none=>rw [q] at h; cases h
 | some o=>rw [e a o q,<-q]; exact h
theorem aE {H:Hp} {p:Addr} (h:H p=none) (o:HO):Same H (upd H p o):=λb u q=>by rw [aK (bJ q h)]; exact q
def iV (H:Hp) (a:Addr):Option (List V):=match H a with | some (.lst xs)=>some xs | _=>none
theorem bI {H:Hp} {a:Addr} {xs:List V} (h:H a=some (.lst xs)):iV H a=some xs:=by unfold iV; rw [h]
theorem kK {H:Hp} {a:Addr} {xs:List V} (h:iV H a=some xs):H a=some (.lst xs):=by
 unfold iV at h
 split at h
 · cases h; assumption
 · cases h
theorem mZ {H:Hp} {a:Addr} {xs:List V}:iV (upd H a (.lst xs)) a=some xs:=bI aD
theorem cXR {H:Hp} {a b:Addr} {o:HO} (h:b≠a):iV (upd H a o) b=iV H b:=by unfold iV; rw [aK h]
def lP (H:Hp) (a:Addr):Option (List V):=match H a with | some (.tup xs)=>some xs | _=>none
theorem kH {H:Hp} {a:Addr} {xs:List V} (h:H a=some (.tup xs)):lP H a=some xs:=by unfold lP; rw [h]
theorem oP {H:Hp} {a:Addr} {xs:List V} (h:lP H a=some xs):H a=some (.tup xs):=by
 unfold lP at h
 split at h
 · cases h; assumption
 · cases h
theorem mY {H:Hp} {a:Addr} {xs:List V}:lP (upd H a (.tup xs)) a=some xs:=kH aD
section
variable {X:Cx} {a b c:Expr} {ta tb tc:TE} {pos:Pos}
def cXE (i:Nat):TE:=λσ H Q=>match σ[i]? with | some (some v)=>Q v H | _=>False
theorem mv (i:Nat) {x:Str} {pos:Pos} (hN:X.N[i]?=some x:=by rfl) (hv:Vis X.env.scope x:=by first | exact Or.inl rfl | exact Or.inr (Or.inl rfl) | exact Or.inr (Or.inr rfl)) (hd:(x == ("__debug__" : Str))=false:=by decide)
   (hcd:(x == ("__classdict__" : Str))=false:=by decide):PE X (.Name x pos) (cXE i):=(pv i hN hv hd hcd).imp λσ H Q q=>by
 unfold cXE at q
 split at q
 · exact ⟨_,by assumption,q⟩
 · exact q.elim
def mI (g:Int->Int->V):R2:=λx y H Q=>match x,y with | .int i,.int j=>Q (g i j) H | _,_=>False
theorem yW {g:Int->Int->V} {x y:V} {H:Hp} {Q:VK} (q:mI g x y H Q):rI0 g x y H Q:=by
 unfold mI at q
 split at q
 · exact ⟨_,_,rfl,rfl,q⟩
 · exact q.elim
def mIC (C:Int->Int->Prop) (g:Int->Int->V):R2:=λx y H Q=>match x,y with | .int i,.int j=>C i j/\Q (g i j) H | _,_=>False
theorem tB {C:Int->Int->Prop} {g:Int->Int->V} {x y:V} {H:Hp} {Q:VK} (q:mIC C g x y H Q):rI C g x y H Q:=by
 unfold mIC at q
 split at q
 · exact ⟨_,_,rfl,rfl,q.1,q.2⟩
 · exact q.elim
def aJ1:R2:=λx y H Q=>match x,y with
 | .int i,.int j=>Q (.int (i + j)) H
 | .str z,.str y=>z.length + y.length<=sizeLine/\Q (.str (z ++ y)) H
 | .ref p,.ref q=>(match iV H p,iV H q with
   | some xs,some zs=>xs.length + zs.length<=sizeLine/\∀ r,H r=none->Q (.ref r) (upd H r (.lst (xs ++ zs)))
   | _,_=>False)
 | _,_=>False
theorem bZ:OpR X (binaryOp .Add) aJ1:=by
 intro pins s σ H x y v u Q I rx ry q
 unfold aJ1 at q
 split at q
 · exact dQO pins s σ H _ _ v u Q I rx ry ⟨_,_,rfl,rfl,q⟩
 · exact aQQ pins s σ H _ _ v u Q I rx ry ⟨_,_,rfl,rfl,q.1,q.2⟩
 · split at q
   · exact dX5 pins s σ H _ _ v u Q I rx ry ⟨_,_,_,_,rfl,rfl,kK (by assumption),kK (by assumption),q.1,q.2⟩
   · exact q.elim
 · exact q.elim
theorem jE:OpR X (binaryOp .Sub) (mI λi j=>.int (i - j)):=op_sub.imp λ_ _ _ _ q=>yW q
theorem bXZ:OpR X (binaryOp .Mult) (mIC CMul λi j=>.int (i * j)):=op_mul.imp λ_ _ _ _ q=>tB q
theorem fK:OpR X (binaryOp .Mod) (mIC (λ_ j=>0 < j) λi j=>.int (i % j)):=op_mod.imp λ_ _ _ _ q=>tB q
theorem jG:OpR X (binaryOp .FloorDiv) (mIC dZR λi j=>.int (i / j)):=op_fdiv.imp λ_ _ _ _ q=>tB q
theorem bJT:OpR X (compareOp .Lt) (mI λi j=>.bl (decide (i < j))):=op_lt.imp λ_ _ _ _ q=>yW q
theorem cXM:OpR X (compareOp .Gt) (mI λi j=>.bl (decide (j < i))):=op_gt.imp λ_ _ _ _ q=>yW q
def dX8:V->Hp->VK->Prop:=λx H Q=>match x with | .int i=>Q (.int (-i)) H | _=>False
theorem cJB:UnR X (unaryOp .USub) dX8:=λpins s σ H x v Q I rx q=>by
 unfold dX8 at q
 split at q
 · exact dXK pins s σ H _ v Q I rx ⟨_,rfl,q⟩
 · exact q.elim
def mEq:R2:=λx y H Q=>cQM x y=true/\Q (.bl (decide (x=y))) H
theorem vA:OpR X (compareOp .Eq) mEq:=dZ9
def mNe:R2:=λx y H Q=>cQM x y=true/\Q (.bl (!decide (x=y))) H
theorem bJ4:OpR X (compareOp .NotEq) mNe:=eQS
def bQA (neg:Bool):R2:=λx y H Q=>match x,y with
 | .ref p,.ref q=>(match rdL H p,rdL H q with
   | some xs,some ys=>xs.all bX=true/\ys.all bX=true/\Q (.bl (if neg then !kN xs ys else kN xs ys)) H
   | _,_=>False)
 | _,_=>False
theorem xF {K:PySem.W.Frag} {neg:Bool} {x y:V} {H:Hp} {Q:VK} (q:bQA neg x y H Q):dX7 K neg x y H Q:=by
 unfold bQA at q
 split at q
 · split at q
   · exact ⟨_,_,_,_,rfl,rfl,aU (by assumption),aU (by assumption),q.1,q.2.1,q.2.2⟩
   · exact q.elim
 · exact q.elim
theorem bZO (hu:X.A.units < cLine):OpR X (compareOp .Eq) (bQA false):=(aQB hu).imp λ_ _ _ _ q=>xF q
theorem cZH (hu:X.A.units < cLine):OpR X (compareOp .NotEq) (bQA true):=(zP hu).imp λ_ _ _ _ q=>xF q
def dXD:R2:=λx y H Q=>match y with | .non=>Q (.bl (decide (x=.non))) H | _=>False
theorem bZ3:OpR X (compareOp .Is) dXD:=op_isN.imp λ_ y _ _ q=>by
 unfold dXD at q
 split at q
 · exact ⟨rfl,q⟩
 · exact q.elim
def bZB:R2:=λx y H Q=>match y with | .non=>Q (.bl (!decide (x=.non))) H | _=>False
theorem tK:OpR X (compareOp .IsNot) bZB:=op_notN.imp λ_ y _ _ q=>by
 unfold bZB at q
 split at q
 · exact ⟨rfl,q⟩
 · exact q.elim
def subIn (y x:Str):Bool:=!(Builtin.Str.occurrences x y 0 x.length 1).isEmpty
theorem rP (x:Str) (c:Nat):subIn ⟨#[c]⟩ x=decide (c∈x.cps.toList):=PySem.StrLaws.found_one x c
def dQA (neg:Bool):R2:=λx y H Q=>match x,y with | .str i,.str j=>Q (.bl (if neg then !subIn i j else subIn i j)) H | _,_=>False
theorem aQY:OpR X (compareOp .In) (dQA false):=op_in_str.imp λ_ _ _ _ q=>by
 unfold dQA at q
 split at q
 · exact ⟨_,_,rfl,rfl,q⟩
 · exact q.elim
def aJF (neg:Bool):R2:=λx y H Q=>match y with
 | .ref p=>(match rdL H p with | some xs=>bX x=true/\xs.all bX=true/\Q (.bl (if neg then !inV x xs else inV x xs)) H | none=>False)
 | _=>False
theorem wR {K:PySem.W.Frag} {neg:Bool} {x y:V} {H:Hp} {Q:VK} (q:aJF neg x y H Q):rIn K neg x y H Q:=by
 unfold aJF at q
 split at q
 · split at q
   · exact ⟨_,_,rfl,.inl (aU (by assumption)),q.1,q.2.1,q.2.2⟩
   · exact q.elim
 · exact q.elim
theorem eQE:OpR X (compareOp .In) (aJF false):=op_in_seq.imp λ_ _ _ _ q=>wR q
theorem bQT:OpR X (compareOp .NotIn) (aJF true):=op_notIn_seq.imp λ_ _ _ _ q=>wR q
def mB (Q:Bool->Hp->Prop):VK:=λx H=>match x with | .bl k=>Q k H | _=>False
theorem cZP {Q:Bool->Hp->Prop} {x:V} {H:Hp} (q:mB Q x H):∃ k,x=.bl k/\Q k H:=by
 unfold mB at q
 split at q
 · exact ⟨_,rfl,q⟩
 · exact q.elim
def cJC (t:TE):TT:=λσ H Q=>t σ H (mB Q)
theorem bC {op:CmpOp} {r:R2} (ho:OpR X (compareOp op) r) (ha:PE X a ta) (hb:PE X b tb) (hm:behindInMarks op b=false):PT X (.Compare a [op] [b] pos) (cJC (tOp r ta tb)):=by
 intro pins s σ H Q I h
 refine wpAny_isTrue_Compare1 (thn (ha pins s σ H _ I h) λv s1 ⟨x,H1,I1,r1,q1⟩=>thn (hb pins s1 σ H1 _ I1 q1) λu s2 ⟨y,H2,I2,r2,q2⟩=>
   thn (ho pins s2 σ H2 x y v u _ I2 r1 r2 q2) λc s3 ⟨z,H3,I3,r3,q⟩=>?_) hm
 obtain ⟨k,e,q3⟩:=cZP q
 subst e
 cases r3
 exact Ej ⟨H3,I3,q3⟩
def bQR (Q:Bool->Hp->Prop):VK:=λx H=>match x with
 | .non=>Q false H
 | .bl k=>Q k H
 | .int i=>Q (i != 0) H
 | .str y=>y.length<=sizeLine/\Q ((y.length:Int) != 0) H
 | .ref p=>(match rdL H p with
   | some xs=>Q (!xs.isEmpty) H
   | none=>(match H p with | some (.dK kvs)=>Q (!kvs.isEmpty) H | _=>False))
 | _=>False
theorem cX3 {K:PySem.W.Frag} {Q:Bool->Hp->Prop} {x:V} {H:Hp} (q:bQR Q x H):∃ k,dZ4 K x H k/\Q k H:=by
 unfold bQR at q
 split at q
 · exact ⟨_,rfl,q⟩
 · exact ⟨_,rfl,q⟩
 · exact ⟨_,rfl,q⟩
 · exact ⟨_,⟨q.1,rfl⟩,q.2⟩
 · split at q
   · exact ⟨_,.inl ⟨_,aU (by assumption),rfl⟩,q⟩
   · split at q
     · exact ⟨_,.inr (.inr ⟨_,by assumption,rfl⟩),q⟩
     · exact q.elim
 · exact q.elim
def bXE (t:TE):TT:=λσ H Q=>t σ H (bQR Q)
theorem eW (ha:PE X a ta) (he:∀ whole,isTrue a X.env whole=(do let v <-whole; standAt a.pos; holding [v] (truthy v)):=by intro _; rfl):PT X a (bXE ta):=by
 intro pins s σ H Q I h
 refine isTrue_plain (thn (ha pins s σ H _ I h) λv s1 ⟨x,H1,I1,r1,q1⟩=>tH pins s1 σ H1 x v Q I1 r1 (cX3 q1)) (he _)
variable {rest:List Expr}
def cZ8 (ta tb:TE):TE:=λσ H Q=>ta σ H (mB λc H1=>if c=true then tb σ H1 Q else Q (.bl false) H1)
theorem bXB (ha:PE X a ta) (hb:PE X (.BoolOp .And (b :: rest) pos) tb):PE X (.BoolOp .And (a :: b :: rest) pos) (cZ8 ta tb):=by
 intro pins s σ H Q I h
 refine BoolOp_and (thn (ha pins s σ H _ I h) λv s1 ⟨x,H1,I1,r1,q1⟩=>?_)
 obtain ⟨c,rfl,q1⟩:=cZP q1
 cases r1
 refine Ej ?_
 cases c with
 | true=>exact hb pins s1 σ H1 Q I1 q1
 | false=>exact ⟨.bl false,H1,I1,rfl,q1⟩
def mIx:R2:=λx y H Q=>match x,y with
 | .str z,.int i=>z.length<=sizeLine/\(match atI z.cps.toList i with | some c=>Q (.str ⟨#[c]⟩) H | none=>False)
 | .ref p,.int i=>(match rdL H p with
   | some xs=>(match atI xs i with | some v=>Q v H | none=>False)
   | none=>(match lP H p with
     | some xs=>(match atI xs i with | some v=>Q v H | none=>False)
     | none=>False))
 | _,_=>False
theorem cXO {K:PySem.W.Frag} {x y:V} {H:Hp} {Q:VK} (q:mIx x y H Q):rIx K x y H Q:=by
 unfold mIx at q
 split at q
 · obtain ⟨h1,q⟩:=q
   split at q
   · exact .inr (.inr ⟨_,_,_,rfl,rfl,h1,by assumption,q⟩)
   · exact q.elim
 · split at q
   · split at q
     · exact .inl ⟨_,_,_,_,rfl,rfl,aU (by assumption),by assumption,q⟩
     · exact q.elim
   · split at q
     · split at q
       · exact .inr (.inl ⟨_,_,_,_,rfl,rfl,SqT.of (oP (by assumption)),by assumption,q⟩)
       · exact q.elim
     · exact q.elim
 · exact q.elim
theorem cC:IxR X mIx:=ix_seq.imp λ_ _ _ _ q=>cXO q
def mSl:V->Option Int->Option Int->Hp->VK->Prop:=λx lo hi H Q=>match x with
 | .str z=>z.length<=sizeLine/\Q (.str (Txt.slice z lo hi)) H
 | .ref p=>(match rdL H p with | some xs=>∀ r,H r=none->Q (.ref r) (upd H r (.lst (rE xs lo hi))) | none=>False)
 | _=>False
theorem dZK:SlR X mSl:=(sl_list.or cJY).imp λ_ _ _ _ _ q=>by
 unfold mSl at q
 split at q
 · exact .inr ⟨_,rfl,q.1,q.2⟩
 · split at q
   · exact .inl ⟨_,_,rfl,aU (by assumption),q⟩
   · exact q.elim
 · exact q.elim
def uT (Q:Option Int->Hp->Prop):VK:=λx H1=>match x with | .int i=>Q (some i) H1 | _=>False
def cZQ (t:TE):TO:=λσ H Q=>t σ H (uT Q)
variable {e:Expr} {te:TE}
theorem uC (h:PE X e te):PO X (some e) (cZQ te):=by
 intro pins s σ H Q I hw
 rw [evalPart_some]
 refine thn (h pins s σ H _ I hw) λu s1 ⟨x,H1,I1,r1,q1⟩=>?_
 unfold uT at q1
 split at q1
 · obtain ⟨t,rfl⟩:=r1
   exact ⟨_,H1,I1,.int _ t,q1⟩
 · exact q1.elim
def bZM:List V->Hp->VK->Prop:=λxs H Q=>match xs with
 | [.str z]=>z.length<=sizeLine/\Q (.int z.length) H
 | [.ref p]=>(match rdL H p with
   | some xs=>Q (.int xs.length) H
   | none=>(match lP H p with | some xs=>Q (.int xs.length) H | none=>False))
 | _=>False
theorem gQ:CallR X (.builtin "len") bZM:=call_len.imp λ_ _ _ q=>by
 unfold bZM at q
 split at q
 · exact ⟨_,_,rfl,⟨q.1,rfl⟩,q.2⟩
 · split at q
   · exact ⟨_,_,rfl,.inl ⟨_,aU (by assumption),rfl⟩,q⟩
   · split at q
     · exact ⟨_,_,rfl,.inr ⟨_,SqT.of (oP (by assumption)),rfl⟩,q⟩
     · exact q.elim
 · exact q.elim
def dQB:List V->Hp->VK->Prop:=λxs H Q=>match xs with | [.int i,.int j]=>Q (.int (if j < i then j else i)) H | _=>False
theorem cZY (hc:X.calm=true):CallR X (.builtin "min") dQB:=(aZ5 hc).imp λ_ _ _ q=>by
 unfold dQB at q
 split at q
 · exact ⟨_,_,rfl,q⟩
 · exact q.elim
def dQF:List V->Hp->VK->Prop:=λxs H Q=>match xs with | [.int i,.int j]=>Q (.int (if j > i then j else i)) H | _=>False
theorem cZ1 (hc:X.calm=true):CallR X (.builtin "max") dQF:=(aZU hc).imp λ_ _ _ q=>by
 unfold dQF at q
 split at q
 · exact ⟨_,_,rfl,q⟩
 · exact q.elim
def cQP:List V->Hp->VK->Prop:=λxs H Q=>match xs with
 | [.int i]=>Q (.int i) H
 | [.str x]=>(match PySem.intText? x with | some n=>x.length<=640/\Q (.int n) H | none=>False)
 | _=>False
theorem aX3:CallR X (.type "int") cQP:=(call_int1.or qW).imp λ_ _ _ q=>by
 unfold cQP at q
 split at q
 · exact .inl (.inl ⟨_,rfl,q⟩)
 · split at q
   · exact .inr ⟨_,_,rfl,by assumption,q.1,q.2⟩
   · exact q.elim
 · exact q.elim
def aXA:List V->Hp->VK->Prop:=λxs H Q=>match xs with
 | [.ref p]=>(match rdL H p with
   | some ys=>∀ l,H l=none->Q (.ref l) (upd H l (.lst ys))
   | none=>(match lP H p with | some ys=>∀ l,H l=none->Q (.ref l) (upd H l (.lst ys)) | none=>False))
 | _=>False
theorem lG:CallR X (.type "list") aXA:=call_list_of.imp λ_ _ _ q=>by
 unfold aXA at q
 split at q
 · split at q
   · exact ⟨_,_,rfl,.inl (aU (by assumption)),q⟩
   · split at q
     · exact ⟨_,_,rfl,.inr (SqT.of (oP (by assumption))),q⟩
     · exact q.elim
 · exact q.elim
def zV (T:String) (x:V) (H:Hp) (P:Prop):Prop:=match x with
 | .str _=>T="str"/\P
 | .ref p=>(match rdL H p with | some _=>T="list"/\P | none=>False)
 | _=>False
theorem bJN {K:PySem.W.Frag} {T:String} {x:V} {H:Hp} {P:Prop} (q:zV T x H P):tyV K T x H/\P:=by
 unfold zV at q
 split at q
 · exact ⟨q.1,q.2⟩
 · split at q
   · exact ⟨.inl ⟨q.1,_,aU (by assumption)⟩,q.2⟩
   · exact q.elim
 · exact q.elim
def cZW (T:String) (r:V->List V->Hp->VK->Prop) (to:TE) (t:TA):TE:=λσ H Q=>to σ H λx H1=>zV T x H1 (t σ H1 λxs H2=>r x xs H2 Q)
variable {o:Expr} {es:List Expr} {to:TE} {t:TA} {name:Str} {apos cpos:Pos} {T id:String} {r:V->List V->Hp->VK->Prop}
theorem dD (pa:PlainAttrs T) (slot:Slot T name id) (hty:typeOf (.builtin id)=pure (.type "method_descriptor")) (hm:MtR X id r) (ho:PE X o to) (ha:PA X (e :: es) t)
   (hbase:attributeBase o name X.env (eval o X.env)=eval o X.env:=by rfl)
   (hfew:((backTo cpos (starEach (e :: es) X.env)).all (λx=>!x.1) && (backToKw cpos (keywordEach [] X.env)).all (λx=>x.1.isSome)
     && decide ((e :: es).length + ([]:List Keyword).length + (if ([]:List Keyword).isEmpty then 0 else 1) < 30))=true:=by rfl)
   (hline:(apos.endLine == cpos.line)=true:=by rfl) (hs:starEach (e :: es) X.env=(false,eval e X.env) :: starEach es X.env:=by rfl) (hplain:(backTo cpos (starEach es X.env)).any (·.1)=false:=by rfl) :
   PE X (.Call (.Attribute o name apos) (e :: es) [] cpos) (cZW T r to t):=by
 intro pins s σ H Q I h
 refine wpAny_Call_method_late hbase hfew hline rfl (thn (ho pins s σ H _ I h) λv s1 ⟨x,H1,I1,r1,q⟩=>?_)
 obtain ⟨ty,q1⟩:=bJN (K:=X.K) q
 obtain ⟨h1,h2⟩:=dQM I1 r1 ty
 refine ⟨T,id,pa,slot,hty,h1,h2,?_⟩
 have hA:=ha cpos pins s1 σ H1 _ I1 q1
 rw [hs] at hA ⊢
 refine Calls.callWith_builtin (by show (false || (backTo cpos (starEach es X.env)).any (·.1))=false; rw [hplain] <;> rfl) (Calls.evalArgs_plain ?_)
 exact thn hA λus s2 ⟨vs,H2,I2,r2,q2⟩=>hm pins s2 σ H2 x vs v us Q I2 r1 r2 q2
def bJ3:V->List V->Hp->VK->Prop:=λx vs H Q=>match x,vs with
 | .ref l,[y]=>(match iV H l with | some xs=>xs.length < sizeLine/\Q .non (upd H l (.lst (xs ++ [y]))) | none=>False)
 | _,_=>False
theorem qN:MtR X "list.append" bJ3:=MtR.imp (r:=aQ0) sK λ_ _ _ _ q=>by
 unfold bJ3 at q
 split at q
 · split at q
   · exact ⟨_,_,_,rfl,rfl,kK (by assumption),q.1,q.2⟩
   · exact q.elim
 · exact q.elim
def uE:V->List V->Hp->VK->Prop:=λx vs H Q=>match x,vs with
 | .str z,[.str y]=>(match Builtin.Str.occurrences z y 0 z.length 1 with | i :: _=>Q (.int ((i:Nat):Int)) H | []=>False)
 | _,_=>False
theorem aQ3:MtR X "str.index" uE:=mt_index.imp λ_ _ _ _ q=>by
 unfold uE at q
 split at q
 · split at q
   · exact ⟨_,_,_,_,rfl,rfl,by assumption,q⟩
   · exact q.elim
 · exact q.elim
def lA:List V->Option (List Bool)
 | []=>some []
 | .bl z :: r=>(lA r).map (z :: ·)
 | _=>none
theorem yO (ys:List Bool):lA (ys.map V.bl)=some ys:=by
 induction ys with
 | nil=>rfl
 | cons y r ih=>rw [Ar,lA,ih]; rfl
theorem sO:∀ {xs:List V} {ys:List Bool},lA xs=some ys->xs=ys.map V.bl
 | [],_,h=>by cases h; rfl
 | .bl z :: r,_,h=>by
   rw [lA] at h
   cases e:lA r with
   | none=>rw [e] at h; cases h
   | some l=>rw [e] at h; cases h; rw [sO e]; rfl
 | .non :: _,_,h=>by cases h
 | .str _ :: _,_,h=>by cases h
 | .int _ :: _,_,h=>by cases h
 | .byt _ :: _,_,h=>by cases h
 | .flt _ :: _,_,h=>by cases h
 | .ref _ :: _,_,h=>by cases h
 | .ty _ :: _,_,h=>by cases h
def cQZ:List V->Hp->VK->Prop:=λvs H Q=>match vs with
 | [.ref p]=>(match rdL H p with
   | some xs=>(match lA xs with | some bs=>Q (.bl (bs.all _root_.id)) H | none=>False)
   | none=>False)
 | _=>False
theorem dJ5 (hc:X.calm=true):CallR X (.builtin "all") cQZ:=(rF hc).imp λ_ _ _ q=>by
 unfold cQZ at q
 split at q
 · split at q
   · split at q
     · have e:=sO (by assumption)
       subst e
       exact ⟨_,_,rfl,aU (by assumption),q⟩
     · exact q.elim
   · exact q.elim
 · exact q.elim
def tyN (x:V) (H:Hp):Option String:=match x with
 | .non=>some "NoneType"
 | .bl _=>some "bool"
 | .int _=>some "int"
 | .str _=>some "str"
 | .ref p=>(match H p with
   | some (.lst _)=>some "list"
   | some (.frz _ (.lst _))=>some "list"
   | some (.tup _)=>some "tuple"
   | some (.dK _)=>some "dict"
   | _=>none)
 | _=>none
theorem cJ2 {K:PySem.W.Frag} {x:V} {H:Hp} {t:String} (h:tyN x H=some t):TyOf K H x (.type t):=by
 unfold tyN at h
 split at h
 · cases h; exact .non
 · cases h; exact .bl _
 · cases h; exact .int _
 · cases h; exact .str _
 · split at h
   · cases h; exact .lst (by assumption)
   · cases h; exact .frz (by assumption)
   · cases h; exact .tup (by assumption)
   · cases h; exact .dK (by assumption)
   · cases h
 · cases h
def eQD (t T:String):Bool:=decide (t=T) || (decide (t="bool") && decide (T="int"))
def dXB (t T:String):Bool:=["NoneType", "bool", "int", "str", "list", "tuple", "dict"].contains t && ["bool", "int", "str", "list", "tuple", "dict"].contains T
def aZB (t T:String):Option Bool:=bif dXB t T then some (eQD t T) else none
theorem cXF {K:PySem.W.Frag}:∀ t∈["NoneType", "bool", "int", "str", "list", "tuple", "dict"],∀ T∈["bool", "int", "str", "list", "tuple", "dict"],PySem.W.kitOne K (.type t) (.type T)=some (eQD t T):=by
 simp only [List.forall_mem_cons,List.not_mem_nil,false_implies,implies_true,and_true]
 refine ⟨⟨rfl,rfl,rfl,rfl,rfl,rfl⟩,⟨rfl,rfl,rfl,rfl,rfl,rfl⟩,⟨rfl,rfl,rfl,rfl,rfl,rfl⟩,⟨rfl,rfl,rfl,rfl,rfl,rfl⟩,⟨rfl,rfl,rfl,rfl,rfl,rfl⟩,⟨rfl,rfl,rfl,rfl,rfl,rfl⟩,⟨rfl,rfl,rfl,rfl,rfl,rfl⟩⟩
theorem bZR {K:PySem.W.Frag} {t T:String} {b:Bool} (h:aZB t T=some b):PySem.W.kitOne K (.type t) (.type T)=some b:=by
 unfold aZB at h
 cases hn:dXB t T with
 | false=>rw [hn] at h; cases h
 | true=>
   rw [hn] at h; cases h
   unfold dXB at hn; rw [Dz] at hn
   exact cXF t (List.contains_iff_mem.mp hn.1) T (List.contains_iff_mem.mp hn.2)
def cQK:List V->Hp->VK->Prop:=λxs H Q=>match xs with
 | [x,.ty T]=>(match tyN x H with
   | some t=>(match aZB t T with | some b=>Q (.bl b) H | none=>False)
   | none=>False)
 | _=>False
theorem cZX:CallR X (.builtin "isinstance") cQK:=call_isinst.imp λ_ _ _ q=>by
 unfold cQK at q
 split at q
 · split at q
   · split at q
     · exact ⟨_,_,_,_,rfl,cJ2 (by assumption),bZR (by assumption),q⟩
     · exact q.elim
   · exact q.elim
 · exact q.elim
end
end L2
namespace L2
open PySem PySem.Spec PyProof.Rows
def xU (R:Str->Hp->Prop):VK:=λx H=>match x with | .str z=>R z H | _=>False
theorem bZD {R:Str->Hp->Prop} {x:V} {H:Hp} (q:xU R x H):∃ z,x=.str z/\R z H:=by
 unfold xU at q
 split at q
 · exact ⟨_,rfl,q⟩
 · exact q.elim
def onL (o:Option (List V)) (P:Prop):Prop:=match o with | some _=>P | none=>False
def gM (R:Addr->Hp->Prop):VK:=λx H=>match x with | .ref a=>R a H | _=>False
theorem bZE {R:Addr->Hp->Prop} {x:V} {H:Hp} (q:gM R x H):∃ a,x=.ref a/\R a H:=by
 unfold gM at q
 split at q
 · exact ⟨_,rfl,q⟩
 · exact q.elim
section
variable {X:Cx} {tg l a b:Expr} {tl ta tb:TE} {p pos:Pos}
def dZ2 (tl:TE):TI:=λσ H R=>tl σ H (xU λz H1=>R (Its z) H1)
theorem mR (hl:PE X l tl):PI X tg l (dZ2 tl):=by
 intro pins s σ H R I h
 refine thn (hl pins s σ H _ I h) λv s1 ⟨x,H1,I1,r1,q1⟩=>?_
 obtain ⟨z,rfl,q⟩:=bZD q1
 obtain ⟨t,rfl⟩:=r1
 have fb:∀ b∈[s1.heap.objs.size],kM X pins H1 b:=λb hb=>by
   have e:b=s1.heap.objs.size:=by simpa using hb
   subst e
   exact I1.fpOk (Ah _) (I1.hok.fresh (Ah _))
 cases ha:z.cps.all (· < 128)
 · refine wpAny_pyIter_wide ha ?_
   exact ⟨s1.heap.objs.size,[s1.heap.objs.size],_,_,H1,rfl,I1.kept (t':=s1.toks) λb o e=>Af _ e,aJV z t _,⟨_,Av _ rfl,rfl,rfl⟩,fb,q⟩
 · refine wpAny_pyIter_ascii ha ?_
   exact ⟨s1.heap.objs.size,[s1.heap.objs.size],_,_,H1,rfl,I1.kept (t':=s1.toks) λb o e=>Af _ e,aQM z t _,⟨_,Av _ rfl,rfl,rfl⟩,fb,q⟩
def cZM (K:PySem.W.Frag) (tl:TE):TI:=λσ H R=>tl σ H (gM λa H1=>onL (rdL H1 a) (R (Itl K a) H1))
theorem bW (hl:PE X l tl):PI X tg l (cZM X.K tl):=by
 intro pins s σ H R I h
 refine thn (hl pins s σ H _ I h) λv s1 ⟨x,H1,I1,r1,q1⟩=>?_
 obtain ⟨a,rfl,q⟩:=bZE q1
 cases r1
 unfold onL at q
 split at q
 · rename_i xs e
   obtain ⟨its,rv,p,hz⟩:=I1.list (aU e)
   refine El p.isList ?_
   refine ⟨s1.heap.objs.size,[s1.heap.objs.size],_,_,H1,rfl,I1.kept (t':=s1.toks) λb o e=>Af _ e,aZ7 a _,⟨_,Av _ rfl,rfl,rfl⟩,λb hb=>?_,q⟩
   have e:b=s1.heap.objs.size:=by simpa using hb
   subst e
   exact I1.fpOk (Ah _) (I1.hok.fresh (Ah _))
 · exact q.elim
def yY (R:Int->Hp->Prop):List V->Hp->Prop:=λvs H=>match vs with | [.int j]=>R j H | _=>False
theorem aQZ {R:Int->Hp->Prop} {vs:List V} {H:Hp} (q:yY R vs H):∃ j,vs=[.int j]/\R j H:=by
 unfold yY at q
 split at q
 · exact ⟨_,rfl,q⟩
 · exact q.elim
def bXP (R:Int->Int->Hp->Prop):List V->Hp->Prop:=λvs H=>match vs with | [.int i,.int j]=>R i j H | _=>False
theorem cXS {R:Int->Int->Hp->Prop} {vs:List V} {H:Hp} (q:bXP R vs H):∃ i j,vs=[.int i,.int j]/\R i j H:=by
 unfold bXP at q
 split at q
 · exact ⟨_,_,rfl,q⟩
 · exact q.elim
def cZU (ta:TA):TI:=λσ H R=>ta σ H (yY λj H1=>(-(2 ^ 62)<=j/\j < 2 ^ 62)/\R (Itr 0 j.toNat) H1)
def cZZ (ta:TA):TI:=λσ H R=>ta σ H (bXP λi j H1=>(-(2 ^ 62)<=i/\i < 2 ^ 62/\-(2 ^ 62)<=j/\j < 2 ^ 62)/\R (Itr i (j - i).toNat) H1)
theorem eY {ta:TA} (hg:Gl X "range") (hm:X.mg "range"=none) (ha:PA X [a] ta) (hs:starEach [a] X.env=[(false,eval a X.env)]:=by rfl):PI X tg (.Call (.Name "range" p) [a] [] pos) (cZU ta):=by
 intro pins s σ H R I h
 refine Call_ (iX I hg hm boot_range (Cr (thn (ha pos pins s σ H _ I h) λus s1 ⟨vs,H1,I1,r1,q1⟩=>?_) hs rfl))
 obtain ⟨j,e,⟨b1,b2⟩,q⟩:=aQZ q1
 subst e
 cases r1 with
 | cons r rr=>
   cases rr
   obtain ⟨t,rfl⟩:=r
   exact call_range_1 (vH I1 (by omega) (by omega) b1 b2 (by simpa using q))
theorem sG {ta:TA} (hg:Gl X "range") (hm:X.mg "range"=none) (ha:PA X [a,b] ta) (hs:starEach [a,b] X.env=[(false,eval a X.env),(false,eval b X.env)]:=by rfl) (hs2:starEach [b] X.env=[(false,eval b X.env)]:=by rfl) :
   PI X tg (.Call (.Name "range" p) [a,b] [] pos) (cZZ ta):=by
 intro pins s σ H R I h
 refine Call_ (iX I hg hm boot_range (Cr (thn (ha pos pins s σ H _ I h) λus s1 ⟨vs,H1,I1,r1,q1⟩=>?_) (by rw [hs,hs2]) (by rw [hs2]; rfl)))
 obtain ⟨i,j,e,⟨b1,b2,b3,b4⟩,q⟩:=cXS q1
 subst e
 cases r1 with
 | cons r rr=>
   cases rr with
   | cons r' rr=>
     cases rr
     obtain ⟨t,rfl⟩:=r
     obtain ⟨t',rfl⟩:=r'
     exact call_range_2 (vH I1 b1 b2 b3 b4 q)
def vC (J:It) (g:TG) (tb:TS) (D:Ends) (σ:St) (H1:Hp):Prop:=∃ W:Nat->Nat->St->Hp->Prop,(∃ m,W 0 m σ H1)/\∀ i m σ H,W i m σ H->
 (J.stop i H/\D.nx σ H)\/(J.go i H/\∃ N:St->Hp->Prop,(∀ σ' H',N σ' H'->∃ m',m' < m/\W (i + 1) m' σ' H')/\∀ x H',J.yld i H x H'->g x σ H' λσ2 H2=>tb { D with nx:=N,ct:=N,bk:=D.nx } σ2 H2)
def cJD (wi:TI) (g:TG) (tb:TS):TS:=λD σ H=>wi σ H λJ H1=>vC J g tb D σ H1
theorem bP {iter:Expr} {body:List Stmt} {wi:TI} {g:TG} {tb:TS} (hp:PassesOwn (model X.prog X.w) X.A X.env X.xe) (hc:X.calm=true) (hi:PI X tg iter wi) (hg:PG X tg g) (hb:PSs X body tb)
   (hs:∀ x,foldedSetIterable iter X.env x=pure x:=by intro _; rfl):PS X (.For tg iter body [] pos) (cJD wi g tb):=cJ7 (wi:=wi) hp hc hi hg hb hs
section
variable {K:PySem.W.Frag} {c:Addr} {xs:List V} {z:Str} {lo:Int} {n:Nat} {g:TG} {tb:TS} {D:Ends} {σ:St} {H:Hp}
theorem cN (Pv:Nat->St->Hp->Prop) (h0:Pv 0 σ H) (hl:∀ i σ H,i<=xs.length->Pv i σ H->rdL H c=some xs)
   (hs:∀ i x σ H,xs[i]?=some x->Pv i σ H->g x σ H λσ2 H2=>tb { D with nx:=Pv (i + 1),ct:=Pv (i + 1),bk:=D.nx } σ2 H2) (hd:∀ σ H,Pv xs.length σ H->D.nx σ H):vC (Itl K c) g tb D σ H :=
 bX5 Pv h0 (λi σ H hi p=>aU (hl i σ H hi p)) hs hd
theorem aQJ (Pv:Nat->St->Hp->Prop) (h0:Pv 0 σ H)
   (hs:∀ i c σ H,z.cps.toList[i]?=some c->Pv i σ H->g (.str ⟨#[c]⟩) σ H λσ2 H2=>tb { D with nx:=Pv (i + 1),ct:=Pv (i + 1),bk:=D.nx } σ2 H2) (hd:∀ σ H,Pv z.cps.toList.length σ H->D.nx σ H):vC (Its z) g tb D σ H :=
 cQD Pv h0 hs hd
theorem iA (Pv:Nat->St->Hp->Prop) (h0:Pv 0 σ H)
   (hs:∀ i σ H,i < n->Pv i σ H->g (.int (lo + i)) σ H λσ2 H2=>tb { D with nx:=Pv (i + 1),ct:=Pv (i + 1),bk:=D.nx } σ2 H2) (hd:∀ σ H,Pv n σ H->D.nx σ H):vC (Itr lo n) g tb D σ H :=
 aZ4 Pv h0 hs hd
end
theorem aQL {x:Str} {T:String} (hg:Gl X x) (hm:X.mg x=none) (hv:bootBuiltins x=some (.type T)) (hn:x≠"__name__" := by decide) (hd:(x == ("__debug__" : Str))=false:=by decide):PE X (.Name x pos) (tC (.ty T)):=cQ7 hg hm hv rfl hn hd
end
end L2
set_option maxHeartbeats 4000000
namespace L2
open PySem PySem.Spec PyProof.Rows
section
variable {K:PySem.W.Frag} {σ:St} {H:Hp} {Q:VK} {QB:Bool->Hp->Prop} {QA:List V->Hp->Prop} {QO:Option Int->Hp->Prop} {D:Ends} {t u:TS} {te ta tb tc:TE} {tt tu:TT} {tA:TA} {r r':R2} {x y v:V} {i j:Int} {z z':Str} {p q:Addr} {xs ys vs:List V} {k n:Nat}
theorem dZH (h:t { D with nx:=u D } σ H):dXJ t u D σ H:=h
theorem dQI (h:D.nx σ H):cZJ D σ H:=h
theorem eQY {c:TT} (h:c σ H λb H1=>if b=true then t D σ H1 else u D σ H1):dZM c t u D σ H:=h
theorem eQT (h:te σ H D.rt):eQG te D σ H:=h
theorem dQK (h:te σ H λ_ H1=>D.nx σ H1):cZT te D σ H:=h
theorem dZ6 {g:TG} (h:te σ H λx H1=>g x σ H1 D.nx):cZC te g D σ H:=h
theorem dZ8 {wi:TI} {g:TG} {tb:TS} (h:wi σ H λJ H1=>vC J g tb D σ H1):cJD wi g tb D σ H:=h
theorem oR {QS:St->Hp->Prop} (h:QS (σ.set k (some v)) H):pE k v σ H QS:=h
theorem dX4 {QS:St->Hp->Prop} {to ti:TE} {ts:cQ0} (h:to σ H λo H1=>ti σ H1 λi H2=>ts o i v H2 λH3=>QS σ H3):eQN to ti ts v σ H QS:=h
theorem dJX (e:σ[k]?=some (some v)) (h:Q v H):cXE k σ H Q:=by unfold cXE; rw [e]; exact h
theorem s_c (h:Q v H):tC v σ H Q:=h
theorem eQX (h:ta σ H λx H1=>tb σ H1 λy H2=>r x y H2 Q):tOp r ta tb σ H Q:=h
theorem eXB {ru:V->Hp->VK->Prop} (h:ta σ H λx H1=>ru x H1 Q):tUn ru ta σ H Q:=h
theorem dJV (h:QA [] H):wA σ H QA:=h
theorem cJQ {tr:TA} (h:ta σ H λx H1=>tr σ H1 λxs H2=>QA (x :: xs) H2):aXH ta tr σ H QA:=h
theorem dJM (h:tA σ H λxs H1=>xs.length<=sizeLine/\∀ p,H1 p=none->Q (.ref p) (upd H1 p (.lst xs))):bQP tA σ H Q:=h
theorem dJR (h:tA σ H λxs H1=>xs.length<=sizeLine/\∀ p,H1 p=none->Q (.ref p) (upd H1 p (.tup xs))):eQJ tA σ H Q:=h
theorem dX2 {sp:Sp} {E:XK} (h:tA σ H λvs H1=>sp (vs ++ []) H1 Q E):aQ1 sp [] E tA σ H Q:=h
theorem eXA {rc:List V->Hp->VK->Prop} (h:tA σ H λvs H1=>rc vs H1 Q):tCB rc tA σ H Q:=h
theorem eXE {rs:V->Option Int->Option Int->Hp->VK->Prop} {tl th:TO} (h:te σ H λx H1=>tl σ H1 λl H2=>th σ H2 λu H3=>rs x l u H3 Q):tSl rs te tl th σ H Q:=h
theorem bXG (h:QO none H):aXQ σ H QO:=h
theorem dQE (h:te σ H (uT QO)):cZQ te σ H QO:=h
theorem bXW (h:QO (some i) H):uT QO (.int i) H:=h
theorem dXH {T:String} {rm:V->List V->Hp->VK->Prop} {to:TE} (h:to σ H λx H1=>zV T x H1 (tA σ H1 λxs H2=>rm x xs H2 Q)):cZW T rm to tA σ H Q:=h
theorem eQK {P:Prop} (h:P):zV "str" (.str z) H P:=⟨rfl,h⟩
theorem dJH {P:Prop} (e:rdL H p=some xs) (h:P):zV "list" (.ref p) H P:=by unfold zV; simp only [e]; exact ⟨trivial,h⟩
theorem cJX (h:te σ H (mB QB)):cJC te σ H QB:=h
theorem cXU (h:te σ H (bQR QB)):bXE te σ H QB:=h
theorem eQ2 {b:Bool} (h:QB b H):mB QB (.bl b) H:=h
theorem cJ1 {b:Bool} (h:QB b H):bQR QB (.bl b) H:=h
theorem eQL (h:tt σ H λc H1=>if c=true then tu σ H1 QB else QB false H1):dZU tt tu σ H QB:=h
theorem eQ4 (h:tt σ H λc H1=>if c=true then QB true H1 else tu σ H1 QB):tOr tt tu σ H QB:=h
theorem eQC (h:tt σ H λc H1=>QB (!c) H1):dZE tt σ H QB:=h
theorem dQZ (h:ta σ H (mB λc H1=>if c=true then tb σ H1 Q else Q (.bl false) H1)):cZ8 ta tb σ H Q:=h
theorem dJJ (h:tt σ H λc H1=>if c=true then ta σ H1 Q else tb σ H1 Q):tIf tt ta tb σ H Q:=h
theorem eQ8 {g:Int->Int->V} (h:Q (g i j) H):mI g (.int i) (.int j) H Q:=h
theorem eQB {C:Int->Int->Prop} {g:Int->Int->V} (c:C i j) (h:Q (g i j) H):mIC C g (.int i) (.int j) H Q:=⟨c,h⟩
theorem dXX (h:Q (.int (i + j)) H):aJ1 (.int i) (.int j) H Q:=h
theorem dXU (c:z.length + z'.length<=sizeLine) (h:Q (.str (z ++ z')) H):aJ1 (.str z) (.str z') H Q:=⟨c,h⟩
theorem lB (e:iV H p=some xs) (e':iV H q=some ys) (c:xs.length + ys.length<=sizeLine) (h:∀ r,H r=none->Q (.ref r) (upd H r (.lst (xs ++ ys)))):aJ1 (.ref p) (.ref q) H Q:=by
 unfold aJ1; simp only [e,e']; exact ⟨c,h⟩
theorem dJ4 (h:Q (.bl (decide (i=j))) H):mEq (.int i) (.int j) H Q:=⟨rfl,by
 rw [show decide (V.int i=V.int j)=decide (i=j) by simp]; exact h⟩
theorem eQI (h:Q (.bl (decide (z=z'))) H):mEq (.str z) (.str z') H Q:=⟨rfl,by
 rw [show decide (V.str z=V.str z')=decide (z=z') by simp]; exact h⟩
theorem dZW (h:Q (.bl (!decide (i=j))) H):mNe (.int i) (.int j) H Q:=⟨rfl,by
 rw [show decide (V.int i=V.int j)=decide (i=j) by simp]; exact h⟩
theorem dJW {b c:Bool} (h:Q (.bl (!decide (b=c))) H):mNe (.bl b) (.bl c) H Q:=⟨rfl,by
 rw [show decide (V.bl b=V.bl c)=decide (b=c) by simp]; exact h⟩
theorem vK {neg:Bool} (e:rdL H p=some xs) (e':rdL H q=some ys) (f:xs.all bX=true) (f':ys.all bX=true) (h:Q (.bl (if neg then !kN xs ys else kN xs ys)) H):bQA neg (.ref p) (.ref q) H Q:=by
 unfold bQA; simp only [e,e']; exact ⟨f,f',h⟩
theorem eQM (h:Q (.bl (decide (x=.non))) H):dXD x .non H Q:=h
theorem cJJ (h:Q (.bl (!decide (x=.non))) H):bZB x .non H Q:=h
theorem eQH {neg:Bool} (h:Q (.bl (if neg then !subIn z z' else subIn z z')) H):dQA neg (.str z) (.str z') H Q:=h
theorem cZI {neg:Bool} (e:rdL H p=some xs) (f:bX x=true) (f':xs.all bX=true) (h:Q (.bl (if neg then !inV x xs else inV x xs)) H):aJF neg x (.ref p) H Q:=by
 unfold aJF; simp only [e]; exact ⟨f,f',h⟩
theorem jA {c:Nat} (l:z.length<=sizeLine) (e:atI z.cps.toList i=some c) (h:Q (.str ⟨#[c]⟩) H):mIx (.str z) (.int i) H Q:=by
 unfold mIx; simp only [e]; exact ⟨l,h⟩
theorem cL (e:rdL H p=some xs) (e':atI xs i=some v) (h:Q v H):mIx (.ref p) (.int i) H Q:=by
 unfold mIx; simp only [e,e']; exact h
theorem eQR {lo hi:Option Int} (e:rdL H p=some xs) (h:∀ r,H r=none->Q (.ref r) (upd H r (.lst (rE xs lo hi)))):mSl (.ref p) lo hi H Q:=by
 unfold mSl; simp only [e]; exact h
theorem cJN (l:z.length<=sizeLine) (h:Q (.int z.length) H):bZM [.str z] H Q:=⟨l,h⟩
theorem dXT (e:rdL H p=some xs) (h:Q (.int xs.length) H):bZM [.ref p] H Q:=by unfold bZM; simp only [e]; exact h
theorem dJD (h:Q (.int (if j < i then j else i)) H):dQB [.int i,.int j] H Q:=h
theorem dJ1 (h:Q (.int (if j > i then j else i)) H):dQF [.int i,.int j] H Q:=h
theorem uY (e:PySem.intText? z=some i) (l:z.length<=640) (h:Q (.int i) H):cQP [.str z] H Q:=by unfold cQP; simp only [e]; exact ⟨l,h⟩
theorem cJR (e:rdL H p=some xs) (h:∀ l,H l=none->Q (.ref l) (upd H l (.lst xs))):aXA [.ref p] H Q:=by unfold aXA; simp only [e]; exact h
theorem dZQ (e:iV H p=some xs) (l:xs.length < sizeLine) (h:Q .non (upd H p (.lst (xs ++ [v])))):bJ3 (.ref p) [v] H Q:=by unfold bJ3; simp only [e]; exact ⟨l,h⟩
theorem aXV {rest:List Nat} (e:Builtin.Str.occurrences z z' 0 z.length 1=k :: rest) (h:Q (.int ((k:Nat):Int)) H):uE (.str z) [.str z'] H Q:=by unfold uE; simp only [e]; exact h
theorem dZG {bs:List Bool} (e:rdL H p=some (bs.map V.bl)) (h:Q (.bl (bs.all id)) H):cQZ [.ref p] H Q:=by
 unfold cQZ; simp only [e,yO]; exact h
theorem dZ5 {T t:String} {b:Bool} (e:tyN x H=some t) (e':aZB t T=some b) (h:Q (.bl b) H):cQK [x,.ty T] H Q:=by
 unfold cQK; simp only [e,e']; exact h
theorem cQ3 {tl:TE} {R:It->Hp->Prop} (h:tl σ H (gM λa H1=>onL (rdL H1 a) (R (Itl K a) H1))):cZM K tl σ H R:=h
theorem cX5 {R:Addr->Hp->Prop} (h:R p H):gM R (.ref p) H:=h
theorem dZ3 {P:Prop} (e:rdL H p=some xs) (h:P):onL (rdL H p) P:=by unfold onL; simp only [e]; exact h
theorem dZA {tl:TE} {R:It->Hp->Prop} (h:tl σ H (xU λz H1=>R (Its z) H1)):dZ2 tl σ H R:=h
theorem cXN {R:Str->Hp->Prop} (h:R z H):xU R (.str z) H:=h
theorem cXJ {R:It->Hp->Prop} (h:tA σ H (yY λj H1=>(-(2 ^ 62)<=j/\j < 2 ^ 62)/\R (Itr 0 j.toNat) H1)):cZU tA σ H R:=h
theorem cXT {R:It->Hp->Prop} (h:tA σ H (bXP λi j H1=>(-(2 ^ 62)<=i/\i < 2 ^ 62/\-(2 ^ 62)<=j/\j < 2 ^ 62)/\R (Itr i (j - i).toNat) H1)):cZZ tA σ H R:=h
theorem cJO {R:Int->Hp->Prop} (h:R i H):yY R [.int i] H:=h
theorem dXZ {R:Int->Int->Hp->Prop} (h:R i j H):bXP R [.int i,.int j] H:=h
theorem dJL {o:V} {QH:Hp->Prop} (e:iV H p=some xs) (e':ixN xs.length i=some k) (h:QH (upd H p (.lst (xs.set k v)))):cZN (.ref p) (.int i) v H QH:=⟨_,_,_,_,rfl,rfl,kK e,e',h⟩
end
theorem bZP {α:Type} {xs:List α} {i:Int} (h0:0<=i) (h1:i < xs.length):∃ v,atI xs i=some v/\xs[i.toNat]?=some v:=by
 have hk:i.toNat < xs.length:=by omega
 have e:i=((i.toNat:Nat):Int):=by omega
 have q:atI xs ((i.toNat:Nat):Int)=some xs[i.toNat]:=eO (Aa hk)
 rw [<-e] at q
 exact ⟨xs[i.toNat],q,Aa hk⟩
theorem dXP {n:Nat} {i:Int} (h0:0<=i) (h1:i < n):ixN n i=some i.toNat:=by
 unfold ixN
 rw [if_pos h0,if_pos h1]
theorem bQ {n:Nat} (h:n<=100000):n<=sizeLine:=Bb h (by decide)
theorem aY {n:Nat} (h:n<=100000):n < sizeLine:=Ec h (by decide)
end L2
namespace L2
open PySem PySem.Spec PyProof.Rows
def Cal (P:Program) (w:World) (K:PySem.W.Frag) (mg:Str->Option Value) (base:Heap) (k:Nat) (x:Str) (ps:List Str) (sp:Sp):Prop :=
 ∃ (f:Addr) (fd:FuncData),FnOk P w K mg base CX0 k f fd ps sp/\mg x=some (.ref f)/\PySem.W.keepIn K (.ref f)=true/\Binds K fd ps []
section
variable {X:Cx} {k k':Nat} {ps:List Str} {sp:Sp} {x:Str} {p pos:Pos} {e:Expr} {es:List Expr} {t:TA} {K:PySem.W.Frag} {H:Hp} {Q:VK} {xs:List V} {v:V} {i:Int} {a:Addr}
theorem aX (c:Cal X.prog X.w X.K X.mg X.base k x ps sp) (hr:Room k' X.A) (hk:k<=k') (hg:Gl X x)
   (ha:PA X (e :: es) t) (hdb:(x == ("__debug__" : Str))=false:=by decide) (he:starEach (e :: es) X.env=(false,eval e X.env) :: starEach es X.env:=by rfl) (hpl:(backTo pos (starEach es X.env)).any (·.1)=false:=by rfl) :
   PE X (.Call (.Name x p) (e :: es) [] pos) (aQ1 sp [] E0 t):=by
 obtain ⟨f,fd,F,hm,hk',hb⟩:=c
 exact aX4 F (hr.mono hk) hg hm hk' hb .nil dZV ha hdb he hpl
theorem kE {z:Str} (hg:Gl X x) (h:∃ t,X.mg x=some (.str z t)) (hd:(x == ("__debug__" : Str))=false:=by decide):PE X (.Name x pos) (tC (.str z)):=by
 obtain ⟨t,h⟩:=h
 exact vB hg h ⟨t,rfl⟩ hd
theorem cQC {z:Int} (hg:Gl X x) (h:∃ t,X.mg x=some (.int z t)) (hd:(x == ("__debug__" : Str))=false:=by decide):PE X (.Name x pos) (tC (.int z)):=by
 obtain ⟨t,h⟩:=h
 exact vB hg h ⟨t,rfl⟩ hd
theorem dJ2 (e:SqL K H a xs) (e':atI xs i=some v) (h:Q v H):cJW K (.ref a) (.int i) H Q:=⟨a,xs,i,v,rfl,rfl,e,e',h⟩
end
end L2
namespace L2
open PySem PySem.Spec PyProof.Rows
theorem dE:bootBuiltins "len"=some (.builtin "len"):=by decide +kernel
theorem dR:bootBuiltins "isinstance"=some (.builtin "isinstance"):=by decide +kernel
theorem bZ2:bootBuiltins "min"=some (.builtin "min"):=by decide +kernel
theorem bX9:bootBuiltins "max"=some (.builtin "max"):=by decide +kernel
theorem dQ7:bootBuiltins "all"=some (.builtin "all"):=by decide +kernel
theorem dX1:bootBuiltins "sum"=some (.builtin "sum"):=by decide +kernel
theorem aZM:bootBuiltins "sorted"=some (.builtin "sorted"):=by decide +kernel
theorem uL:bootBuiltins "int"=some (.type "int"):=by decide +kernel
theorem fI:bootBuiltins "list"=some (.type "list"):=by decide +kernel
theorem uH:bootBuiltins "dict"=some (.type "dict"):=by decide +kernel
theorem xG:bootBuiltins "range"=some (.type "range"):=by decide +kernel
end L2
namespace L2
theorem dJG {A B:Prop} (h:B):if (!true)=true then A else B:=h
theorem dZL {A B:Prop} (h:A):if (!false)=true then A else B:=h
end L2
namespace L2
open PySem PySem.Spec PyProof.Rows
theorem dQD {X:Cx} {x:Str} {j:Nat} {pos:Pos} {es:List Expr} {t:TA} (h:PA X es t):PA X (.Constant (.str x) j pos :: es) (aXH (tC (.str x)) t):=aA fM h rfl
end L2
set_option maxHeartbeats 4000000
namespace L2
open PySem PySem.Spec PyProof.Rows
theorem zR {prog:Program} {w:World} {A:Around} {R:Result->Shared->Prop} {s:Shared} {elt target iter:Expr} {ifs:List Expr} {scope:Scope} {pos:Pos} {it acc:Value} {env:Env} (I:Nat->Shared->Prop)
   (turn:∀ n s,I n s->wpAny (model prog w) A (pyNext it) (λr s₁=>match r with
     | none=>R (.ok .next) s₁
     | some v=>wpAny (model prog w) A (letOwnedTupleGo target it v) (λ_ s₁'=>wpAny (model prog w) A (assign target env v) (λ_ s₂=>
         wpAny (model prog w) A (forIn ifs true λc r=>if r=true then do let ok <-isTrue c env (eval c env); pure (ForInStep.yield ok) else pure (ForInStep.yield r)) (λok s₃=>
           if ok=true then wpAny (model prog w) A (eval elt env) (λx s₄=>
             wpAny (model prog w) A (call (.builtin "list.append") [acc,x]) (λ_ s₅=>∃ m,m < n/\I m s₅) (λ_ _=>False) s₄) (λ_ _=>False) s₃
           else ∃ m,m < n/\I m s₃) (λ_ _=>False) s₂) (λ_ _=>False) s₁') (λ_ _=>False) s₁) (λ_ _=>False) s)
   (n:Nat) (h:I n s) :
   codeAny (model prog w) A (.compLoop (.ListComp elt [⟨target,iter,ifs,0⟩] scope pos) 0 it acc env) R s:=by
 refine codeAny_loop rfl I (λn s hI=>?_) n h
 show wpAny _ A ((compTurn (.ListComp elt [⟨target,iter,ifs,0⟩] scope pos) 0 it acc env).onRaise (λx=>do noteFrame x env; theTreesLotGoes x)) _ _ s
 refine wpAny_noted ?_
 rw [compTurn_list]
 refine Ac (Fg (Ac (Cb (turn n s hI) (λr s₁ h₁=>?_) λ_ _ h'=>h'.elim)))
 cases r with
 | none=>exact Ai h₁
 | some v=>
   refine Ac (Cb h₁ (λ_ s₁' h₁'=>?_) λ_ _ h'=>h'.elim)
   refine Ac (Cb h₁' (λ_ s₂ h₂=>Ac (Cb h₂ (λok s₃ h₃=>?_) λ_ _ h'=>h'.elim)) λ_ _ h'=>h'.elim)
   cases ok with
   | false=>exact Ai ⟨rfl,h₃⟩
   | true=>
     exact Ac (Ac (Cb h₃ (λx s₄ h₄=>Ac (Cb h₄ (λ_ s₅ h₅=>Ai (Ai ⟨rfl,h₅⟩)) λ_ _ h'=>h'.elim)) λ_ _ h'=>h'.elim))
def cxC (X:Cx) (N:List Str) (scope:Scope) (cl:List (Str × Addr)) (C:Addr) (s₀:Shared) (H₀:Hp) (ex:List Addr):Cx :=
 { prog:=X.prog,w:=X.w,K:=X.K,mg:=X.mg,base:=X.base,A:=X.A,N:=N,s₀:=s₀,H₀:=H₀,env:=compEnvC scope cl C X.env,outer:=X.stack,stack:=X.stack,ex:=ex,fn:=λ_=>false,calm:=X.calm,pn:=[],xe:=λ_ _=>False }
structure ClOk (X:Cx) (N:List Str) (scope:Scope) (cl:List (Str × Addr)) (vals:St->St):Prop where
 clos:closureFor scope X.env=pure cl
 sub:∀ x c,cl.lookup x=some c->X.env.cells.lookup x=some c
 has:∀ x,((relabel scope X.env).names.lookup x=some .cell\/(relabel scope X.env).names.lookup x=some .free)->∃ c,cl.lookup x=some c
 len:∀ σ,(vals σ).length=N.length
 val:∀ σ (i:Nat) x v,N[i]?=some x->(vals σ)[i]?=some (some v)->∃ (j:Nat),X.N[j]?=some x/\σ[j]?=some (some v)/\X.env.scope.names.lookup x=some .cell/\(∃ c,cl.lookup x=some c)/\(relabel scope X.env).names.lookup x=some .cell
def PF (X:Cx) (ifs:List Expr) (t:TT):Prop:=∀ (pins:List (Addr × Obj)) (s:Shared) (σ:St) (H:Hp) (Q:Bool->Hp->Prop),Inv X pins σ H s->t σ H Q->
 wpAny (model X.prog X.w) X.A (forIn ifs true λc r=>if r=true then do let ok <-isTrue c X.env (eval c X.env); pure (ForInStep.yield ok) else pure (ForInStep.yield r)) (TP X pins σ Q) X.xe s
def dZI:TT:=λ_ H Q=>Q true H
theorem gS {X:Cx}:PF X [] dZI:=λpins s σ H Q I q=>wpAny_tests_nil ⟨H,I,q⟩
theorem jK {X:Cx} {c:Expr} {t:TT} (h:PT X c t):PF X [c] t:=λpins s σ H Q I q=>wpAny_tests_one (h pins s σ H Q I q)
section
variable {X:Cx} {pins:List (Addr × Obj)} {σ:St} {H2:Hp} {s2:Shared} {N:List Str} {scope:Scope} {cl:List (Str × Addr)} {vals:St->St} {C:Addr} {fp:List Addr}
theorem zX {h1:Heap} {t1:Nat} (I:Inv X pins σ H2 s2) (ck:ClOk X N scope cl vals) (hkind:scope.kind=.function) (hf:∀ b∈fp,kM X pins H2 b) (hlt:∀ b∈fp,b < s2.heap.objs.size)
   (hns:h1.Ns s2.heap.objs.size λ_=>none) (hsb:Heap.SameBut s2.heap.objs.size (s2.heap.push { cls:=.type "dict",data:=.dict #[] }) h1) :
   Inv (cxC X N scope cl s2.heap.objs.size s2 H2 fp) [] (vals σ) H2 { s2 with heap:=h1,toks:=t1 }:=by
 have old:∀ b o,s2.heap.get? b=some o->h1.get? b=some o:=λb o e=>(hsb.2 b (Be (Ao e))).trans (Af _ e)
 have hC:H2 s2.heap.objs.size=none:=I.hok.fresh (Ah _)
 refine ⟨⟨I.ok.mod,hkind,I.ok.glob,I.ok.blt,Ah _,λx y c h1 h2=>I.ok.inj x y c (ck.sub x c h1) (ck.sub y c h2),ck.has,(λx c h=>nomatch h),I.ok.hd,I.ok.frames,.inl rfl,λb hb=>⟨Be (hlt b hb),λx c e=>(hf b hb).2.2.2.2.1 x c (ck.sub x c e)⟩,
   I.bs,Nat.le_trans I.ok.bsz I.sz,λb o e hb=>?_,λb hb hs=>?_,I.stack,I.stkFree⟩,rfl,I.bare,Un.kept old,⟨_,hns,λi x v e1 e2 _=>?_⟩,λx c e=>?_,hC,λx c e=>I.freeC x c (ck.sub x c e),λp hp=>absurd (show p∈([]:List (Addr × Obj)) from hp) (by simp),I.hok.kept old,ck.len σ⟩
 · rcases (hf b hb).2.2.2.1 with z | z
   · exact I.ok.noex b o e z
   · exact absurd (Bd (Ao e) (Bb I.ok.bsz z)) (Dp _)
 · rcases Bc.mp (I.stkSub b hs) with z | z
   · exact (hf b hb).2.1 z
   · exact (hf b hb).2.2.1 z
 · obtain ⟨j,h1,h2,h3,⟨c,h4⟩,h5⟩:=ck.val σ i x v e1 e2
   obtain ⟨m,hn,hl⟩:=I.loc
   obtain ⟨u,r,l⟩:=hl j x v h1 h2 (.inr (.inl h3))
   refine ⟨u,r,.inr ⟨.inl h5,c,h4,?_⟩⟩
   rcases l with ⟨z,_⟩ | ⟨_,c',e',z⟩
   · have z':X.env.scope.names.lookup x=some .local:=z
     rw [h3] at z'; cases z'
   · rw [ck.sub x c h4] at e'
     cases e'
     obtain ⟨o,ho,hd⟩:=z
     exact ⟨o,old _ o ho,hd⟩
 · obtain ⟨v,o,ho,hd⟩:=I.cell x c (ck.sub x c e)
   exact ⟨v,o,old _ o ho,hd⟩
theorem aJJ {σ':St} {H':Hp} {s':Shared} {h'':Heap} {pins':List (Addr × Obj)} (I:Inv X pins σ H2 s2) (hf:∀ b∈fp,kM X pins H2 b)
   (I':Inv (cxC X N scope cl s2.heap.objs.size s2 H2 fp) pins' σ' H' s') (hsb:Heap.SameBut s2.heap.objs.size s'.heap h''):Inv X pins σ H' { s' with heap:=h'' }:=by
 have u1:Un (frs X.stack) (s2.heap.objs.size :: fp) H2 H' s2.heap s'.heap:=I'.base.mono (λ_ z=>z) λb z=>An _ z
 have hC:H' s2.heap.objs.size=none:=I'.free
 have k:∀ b o,b≠s2.heap.objs.size->s'.heap.get? b=some o->h''.get? b=some o:=λb o hb e=>(hsb.2 b hb).trans e
 have u2:Un (frs X.stack) (s2.heap.objs.size :: fp) H' H' s'.heap h'':=⟨λb o e _ _ hx=>k b o (λz=>hx (by simp [z])) e,λb o e _ _ hx=>⟨o.slots,k b o (λz=>hx (by simp [z])) e⟩,λ_ _ _ n _=>n,
   λb o e hx=>⟨o,k b o (λz=>hx (by simp [z])) e⟩,λ_ _ e=>e,λ_ _ _ e=>e,λb ps e=>⟨#[],by rw [e]; simp⟩⟩
 have hok:HOk X.prog X.w H' h'':=λb u e=>by
   have nC:∀ c v,H' c=some v->c≠s2.heap.objs.size:=λc v e z=>by rw [z,hC] at e; cases e
   refine (I'.hok b u e).stay (λc v hc q=>k c v ?_ q) (λ_ q=>q) λ_ _ q=>q
   rcases hc with z | z
   · rw [z]; exact nC b u e
   · exact nC c _ z
 refine I.call' (s':={ s' with heap:=h'' }) (ch:=s2.heap.objs.size :: fp) I'.os (u1.trans u2) hok I'.bare λb hb=>?_
 have q:kM X pins H2 b:=by
   rcases Bc.mp hb with z | z
   · subst z; exact I.fpOk (Ah _) (I.hok.fresh (Ah _))
   · exact hf b z
 exact ⟨q.2.2.2.1,q.2.1,q.2.2.2.2.1,q.2.2.2.2.2⟩
end
def Wk (σ0 σ:St):Prop:=σ0.length=σ.length/\∀ (i:Nat) v,σ0[i]?=some (some v)->σ[i]?=some (some v)
theorem Wk.refl (σ:St):Wk σ σ:=⟨rfl,λ_ _ h=>h⟩
theorem Wk.set {σ0 σ:St} {k:Nat} {v:V} (h:σ0[k]?=some none) (w:Wk σ0 σ):Wk σ0 (σ.set k (some v)):=by
 refine ⟨by rw [Eh]; exact w.1,λi u e=>?_⟩
 have ne:k≠i:=λz=>by subst z; rw [h] at e; cases e
 rw [Dt ne]
 exact w.2 i u e
def dZ (g:TG) (tests:TT) (te:TE) (σ0:St) (Q:VK) (J:It) (H1:Hp):Prop:=∀ D,H1 D=none->∃ W:Nat->Nat->Hp->Prop,(∃ m,W 0 m (upd H1 D (.lst [])))/\∀ i m Hc,W i m Hc->
 (J.stop i Hc/\Q (.ref D) Hc)\/(J.go i Hc/\∀ x H',J.yld i Hc x H'->g x σ0 H' λσ2 H2=>Wk σ0 σ2/\tests σ2 H2 λb H3=>if b=true then
   te σ2 H3 λy H4=>∃ zs,H4 D=some (.lst zs)/\zs.length < sizeLine/\∃ m',m' < m/\W (i + 1) m' (upd H4 D (.lst (zs ++ [y]))) else ∃ m',m' < m/\W (i + 1) m' H3)
def bXU (wi:TI) (g:TG) (tests:TT) (te:TE) (vals:St->St):TE:=λσ H Q=>wi σ H λJ H1=>dZ g tests te (vals σ) Q J H1
theorem wN {X:Cx} {pins:List (Addr × Obj)} {σ:St} {H2:Hp} {s2:Shared} {N:List Str} {scope:Scope} {cl:List (Str × Addr)} {vals:St->St} {fp:List Addr} {it:Addr} {tn:Nat->Heap->Prop} {J:It} {tg elt iter:Expr} {ifs:List Expr} {pos:Pos}
   {g:TG} {tests:TT} {te:TE} {Q:VK} {E:Value->Shared->Prop} {RR:Value->Addr->Result->Shared->Prop} (I2:Inv X pins σ H2 s2) (T:Turn X.prog X.w X.K tg J fp it tn) (st2:tn 0 s2.heap) (f2:∀ b∈fp,kM X pins H2 b) (hc:X.calm=true)
   (ck:ClOk X N scope cl vals) (hcell:∀ y∈scope.names,y.2≠.cell) (hkind:scope.kind=.function)
   (hg:∀ C s₀ H₀ ex,PG (cxC X N scope cl C s₀ H₀ ex) tg g) (ht:∀ C s₀ H₀ ex,PF (cxC X N scope cl C s₀ H₀ ex) ifs tests) (he:∀ C s₀ H₀ ex,PE (cxC X N scope cl C s₀ H₀ ex) elt te)
   (h:dZ g tests te (vals σ) Q J H2)
   (hRR:∀ D C s' H' m,s'.heap.Ns C m->Q (.ref D) H'->(∀ h'',Heap.SameBut C s'.heap h''->Inv X pins σ H' { s' with heap:=h'' })->kM X pins H' C->RR (.ref D) C (.ok .next) s') :
   wpAny (model X.prog X.w) X.A (newList []) (λacc s₃=>wpAny (model X.prog X.w) X.A (newFunctionEnv scope X.env.globals cl [] X.env.qual none .none (some X.env)) (λcenv s₄=>
     codeAny (model X.prog X.w) X.A (.compStart (.ListComp elt [⟨tg,iter,ifs,0⟩] scope pos) 0 (.ref it) acc { cenv with scope:=relabel scope X.env }) (RR acc cenv.locals) s₄) E s₃) E s2:=by
 have hD:H2 s2.heap.objs.size=none:=I2.hok.fresh (Ah _)
 obtain ⟨W,⟨m0,w0⟩,turn⟩:=h _ hD
 have hlt:∀ b∈fp,b < s2.heap.objs.size:=λb hb=>by
   obtain ⟨o,e,_⟩:=T.obj 0 _ st2 b hb
   exact Ao e
 refine Gg ?_
 -- the list is laid
 have I3:Inv X pins σ (upd H2 s2.heap.objs.size (.lst [])) { s2 with heap:=s2.heap.push { cls:=.type "list",dict:=none,data:=.seq ([]:List Value).toArray } } :=
   I2.lnew (ys:=[]) (its:=[]) (t':=s2.toks) .nil (Ci _)
 have f3:∀ b∈fp,kM X pins (upd H2 s2.heap.objs.size (.lst [])) b:=λb hb=>⟨by rw [aK (Be (hlt b hb))]; exact (f2 b hb).1,(f2 b hb).2⟩
 have st3:tn 0 (s2.heap.push { cls:=.type "list",dict:=none,data:=.seq ([]:List Value).toArray }):=T.keep _ _ _ st2 λb _ o e=>Af _ e
 generalize hs3:({ s2 with heap:=s2.heap.push { cls:=.type "list",dict:=none,data:=.seq ([]:List Value).toArray } }:Shared)=s3 at I3 ⊢
 have e3:s3.heap=s2.heap.push { cls:=.type "list",dict:=none,data:=.seq ([]:List Value).toArray }:=by rw [<-hs3]
 rw [<-e3] at st3
 have hlt3:∀ b∈fp,b < s3.heap.objs.size:=λb hb=>by
   obtain ⟨o,e,_⟩:=T.obj 0 _ st3 b hb
   exact Ao e
 refine wpAny_newFunctionEnv hcell (by intro y hy; simp at hy) (λh₁ hns₁ hsb₁=>?_) hkind
 have hns:h₁.Ns s3.heap.objs.size λ_=>none:=hns₁
 have I4:=zX (t1:=s3.toks) I3 ck hkind f3 hlt3 hns hsb₁
 have old:∀ b o,s3.heap.get? b=some o->h₁.get? b=some o:=λb o e=>(hsb₁.2 b (Be (Ao e))).trans (Af _ e)
 have st4:tn 0 h₁:=T.keep _ _ _ st3 λb _ o e=>old b o e
 have loop:∀ s₄:Shared,s₄={ s3 with heap:=h₁,toks:=s3.toks }->
     codeAny (model X.prog X.w) X.A (.compLoop (.ListComp elt [⟨tg,iter,ifs,0⟩] scope pos) 0 (.ref it) (.ref s2.heap.objs.size) (compEnvC scope cl s3.heap.objs.size X.env))
       (RR (.ref s2.heap.objs.size) s3.heap.objs.size) s₄:=by
   rintro s₄ rfl
   have fpX:∀ {H':Hp},(∀ b∈fp,H' b=none)->∀ b∈fp,kM (cxC X N scope cl s3.heap.objs.size s3 (upd H2 s2.heap.objs.size (.lst [])) fp) [] H' b:=λhn b hb=>
     ⟨hn b hb,Nat.ne_of_lt (hlt3 b hb),λhs=>I4.ok.exfs b hb hs,.inl hb,λx c e=>(I4.ok.exf b hb).2 x c e,λp hp=>absurd (show p∈([]:List (Addr × Obj)) from hp) (by simp)⟩
   refine zR (λn s'=>∃ i H',Inv (cxC X N scope cl s3.heap.objs.size s3 (upd H2 s2.heap.objs.size (.lst [])) fp) [] (vals σ) H' s'/\tn i s'.heap/\(∀ b∈fp,H' b=none)/\W i n H') ?_ m0
     ⟨0,_,I4,st4,λb hb=>(f3 b hb).1,w0⟩
   rintro n s5 ⟨i,H5,I5,st5,fr5,w5⟩
   rcases turn i n H5 w5 with ⟨stop,q⟩ | ⟨go,step⟩
   · refine thn (T.done (cxC X N scope cl s3.heap.objs.size s3 (upd H2 s2.heap.objs.size (.lst [])) fp) rfl rfl rfl hc i [] s5 (vals σ) H5 (λ_ _=>False) I5 (fpX fr5) st5 stop) λr s6 ⟨hr,I6⟩=>?_
     subst hr
     obtain ⟨m,hn,_⟩:=id I6.loc
     exact hRR _ _ s6 H5 m hn q (λh'' hsb=>aJJ I3 f3 I6 hsb) (I3.fpOk (Ah _) I6.free)
   · refine thn (T.item (cxC X N scope cl s3.heap.objs.size s3 (upd H2 s2.heap.objs.size (.lst [])) fp) rfl rfl rfl hc i [] s5 (vals σ) H5 (λ_ _=>False) I5 (fpX fr5) st5 go) λr s6 ⟨u,hr,h6⟩=>?_
     subst hr
     refine thn h6 λ_ s7 ⟨x,H7,I7,r7,y7,st7,fr7⟩=>?_
     have I7':=I7.pinned (fpX fr7) (T.obj _ _ st7)
     refine thn (hg _ _ _ _ _ s7 (vals σ) H7 x u _ I7' r7 (step x H7 y7)) λ_ s8 ⟨σ8,H8,I8,wk8,q8⟩=>?_
     refine thn (ht _ _ _ _ _ s8 σ8 H8 _ I8 q8) λb s9 ⟨H9,I9,q9⟩=>?_
     have again:∀ {m':Nat} {s':Shared} {H':Hp},Inv (cxC X N scope cl s3.heap.objs.size s3 (upd H2 s2.heap.objs.size (.lst [])) fp) ([] ++ nD fp s7.heap) σ8 H' s'->m' < n->W (i + 1) m' H'->
         ∃ m,m < n/\∃ i H',Inv (cxC X N scope cl s3.heap.objs.size s3 (upd H2 s2.heap.objs.size (.lst [])) fp) [] (vals σ) H' s'/\tn i s'.heap/\(∀ b∈fp,H' b=none)/\W i m H':=fun {m' s' H'} J7 hm w7=>by
       refine ⟨m',hm,i + 1,H',(J7.weak wk8.1 wk8.2).unpinned,T.keep _ _ _ st7 λb hb o e=>(J7.pin (b,o) (Bk _ (Bk _ (iO hb e)))).1,λb hb=>?_,w7⟩
       obtain ⟨o,e,d⟩:=T.obj _ _ st7 b hb
       exact (J7.pin (b,o) (Bk _ (Bk _ (iO hb e)))).2.1
     cases b with
     | true=>
       rw [if_pos rfl] at q9 ⊢
       refine thn (he _ _ _ _ _ s9 σ8 H9 _ I9 q9) λv s10 ⟨y,H10,I10,r10,zs,hz,hl,m',hm,w10⟩=>?_
       have ap:=sK ([] ++ nD fp s7.heap) s10 σ8 H10 (.ref s2.heap.objs.size) [y] (.ref s2.heap.objs.size) [v] (λ_ H'=>H'=upd H10 s2.heap.objs.size (.lst (zs ++ [y]))) I10 rfl (.cons r10 .nil) ⟨_,_,_,rfl,rfl,hz,hl,rfl⟩
       refine thn ap λ_ s11 ⟨_,H11,I11,_,e11⟩=>?_
       subst e11
       exact again I11 hm w10
     | false=>
       rw [if_neg Am] at q9 ⊢
       obtain ⟨m',hm,w9⟩:=q9
       exact again I9 hm w9
 exact codeAny_compStart_list (loop _ rfl) (T.self _ 0 _ _ _ st4 (loop _ rfl))
section
variable {X:Cx} {N:List Str} {scope:Scope} {cl:List (Str × Addr)} {vals:St->St} {tg elt iter:Expr} {ifs:List Expr} {pos spos py:Pos} {wi:TI} {g:TG} {tests:TT} {te:TE}
theorem dC (hc:X.calm=true) (hi:PI X tg iter wi) (ck:ClOk X N scope cl vals) (hcell:∀ y∈scope.names,y.2≠.cell) (hkind:scope.kind=.function) (hnames:∀ x∈scope.names,x.2=.local->scope.names.lookup x.1=some .local)
   (hg:∀ C s₀ H₀ ex,PG (cxC X N scope cl C s₀ H₀ ex) tg g) (ht:∀ C s₀ H₀ ex,PF (cxC X N scope cl C s₀ H₀ ex) ifs tests) (he:∀ C s₀ H₀ ex,PE (cxC X N scope cl C s₀ H₀ ex) elt te)
   (hs:∀ x,foldedSetIterable iter X.env x=pure x:=by intro _; rfl):PE X (.ListComp elt [⟨tg,iter,ifs,0⟩] scope pos) (bXU wi g tests te vals):=by
 intro pins s σ H Q I h
 rw [eval_ListComp]
 refine wpAny_comprehension_free (use:=none) rfl hs ck.clos hkind hnames (thn (hi pins s σ H _ I h) λv s1 h1=>thn h1 λitv s2 h2=>?_)
 obtain ⟨it,fp,tn,J,H2,e,I2,T,st2,f2,q⟩:=h2
 subst e
 refine wN (RR:=λacc C=>compPost (model X.prog X.w) X.A X.xe none (EP X pins σ Q) acc C) I2 T st2 f2 hc ck hcell hkind hg ht he q λD C s' H' m hn q' back _=>?_
 exact ⟨m,hn,λh'' hsb=>⟨.ref D,H',back h'' hsb,rfl,q'⟩⟩
theorem oO {i:Nat} {x:Str} (hN:X.N.Nodup) (hix:X.N[i]?=some x) (hx:Loc X.env.scope x) (hc:X.calm=true) (hi:PI X tg iter wi) (ck:ClOk X N scope cl vals) (hcell:∀ y∈scope.names,y.2≠.cell) (hkind:scope.kind=.function)
   (hnames:∀ x∈scope.names,x.2=.local->scope.names.lookup x.1=some .local)
   (hg:∀ C s₀ H₀ ex,PG (cxC X N scope cl C s₀ H₀ ex) tg g) (ht:∀ C s₀ H₀ ex,PF (cxC X N scope cl C s₀ H₀ ex) ifs tests) (he:∀ C s₀ H₀ ex,PE (cxC X N scope cl C s₀ H₀ ex) elt te)
   (hsw:swapsWith (.ListComp elt [⟨tg,iter,ifs,0⟩] scope pos) (some (.Name x py)) spos.line X.env=pure true:=by rfl)
   (hf:X.fn x=true\/X.env.scope.names.lookup x=some .local:=by first | exact .inl rfl | exact .inr rfl | assumption)
   (hs:∀ x,foldedSetIterable iter X.env x=pure x:=by intro _; rfl):PS X (.Assign [.Name x py] (.ListComp elt [⟨tg,iter,ifs,0⟩] scope pos) spos) (cZC (bXU wi g tests te vals) (pE i)):=by
 intro pins s σ H D I h
 rw [exec_Assign_Name_used _ _ _ _ hsw]
 refine Ac (Fg (Ac ?_))
 show wpAny _ X.A (do let _ <-comprehension (.ListComp elt [⟨tg,iter,ifs,0⟩] scope pos) scope X.env _ (newList []) false (eval iter X.env) (some (assign (.Name x py) X.env))) _ _ s
 refine Ac (Cb (wpAny_comprehension_free (use:=some (assign (.Name x py) X.env)) (Q:=λ_ s'=>SP X pins D .next s') rfl hs ck.clos hkind hnames
   (thn (hi pins s σ H _ I h) λv s1 h1=>thn h1 λitv s2 h2=>?_)) (λ_ s' hq=>Ai (Ai hq)) λ_ _ e=>e)
 obtain ⟨it,fp,tn,J,H2,e,I2,T,st2,f2,q⟩:=h2
 subst e
 refine wN (RR:=λacc C=>compPost (model X.prog X.w) X.A X.xe (some (assign (.Name x py) X.env)) (λ_ s'=>SP X pins D .next s') acc C) I2 T st2 f2 hc ck hcell hkind hg ht he q λDl C s' H' m hn q' back fC=>?_
 show wpAny _ X.A (assign (.Name x py) X.env (.ref Dl)) _ _ s'
 have I':Inv X pins σ H' s':=back s'.heap (Heap.SameBut.refl ..)
 refine wpAny_assign_Name (rV I' hN hix hx (v:=.ref Dl) rfl (λs'' I'' hsb=>?_) hf)
 obtain ⟨a,hsb,ha⟩:=hsb
 have hCa:C≠a:=by
   rcases ha with z | z
   · rw [z]; exact fC.2.1
   · exact λe=>fC.2.2.2.2.1 x a z e.symm
 refine ⟨m,hn.sameBut hsb hCa,λh3 hsb3=>?_⟩
 exact ⟨σ.set i (some (.ref Dl)),H',I''.turned (t':=s''.toks) (λb o hb e=>(hsb3.2 b hb).trans e) fC.1 fC.2.1 fC.2.2.2.1 fC.2.2.2.2.1 fC.2.2.2.2.2,q'⟩
theorem bQ5 (hfree:∀ x∈scope.names,x.2≠.free) (hcell:∀ y∈scope.names,y.2≠.cell):ClOk X N scope [] (λ_=>N.map λ_=>none) where
 clos:=closureFor_none hfree
 sub:=λx c h=>nomatch h
 has:=λx h=>by
   have e:(relabel scope X.env).names=scope.names:=by
     show List.map _ scope.names=scope.names
     refine map_eq_self λy hy=>?_
     obtain ⟨n,k⟩:=y
     have:(k == NameKind.free)=false:=by simpa using hfree _ hy
     simp [this]
   rw [e] at h
   rcases h with h | h
   · exact absurd rfl (hcell _ (Cy h))
   · exact absurd rfl (hfree _ (Cy h))
 len:=λσ=>by simp
 val:=λσ i x v h1 h2=>by
   rw [Ag] at h2
   cases e:N[i]? with
   | none=>rw [e] at h2; cases h2
   | some y=>rw [e] at h2; cases h2
end
section
variable {g:TG} {tests:TT} {te:TE} {σ0:St} {Q:VK} {H1:Hp}
theorem cXX {J:It} {xs:List V} {ok:Hp->Prop} (f:V->Option V) (hgo:∀ (i:Nat) H,ok H->i < xs.length->J.go i H) (hst:∀ H,ok H->J.stop xs.length H) (hy:∀ (i:Nat) H x H',ok H->J.yld i H x H'->H'=H/\xs[i]?=some x)
   (hok:∀ D ys,H1 D=none->ok (upd H1 D (.lst ys))) (hlen:xs.length < sizeLine)
   (hs:∀ (i:Nat) x Hc (A:VK) (B:Hp->Prop),xs[i]?=some x->ok Hc->(match f x with | some y=>A y Hc | none=>B Hc)->g x σ0 Hc λσ2 H2=>Wk σ0 σ2/\tests σ2 H2 λb H3=>if b=true then te σ2 H3 A else B H3)
   (fin:∀ D,H1 D=none->Q (.ref D) (upd H1 D (.lst (xs.filterMap f)))):dZ g tests te σ0 Q J H1:=by
 intro D hD
 refine ⟨λi m Hc=>m=xs.length - i/\i<=xs.length/\Hc=upd H1 D (.lst ((xs.take i).filterMap f)),⟨xs.length,by simp,Nat.zero_le _,by simp⟩,?_⟩
 rintro i m Hc ⟨rfl,hi,rfl⟩
 by_cases hlt:i < xs.length
 · refine .inr ⟨hgo i _ (hok D _ hD) hlt,λx H' y=>?_⟩
   obtain ⟨e,hx⟩:=hy i _ x H' (hok D _ hD) y
   subst e
   refine hs i x _ _ _ hx (hok D _ hD) ?_
   have tk:xs.take (i + 1)=xs.take i ++ [x]:=by rw [Az,hx]; rfl
   cases e:f x with
   | some y=>
     refine ⟨_,aD,?_,xs.length - (i + 1),by omega,rfl,hlt,?_⟩
     · have:=Da f (xs.take i)
       rw [Bo] at this
       omega
     · rw [aX8,tk,Cd]
       simp [e]
   | none=>
     refine ⟨xs.length - (i + 1),by omega,rfl,hlt,?_⟩
     rw [tk,Cd]
     simp [e]
 · have e:i=xs.length:=by omega
   subst e
   rw [Bp]
   exact .inl ⟨hst _ (hok D _ hD),fin D hD⟩
theorem dXF {z:Str} (f:Nat->Option V) (hl:z.length < sizeLine)
   (hs:∀ (i:Nat) c Hc (A:VK) (B:Hp->Prop),z.cps.toList[i]?=some c->(match f c with | some y=>A y Hc | none=>B Hc)->g (.str ⟨#[c]⟩) σ0 Hc λσ2 H2=>Wk σ0 σ2/\tests σ2 H2 λb H3=>if b=true then te σ2 H3 A else B H3)
   (fin:∀ D,H1 D=none->Q (.ref D) (upd H1 D (.lst (z.cps.toList.filterMap f)))):dZ g tests te σ0 Q (Its z) H1:=by
 have hz:z.cps.toList.length=z.length:=by simp [Str.length]
 have hz2:z.cps.size=z.length:=rfl
 refine cXX (xs:=z.cps.toList.map λc=>.str ⟨#[c]⟩) (ok:=λ_=>True) (λx=>match x with | .str y=>f (y.cps.toList.headD 0) | _=>none) (λi H _ h=>?_) (λH _=>?_) (λi H x H' _ y=>?_) (λ_ _ _=>trivial) (by rw [Ab,hz]; exact hl) (λi x Hc A B hx _ h=>?_) (λD hD=>?_)
 · rw [Ab,hz] at h; exact h
 · show z.cps.size<=_
   rw [Ab,hz]; exact Ah _
 · obtain ⟨e,c,hc,hx⟩:=y
   refine ⟨e,?_⟩
   rw [Ag,Ef,hc,hx]; rfl
 · rw [Ag] at hx
   cases e:z.cps.toList[i]? with
   | none=>rw [e] at hx; cases hx
   | some c=>rw [e] at hx; cases hx; exact hs i c Hc A B e h
 · have q:=fin D hD
   rw [List.filterMap_map]
   exact q
end
theorem dXG {wi:TI} {g:TG} {tests:TT} {te:TE} {vals:St->St} {σ:St} {H:Hp} {Q:VK} (h:wi σ H λJ H1=>dZ g tests te (vals σ) Q J H1):bXU wi g tests te vals σ H Q:=h
theorem dJC {σ:St} {H:Hp} {Q:Bool->Hp->Prop} (h:Q true H):dZI σ H Q:=h
end L2
set_option maxHeartbeats 4000000
namespace L2
open PySem PySem.Spec PyProof.Rows
def clF (env:Env):List (Str × NameKind)->List (Str × Addr)->List (Str × Addr)
 | [],acc=>acc
 | (n,k) :: r,acc=>if k == .free then clF env r ((n,(env.cells.lookup n).getD 0) :: acc) else clF env r acc
def bQS (ix:List (Option Nat)):St->St:=λσ=>ix.map λo=>match o with | none=>none | some j=>(σ[j]?).join
def dJ8 (N XN:List Str) (sn dn:List (Str × NameKind)) (ix:List (Option Nat)):Bool :=
 ix.length == N.length && (sn.all λy=>y.2 != .cell && (y.2 != .free || dn.lookup y.1 == some .cell)) && decide ((sn.map (·.1)).Nodup) &&
 ((List.range N.length).all λi=>match ix[i]? with | some (some j)=>N[i]? == XN[j]? && (match N[i]? with | some x=>sn.lookup x == some .free | none=>false) | _=>true)
theorem tS {env:Env}:∀ (names:List (Str × NameKind)) (acc:List (Str × Addr)),(∀ y∈names,y.2=.free->∃ c,env.cells.lookup y.1=some c)->
   (forIn names acc (λ(x:Str × NameKind) (cs:List (Str × Addr))=>(match x with
     | (name,kind)=>if (kind == NameKind.free)=true then do
         let a <-cellOf env name
         pure (ForInStep.yield ((name,a) :: cs))
       else pure (ForInStep.yield cs):Sem (ForInStep (List (Str × Addr))))))=(pure (clF env names acc):Sem (List (Str × Addr)))
 | [],acc,_=>rfl
 | (n,k) :: r,acc,h=>by
   rw [List.forIn_cons]
   unfold clF
   cases e:k == NameKind.free with
   | false=>
     simp only [e,Bool.false_eq_true,if_false,pure_bind]
     exact tS r acc λy hy=>h y (An _ hy)
   | true=>
     obtain ⟨c,hc⟩:=h (n,k) List.mem_cons_self (by simpa using e)
     have hc':env.cells.lookup n=some c:=hc
     simp only [e,if_true,cellOf,hc',Option.getD_some,pure_bind]
     exact tS r _ λy hy=>h y (An _ hy)
theorem uN {env:Env}:∀ (names:List (Str × NameKind)) (acc:List (Str × Addr)) {x:Str} {c:Addr},(clF env names acc).lookup x=some c->
   acc.lookup x=some c\/((x,NameKind.free)∈names/\c=(env.cells.lookup x).getD 0)
 | [],acc,x,c,h=>.inl h
 | (n,k) :: r,acc,x,c,h=>by
   unfold clF at h
   cases e:k == NameKind.free with
   | false=>
     rw [e] at h
     rcases uN r acc (by simpa using h) with z | ⟨z,q⟩
     · exact .inl z
     · exact .inr ⟨An _ z,q⟩
   | true=>
     rw [e] at h
     have ek:k=.free:=by simpa using e
     rcases uN r _ (by simpa using h) with z | ⟨z,q⟩
     · rw [Do] at z
       cases ex:x == n with
       | true=>
         rw [ex] at z
         have exn:x=n:=by simpa using ex
         subst exn; subst ek
         cases z
         exact .inr ⟨Aq,rfl⟩
       | false=>rw [ex] at z; exact .inl z
     · exact .inr ⟨An _ z,q⟩
theorem uQ {env:Env}:∀ (names:List (Str × NameKind)) (acc:List (Str × Addr)) {x:Str},(acc.lookup x).isSome=true->((clF env names acc).lookup x).isSome=true
 | [],acc,x,h=>h
 | (n,k) :: r,acc,x,h=>by
   unfold clF
   split
   · refine uQ r _ ?_
     rw [Do]
     cases ex:x == n with
     | true=>rfl
     | false=>exact h
   · exact uQ r acc h
theorem oJ {env:Env}:∀ (names:List (Str × NameKind)) (acc:List (Str × Addr)) {x:Str},(x,NameKind.free)∈names->((clF env names acc).lookup x).isSome=true
 | (n,k) :: r,acc,x,h=>by
   unfold clF
   rcases Bc.mp h with z | z
   · cases z
     simp only [beq_self_eq_true,if_true]
     refine uQ r _ ?_
     rw [Do,beq_self_eq_true]
     rfl
   · split
     · exact oJ r _ z
     · exact oJ r acc z
theorem iQ {env:Env} {x:Str}:∀ {names:List (Str × NameKind)} {k':NameKind},(names.map λ(n,k)=>if (k == NameKind.free && env.scope.kind == .function && env.kindOf n == some .cell) then (n,NameKind.cell) else (n,k)).lookup x=some k'->
   ∃ k,(x,k)∈names/\(k'=k\/(k=.free/\k'=.cell))
 | [],_,h=>by simp at h
 | (n,k) :: r,k',h=>by
   rw [Ar] at h
   dsimp only at h
   cases hc:(k == NameKind.free && env.scope.kind == .function && env.kindOf n == some .cell) with
   | true=>
     rw [hc,if_pos rfl,Do] at h
     cases ex:x == n with
     | true=>
       rw [ex] at h
       cases h
       have:x=n:=by simpa using ex
       subst this
       have hk:k=.free:=by
         have:=(Dz _ _).mp hc
         have:=(Dz _ _).mp this.1
         simpa using this.1
       exact ⟨k,Aq,.inr ⟨hk,rfl⟩⟩
     | false=>
       rw [ex] at h
       obtain ⟨k1,h1,h2⟩:=iQ h
       exact ⟨k1,An _ h1,h2⟩
   | false=>
     rw [hc,if_neg Am,Do] at h
     cases ex:x == n with
     | true=>
       rw [ex] at h
       cases h
       have:x=n:=by simpa using ex
       subst this
       exact ⟨k,Aq,.inl rfl⟩
     | false=>
       rw [ex] at h
       obtain ⟨k1,h1,h2⟩:=iQ h
       exact ⟨k1,An _ h1,h2⟩
theorem nY {env:Env} {x:Str} (hk:env.scope.kind=.function) (hx:env.kindOf x=some .cell):∀ {names:List (Str × NameKind)},names.lookup x=some .free->
   (names.map λ(n,k)=>if (k == NameKind.free && env.scope.kind == .function && env.kindOf n == some .cell) then (n,NameKind.cell) else (n,k)).lookup x=some .cell
 | [],h=>by simp at h
 | (n,k) :: r,h=>by
   rw [Ar]
   dsimp only
   rw [Do] at h
   cases ex:x == n with
   | true=>
     rw [ex] at h
     cases h
     have:x=n:=by simpa using ex
     subst this
     rw [hk,hx]
     simp [List.lookup_cons]
   | false=>
     rw [ex] at h
     have ih:=nY hk hx h
     split <;> (rw [Do,ex]; exact ih)
theorem fZ {X:Cx} {N:List Str} {scope:Scope} (XN:List Str) (sc:Scope) (ix:List (Option Nat)) (hN:X.N=XN) (hsc:X.env.scope=sc) (hk:sc.kind=.function)
   (hcs:∀ x,sc.names.lookup x=some .cell->∃ c,X.env.cells.lookup x=some c) (c:dJ8 N XN scope.names sc.names ix=true):ClOk X N scope (clF X.env scope.names []) (bQS ix):=by
 unfold dJ8 at c
 simp only [Bool.and_eq_true,decide_eq_true_eq,List.all_eq_true,beq_iff_eq] at c
 obtain ⟨⟨⟨c0,c1⟩,c2⟩,c3⟩:=c
 have fr:∀ y,(y,NameKind.free)∈scope.names->sc.names.lookup y=some .cell:=λy hy=>by
   have z:=(c1 _ hy).2
   simpa using z
 have nocell:∀ y,(y,NameKind.cell) ∉ scope.names:=λy hy=>by
   have z:=(c1 _ hy).1
   simp at z
 refine ⟨?_,λx c h=>?_,λx h=>?_,λσ=>?_,λσ i x v h1 h2=>?_⟩
 · unfold closureFor
   simp only [bind_pure]
   exact tS scope.names [] λy hy hf=>hcs y.1 (fr y.1 (by rw [<-hf]; exact hy))
 · rcases uN _ _ h with z | ⟨z,q⟩
   · simp at z
   · obtain ⟨c',e⟩:=hcs x (fr x z)
     rw [q,e]; rfl
 · have:∃ k,(x,k)∈scope.names/\k=.free:=by
     rcases h with h | h
     · obtain ⟨k,h1,h2⟩:=iQ h
       rcases h2 with z | ⟨z,_⟩
       · subst z; exact absurd h1 (nocell x)
       · exact ⟨k,h1,z⟩
     · obtain ⟨k,h1,h2⟩:=iQ h
       rcases h2 with z | ⟨z,z2⟩
       · exact ⟨k,h1,z.symm⟩
       · exact ⟨k,h1,z⟩
   obtain ⟨k,h1,rfl⟩:=this
   exact Er.mp (oJ scope.names [] h1)
 · unfold bQS
   rw [Ab,c0]
 · unfold bQS at h2
   rw [Ag] at h2
   cases e:ix[i]? with
   | none=>rw [e] at h2; cases h2
   | some o=>
     rw [e] at h2
     cases o with
     | none=>cases h2
     | some j=>
       have hi:i < N.length:=(Ae.mp h1).1
       have z:=c3 i (Cc.mpr hi)
       rw [e,h1] at z
       simp only [Bool.and_eq_true,beq_iff_eq] at z
       have hv:σ[j]?=some (some v):=by
         have h3:(σ[j]?).join=some v:=by simpa using h2
         cases e2:σ[j]? with
         | none=>rw [e2] at h3; cases h3
         | some o=>rw [e2] at h3; cases o with
           | none=>cases h3
           | some u=>cases h3; rfl
       have hm:(x,NameKind.free)∈scope.names:=Cy z.2
       have hx:=fr x hm
       refine ⟨j,by rw [hN]; exact z.1.symm,hv,by rw [hsc]; exact hx,Er.mp (oJ scope.names [] hm),?_⟩
       exact nY (by rw [hsc]; exact hk) (by show X.env.scope.names.lookup x=_; rw [hsc]; exact hx) z.2
end L2
set_option maxHeartbeats 4000000
namespace L2
open PySem PySem.Spec PyProof.Rows
open PySem.AutoSeq1 (wpAny_loadPart')
theorem dXY {α:Type} {M:Model} {A:Around} {E:Value->Shared->Prop} {s:Shared} {c:Bool} {x y:Sem α} {Q:α->Shared->Prop} (h1:wpAny M A x Q E s) (h2:wpAny M A y Q E s):wpAny M A (if c=true then x else y) Q E s:=by
 cases c
 · exact h2
 · exact h1
theorem aJA (l:Addr) (its:Array Value) (n:Nat) (dc:Option Addr) (sl:Array (Option Value)) (k:Int) (t:Tok) (hk:Builtin.SmallTypes.fitsIndex k=true) :
   Meets (Builtin.«enumerate.__new__» ⟨[.type "enumerate",.ref l],[("start",.int k t)]⟩) (λ_ R s=>s.heap.get? l=some ⟨.type "list",dc,.seq its n,sl⟩/\
     R (.ok (.ret (.ref (s.heap.push { cls:=.type "list_iterator",data:=.fields #[.ref l,.int 0 0] }).objs.size)))
       { s with heap:=(s.heap.push { cls:=.type "list_iterator",data:=.fields #[.ref l,.int 0 0] }).push ⟨.type "enumerate",none,.fields #[.none,.bool false,.ref s.heap.objs.size,rawInt k,.none,.none],#[]⟩ }) :=
 .of_wp λprog w A R s h=>by
   obtain ⟨hp,g,d,tk,os⟩:=s
   obtain ⟨hl,h⟩:=h
   have hsub:=sub_enumerate
   have hL:Heap.IsList hp l its:=⟨_,hl,rfl,n,rfl⟩
   have hk':(!Builtin.SmallTypes.fitsIndex k)=false:=by rw [hk]; rfl
   wp_walk using Bv hl
   refine wpAny_stack_any λst=>Ai ?_
   refine dXY ?_ ?_ <;>
   · wp_walk using (Bv hl),(El (s:=⟨hp,g,d,tk,os⟩) hL)
     exact ⟨_,rfl,h⟩
section
variable {prog:Program} {w:World} {A:Around} {E:Value->Shared->Prop} {s:Shared}
theorem tP {T newId:String} {Bn:Builtin} {args:List Value} {kw:List (Str × Value)} {S:PySem.Spec} {Q Q1:Value->Shared->Prop} (ft:TypeCalled T newId "object.__init__")
   (hct:checkTypeCall T ⟨args,kw⟩=pure ()) (hcn:checkBuiltinCall newId ⟨.type T :: args,kw⟩=pure ()) (eN:entryFor table newId=some Bn) (g:Meets (Bn ⟨.type T :: args,kw⟩) S) (h:S A.in1 (wants Q1 E) s)
   (hnx:∀ o s1,Q1 o s1->s1.TypeIs o T/\argsOk "object.__init__" ⟨o :: args,kw⟩/\∃ Si,Meets (Builtin.«object.__init__» ⟨o :: args,kw⟩) Si/\Si A.in1 (wants (λr s2=>r=.none/\Q o s2) E) s1) :
   wpAny (model prog w) A (call (.type T) args kw) Q E s:=by
 obtain ⟨c,tl,hmro⟩:=ft.mro
 have hmade:=ft.made
 have hsub:=ft.sub
 have h1:=ft.notType
 have h2:=ft.canCreate
 refine Fc (codeAny_of_tree (show wpAny _ _ (callAny (.type T) _) _ _ _ from Ai ⟨Ga _ (by decide +kernel),Ei F.entry_type_call ?_⟩))
 rw [Around.under_plain (weight_type_call_type T args kw) (units_type_call_type T args kw)]
 repeat (any_goals first | assumption | wp_step)
 refine Ek (Dg ft.plain eN (wpAny_of_eq hcn (g prog w A.in1 _ s h))) ?_
 rintro (e | fl) s1 hr
 · exact hr
 · cases fl with
   | ret o=>
     obtain ⟨hT,hok,Si,gi,hsi⟩:=hnx _ _ hr
     have hli:=ft.init.lookup
     have hbi:=ft.init.bind o
     repeat (any_goals first | assumption | wp_step)
     refine Ek (Dg ft.init.plain F.entry_object_init (ft.init.check _ _ _ _ _ _ _ _ hT hok (gi prog w A.in1 _ s1 hsi))) ?_
     rintro (e | fl2) s2 hr2
     · exact hr2
     · cases fl2 with
       | ret r=>
         obtain ⟨rfl,hq⟩:=hr2
         repeat (any_goals first | assumption | wp_step)
       | _=>exact hr2.elim
   | _=>exact hr.elim
theorem cQ6 {T newId:String} {self:Value} {rest:List Value} {kw:List (Str × Value)} (hl:typeLookup (.type T) "__init__"=pure (some (.builtin "object.__init__")))
   (hm:Bind.madeBy (.type T)=pure (some newId)) (hne:(some newId != some "object.__new__")=true) :
   Meets (Builtin.«object.__init__» ⟨self :: rest,kw⟩) (λ_ R s=>s.TypeIs self T/\R (.ok (.ret .none)) s):=by
 refine Meets.of_wp λprog w A R s hs=>?_
 obtain ⟨hT,hq⟩:=hs
 cases rest with
 | nil=>
   cases kw with
   | nil=>exact Ai ⟨_,rfl,hq⟩
   | cons a r=>
     repeat (any_goals first | assumption | wp_step)
     exact ⟨_,rfl,hq⟩
 | cons a r=>
   repeat (any_goals first | assumption | wp_step)
   exact ⟨_,rfl,hq⟩
theorem tU {l:Addr} {its:Array Value} {k:Int} {t:Tok} {Q:Value->Shared->Prop} (hk:Builtin.SmallTypes.fitsIndex k=true) (hL:s.heap.IsList l its)
   (h:∀ h',IsEnum h' (s.heap.objs.size + 1) s.heap.objs.size k .none->h'.IsListIter s.heap.objs.size l 0->h'.objs.size=s.heap.objs.size + 2->(∀ b o,s.heap.get? b=some o->h'.get? b=some o)->Q (.ref (s.heap.objs.size + 1)) { s with heap:=h' }) :
   wpAny (model prog w) A (call (.type "enumerate") [.ref l] [("start",.int k t)]) Q E s:=by
 obtain ⟨⟨c,dc,dt,sl⟩,hl,hc,n,hd⟩:=hL
 obtain rfl:c=.type "list" := hc
 obtain rfl:dt=.seq its n:=hd
 have hz:(s.heap.push { cls:=.type "list_iterator",data:=.fields #[.ref l,.int 0 0] }).objs.size=s.heap.objs.size + 1:=Ew ..
 refine tP (Q1:=λo s1=>s1.TypeIs o "enumerate"/\Q o s1) F.called_enumerate (by kernel_rfl) (by kernel_rfl) F.entry_enumerate_new (aJA l its n dc sl k t hk) ⟨hl,?_⟩ λo s1 hq=>⟨hq.1,?_,_,cQ6 F.called_enumerate.init.lookup F.called_enumerate.made (by decide),hq.1,rfl,hq.2⟩
 · show _/\_
   rw [hz]
   have he:IsEnum ((s.heap.push { cls:=.type "list_iterator",data:=.fields #[.ref l,.int 0 0] }).push ⟨.type "enumerate",none,.fields #[.none,.bool false,.ref s.heap.objs.size,rawInt k,.none,.none],#[]⟩) (s.heap.objs.size + 1) s.heap.objs.size k .none:=by
     have q:=Av (s.heap.push { cls:=.type "list_iterator",data:=.fields #[.ref l,.int 0 0] }) (o:=⟨.type "enumerate",none,.fields #[.none,.bool false,.ref s.heap.objs.size,rawInt k,.none,.none],#[]⟩) rfl
     rwa [hz] at q
   exact ⟨⟨_,he,rfl⟩,h _ he ⟨_,Af _ (Av _ rfl),rfl,rfl⟩ (by rw [Ew,hz]) λb o x=>Af _ (Af _ x)⟩
 · unfold argsOk
   rw [signature?_of (n:=['_','_','t','i','n','i','_','_']) (o := "tcejbo".toList) (by kernel_rfl) F.owner_object]
   kernel_rfl
end
theorem nS {prog:Program} {w:World} {A:Around} {it:Addr} {fp:List Addr} {n:Nat} {P:Nat->Value->Prop} {S:Nat->Heap->Prop} (k:Nat) (D:Draws prog w A it fp n P S) :
   Draws prog w A it fp (k + n) (λj v=>P (j - k) v) (λj h=>k<=j/\S (j - k) h) where
 live:=λi h st=>D.live _ h st.2
 frame:=λi h h' st kk=>⟨st.1,D.frame _ h h' st.2 kk⟩
 item:=λi s Q E hi st hQ=>D.item (i - k) s Q E (by have:=st.1; omega) st.2 λx h' tk hP hS sb=>hQ x h' tk hP ⟨by have:=st.1; omega,by rw [show i + 1 - k=i - k + 1 by have:=st.1; omega]; exact hS⟩ sb
 done:=λs Q E st hE=>D.done s Q E (by have q:=st.2; rwa [show k + n - k=n by omega] at q) hE
section
variable {X:Cx} {pins:List (Addr × Obj)} {σ:St} {H:Hp} {s:Shared} {h':Heap}
theorem Inv.turnLaid {ch:List Addr} {a:Addr} {o:HO} {t':Nat} (I:Inv X pins σ H s) (hch:∀ b ∈ ch,kM X pins H b) (k:∀ b u,b ∉ ch->s.heap.get? b=some u->h'.get? b=some u) (hp:s.heap.objs.size<=a)
   (new:ObjOk X.prog X.w (upd H a o) h' a o):Inv X pins σ (upd H a o) { s with heap:=h',toks:=t' }:=by
 have hn:=I.hok.fresh hp
 have nch:∀ b u,H b=some u->b ∉ ch:=λb u e z=>by rw [(hch b z).1] at e; cases e
 refine I.step (g':=s.gens) (d':=s.drawn) (ch:=ch) (λb hb=>?_) (λb o _ _ hc e _=>k b o hc e) (λb o _ _ hc e _=>⟨o.slots,k b o hc e⟩) (λb o _ e n=>?_) (λb o hc e=>⟨o,k b o hc e⟩)
   (λb xs e=>by rw [aK (bJ e hn)]; exact e) (λb o u e=>by rw [aK (bJ e hn)]; exact e) (λb ps e=>⟨#[],by rw [aK (bJ e hn),e]; simp⟩) (λm hm=>?_) (λb u e=>?_) I.bare
 · obtain ⟨_,q1,_,q3,q4,q5⟩:=hch b hb
   exact ⟨q3,q1,q4,q5⟩
 · rw [aK (Be (Bd (Ao e) hp))]
   exact n
 · obtain ⟨ob,es,ep,ho,r⟩:=hm
   exact ⟨ob,es,ep,k _ ob (λz=>(hch _ z).2.1 rfl) ho,r⟩
 · by_cases hb:b=a
   · subst hb
     rw [aD] at e
     cases e
     exact new
   · rw [aK hb] at e
     refine (I.hok b u e).stay (λc v hc q=>k c v ?_ q) (λc q=>by rw [aK (bJ q hn)]; exact q) λc xs q=>by rw [aK (bJ q hn)]; exact q
     rcases hc with z | z
     · rw [z]; exact nch b u e
     · exact nch c _ z
theorem Inv.turnAll {ch:List Addr} {t':Nat} (I:Inv X pins σ H s) (hch:∀ b ∈ ch,kM X pins H b) (k:∀ b u,b ∉ ch->s.heap.get? b=some u->h'.get? b=some u):Inv X pins σ H { s with heap:=h',toks:=t' }:=by
 have nch:∀ b u,H b=some u->b ∉ ch:=λb u e z=>by rw [(hch b z).1] at e; cases e
 refine I.step (g':=s.gens) (d':=s.drawn) (ch:=ch) (λb hb=>?_) (λb o _ _ hc e _=>k b o hc e) (λb o _ _ hc e _=>⟨o.slots,k b o hc e⟩) (λb o _ e n=>n) (λb o hc e=>⟨o,k b o hc e⟩)
   (λb xs e=>e) (λb o u e=>e) (λb ps e=>⟨#[],by rw [e]; simp⟩) (λm hm=>?_) (λb u e=>?_) I.bare
 · obtain ⟨_,q1,_,q3,q4,q5⟩:=hch b hb
   exact ⟨q3,q1,q4,q5⟩
 · obtain ⟨ob,es,ep,ho,r⟩:=hm
   exact ⟨ob,es,ep,k _ ob (λz=>(hch _ z).2.1 rfl) ho,r⟩
 · refine (I.hok b u e).stay (λc v hc q=>k c v ?_ q) (λc q=>q) λc xs q=>q
   rcases hc with z | z
   · rw [z]; exact nch b u e
   · exact nch c _ z
end
def Ite (K:PySem.W.Frag) (a:Addr) (k:Nat):It :=
 ⟨λi H=>∃ xs x,SqL K H a xs/\xs[i]?=some x,λi H v H'=>∃ p x,H p=none/\v=.ref p/\H'=upd H p (.tup [.int ((k + i:Nat):Int),x])/\∀ xs,SqL K H a xs->xs[i]?=some x,λi H=>∃ xs,SqL K H a xs/\xs.length=i⟩
theorem aZD {P:Program} {w:World} {K:PySem.W.Frag} {elts:List Expr} {x1:Nat} {tp:Pos} (a e it:Addr) (k:Nat) (hei:e≠it) :
   Turn P w K (.Tuple elts x1 tp) (Ite K a k) [e,it] e (λi h=>(∃ old,IsEnum h e it ((k + i:Nat):Int) old)/\h.IsListIter it a i) where
 mem:=by simp
 obj:=λi h st b hb=>by
   obtain ⟨⟨old,he⟩,o,ho,c,d⟩:=st
   rcases Bc.mp hb with z | z
   · subst z; exact ⟨_,he,λv z=>by cases z⟩
   · rw [Aw.mp z]; exact ⟨o,ho,λv z=>by rw [d] at z; cases z⟩
 keep:=λi h h' st kk=>⟨let ⟨old,he⟩:=st.1; ⟨old,kk e (by simp) _ he⟩,st.2.at λo q=>kk it (by simp) o q⟩
 item:=by
   intro X hP hw hK hc i pins s σ H E I hf st hg
   subst hP hw hK
   obtain ⟨xs,x,hq,hx⟩:=hg
   obtain ⟨its,rv,p,hz⟩:=I.list hq
   obtain ⟨u,hu,ru⟩:=rv.get hx
   obtain ⟨⟨old,he⟩,hit⟩:=st
   have hai:a≠it:=by
     rintro rfl
     obtain ⟨o,ho,c,_⟩:=hit
     obtain ⟨o2,ho2,c2,_⟩:=p.isList
     rw [ho] at ho2; cases ho2
     rw [c] at c2; injection c2 with c2; exact absurd c2 (by decide)
   have hae:a≠e:=by
     rintro rfl
     obtain ⟨o2,ho2,c2,_⟩:=p.isList
     rw [he] at ho2; cases ho2
     injection c2 with c2; exact absurd c2 (by decide)
   have hl:=rv.length
   have hil:i < its.length:=(Ae.mp hu).1
   have D:=nS k (Draws.list (prog:=X.prog) (w:=X.w) (A:=X.A.in1) (show X.A.in1.handled=none from I.ok.hd hc) it a hai its.toArray)
   refine wpAny_pyNext_enum_itemD D (i:=k + i) he ⟨Nat.le_add_right _ _,by rw [Ez]; exact ⟨hit,p.isList⟩⟩ (by rw [Bm]; omega) hei (λz=>by
     rcases Bc.mp z with z | z
     · exact hei z
     · exact hae (Aw.mp z).symm) λy h1 tk hP ho hS hT hsz kk=>?_
   refine ⟨_,rfl,wpAny_letOwnedTupleGo_enum ho λh2 he2 hs2=>?_⟩
   have ey:y=u:=by
     have hP':its.toArray[k + i - k]?=some y:=hP
     rw [Ez] at hP'
     have:its[i]?=some y:=by simpa using hP'
     rw [hu] at this; cases this; rfl
   subst ey
   have hTe:s.heap.objs.size≠e:=Gd (Ao he)
   have hTi:s.heap.objs.size≠it:=by obtain ⟨o,q,_⟩:=hit; exact Gd (Ao q)
   have hT2:h2.get? s.heap.objs.size=some { cls:=.type "tuple",data:=.seq #[.int ((k + i:Nat):Int) tk,y] }:=(hs2.2 _ hTe).trans hT
   have hS':h1.IsListIter it a (i + 1):=by
     have q:=hS.2.1
     rwa [show k + i + 1 - k=i + 1 by omega] at q
   have I2:Inv X pins σ (upd H s.heap.objs.size (.tup [.int ((k + i:Nat):Int),x])) { s with heap:=h2,toks:=tk + 1 }:=by
     refine I.turnLaid (ch:=[e,it]) hf (λb u hb q=>(hs2.2 b (λz=>hb (by simp [z]))).trans (kk b u (λz=>hb (by simp [z])) (λz=>hb (by simp [z])) q)) (Nat.le_refl _) ⟨bQ (by show 2<=_; omega),[.int ((k + i:Nat):Int) tk,y],.cons ⟨tk,rfl⟩ (.cons ru .nil),_,hT2,rfl,_,rfl⟩
   refine ⟨.ref s.heap.objs.size,_,I2,rfl,⟨_,x,I.hok.fresh (Ah _),rfl,rfl,λys hy=>by rw [I.list_inj hy hq]; exact hx⟩,⟨⟨y,he2⟩,hS'.at λo q=>(hs2.2 it hei.symm).trans q⟩,λb hb=>?_⟩
   rcases Bc.mp hb with z | z
   · rw [z,aK hTe.symm]; exact (hf e (by simp)).1
   · rw [List.mem_singleton.mp z,aK hTi.symm]; exact (hf it (by simp)).1
 done:=by
   intro X hP hw hK hc i pins s σ H E I hf st hg
   subst hP hw hK
   obtain ⟨xs,hq,hx⟩:=hg
   obtain ⟨its,rv,p,hz⟩:=I.list hq
   obtain ⟨⟨old,he⟩,hit⟩:=st
   have hl:=rv.length
   have hai:a≠it:=by
     rintro rfl
     obtain ⟨o,ho,c,_⟩:=hit
     obtain ⟨o2,ho2,c2,_⟩:=p.isList
     rw [ho] at ho2; cases ho2
     rw [c] at c2; injection c2 with c2; exact absurd c2 (by decide)
   have D:=nS k (Draws.list (prog:=X.prog) (w:=X.w) (A:=X.A.in1) (show X.A.in1.handled=none from I.ok.hd hc) it a hai its.toArray)
   refine wpAny_pyNext_enum_endD D he ⟨Nat.le_add_right _ _,by rw [Ez,Bm,<-hl,hx]; exact ⟨hit,p.isList⟩⟩ λh' eb=>⟨rfl,?_⟩
   exact I.turnAll (t':=s.toks) (ch:=[e,it]) hf λb u hb q=>eb b u (λz=>hb (by simp [z])) q
 self:=λ_ _ _ _ _ st h=>let ⟨⟨_,he⟩,_⟩:=st; wpAny_pyIter_enum he h
section
variable {X:Cx} {l:Expr} {ta tk:TA} {kws:List Keyword} {elts:List Expr} {x1:Nat} {tp p pos kp:Pos}
def yM (R:Addr->Hp->Prop):List V->Hp->Prop:=λvs H=>match vs with | [.ref j]=>R j H | _=>False
theorem aQ5 {R:Addr->Hp->Prop} {vs:List V} {H:Hp} (q:yM R vs H):∃ j,vs=[.ref j]/\R j H:=by
 unfold yM at q
 split at q
 · exact ⟨_,rfl,q⟩
 · exact q.elim
def cZL (K:PySem.W.Frag) (ta:TA):TI:=λσ H R=>ta σ H (yM λa H1=>onL (rdL H1 a) (R (Ite K a 0) H1))
def bZY (K:PySem.W.Frag) (ta tk:TA):TI:=λσ H R=>ta σ H (yM λa H1=>tk σ H1 (yY λk H2=>(0<=k/\k < 2 ^ 62)/\onL (rdL H2 a) (R (Ite K a k.toNat) H2)))
theorem aXP {pins:List (Addr × Obj)} {σ:St} {H1:Hp} {s1:Shared} {a:Addr} {k:Nat} {h':Heap} {R:It->Hp->Prop} {E:Value->Shared->Prop} (I1:Inv X pins σ H1 s1) (he:IsEnum h' (s1.heap.objs.size + 1) s1.heap.objs.size ((k:Nat):Int) .none) (hi:h'.IsListIter s1.heap.objs.size a 0) (hz:h'.objs.size=s1.heap.objs.size + 2)
   (hk:∀ b o,s1.heap.get? b=some o->h'.get? b=some o) (q:R (Ite X.K a k) H1):wpAny (model X.prog X.w) X.A (pyIter (.ref (s1.heap.objs.size + 1))) (PIE X pins σ (.Tuple elts x1 tp) R) E { s1 with heap:=h' }:=by
 refine wpAny_pyIter_enum (s:={ s1 with heap:=h' }) he ⟨_,[s1.heap.objs.size + 1,s1.heap.objs.size],_,_,H1,rfl,I1.kept (t':=s1.toks) hk,aZD a _ _ k (Nat.succ_ne_self _),⟨⟨_,he⟩,hi⟩,λb hb=>?_,q⟩
 have z:s1.heap.objs.size<=b:=by
   rcases Bc.mp hb with z | z
   · rw [z]; exact Nat.le_succ _
   · rw [Aw.mp z]; exact Ah _
 exact I1.fpOk z (I1.hok.fresh z)
theorem tM (hg:Gl X "enumerate") (hm:X.mg "enumerate"=none) (ha:PA X [l] ta) (hs:starEach [l] X.env=[(false,eval l X.env)]:=by rfl) :
   PI X (.Tuple elts x1 tp) (.Call (.Name "enumerate" p) [l] [] pos) (cZL X.K ta):=by
 intro pins s σ H R I h
 refine Call_ (iX I hg hm boot_enumerate (Cr (thn (ha pos pins s σ H _ I h) λus s1 ⟨vs,H1,I1,r1,q1⟩=>?_) hs rfl))
 obtain ⟨a,rfl,q⟩:=aQ5 q1
 obtain ⟨u,rfl,ru⟩:=eX r1
 cases ru
 unfold onL at q
 split at q
 · rename_i xs ex
   obtain ⟨its,rv,p,hz⟩:=I1.list (aU ex)
   exact call_enumerate_list p.isList λh' he hi hz hk=>aXP I1 (k:=0) he hi hz hk q
 · exact q.elim
theorem uI {M:Model} {A:Around} {E:Value->Shared->Prop} {s:Shared} {T:String} {args:List (Bool × Sem Value)} {kw:List (Option Str × Sem Value)} {Q:Value->Shared->Prop}
   (h1:args.any (·.1)=false) (h2:kw.any (·.1.isNone)=false) (h:wpAny M A (evalArgs (.type T) true args kw) (λa s1=>wpAny M A (call (.type T) a.pos a.kw) Q E s1) E s):wpAny M A (callWith pos (.type T) [] args kw) Q E s:=by
 unfold callWith
 refine Ac (Bs (Cb h (λa s1 q1=>Ac (Fg ?_)) λ_ _ x=>x))
 rw [h1,h2]
 exact Ac (Ai (Ac (Cb q1 (λr s2 hr=>Ac (Bs (wpAny_point (Ai hr)))) λ_ _ x=>x)))
theorem bXL {kx:Expr} (hg:Gl X "enumerate") (hm:X.mg "enumerate"=none) (ha:PA X [l] ta) (hk:PK X [⟨some "start",kx,kp⟩] tk) (hs:starEach [l] X.env=[(false,eval l X.env)]:=by rfl)
   (hks:keywordEach [⟨some "start",kx,kp⟩] X.env=[(some ("start" : Str),eval kx X.env)]:=by rfl) :
   PI X (.Tuple elts x1 tp) (.Call (.Name "enumerate" p) [l] [⟨some "start",kx,kp⟩] pos) (bZY X.K ta tk):=by
 intro pins s σ H R I h
 have hs2:backTo pos (starEach [l] X.env)=[(false,eval l X.env)]:=by rw [hs]; rfl
 refine Eb (iX I hg hm boot_enumerate (uI (by rw [hs2]; rfl) (by rw [hks]; rfl) ?_))
 rw [hs2]
 refine evalArgs_kwB (by rw [hks]; rfl) ?_
 rw [<-hs2]
 refine thn (ha pos pins s σ H _ I h) λus s1 ⟨vs,H1,I1,r1,q1⟩=>?_
 obtain ⟨a,rfl,q⟩:=aQ5 q1
 refine thn (hk pos pins s1 σ H1 _ I1 q) λws s2 ⟨zs,H2,I2,r2,q2⟩=>?_
 obtain ⟨k,rfl,⟨k0,k1⟩,q⟩:=aQZ q2
 obtain ⟨u,rfl,ru⟩:=eX r1
 cases ru
 obtain ⟨u,rfl,t,rfl⟩:=eX r2
 unfold onL at q
 split at q
 · rename_i xs ex
   obtain ⟨its,rv,p,hz⟩:=I2.list (aU ex)
   have e:(backToKw pos (keywordEach [⟨some "start",kx,kp⟩] X.env)).filterMap (·.1)=(["start"]:List Str):=by rw [hks]; rfl
   rw [e]
   refine tU (by unfold Builtin.SmallTypes.fitsIndex; rw [Ap (by omega),Ap (by omega)]; rfl) p.isList λh' he hi hz hk=>aXP I2 (k:=k.toNat) ?_ hi hz hk q
   rw [show ((k.toNat:Nat):Int)=k by omega]
   exact he
 · exact q.elim
end
section
variable {K:PySem.W.Frag} {a:Addr} {k:Nat} {xs:List V} {g:TG} {tb:TS} {D:Ends} {σ σ0:St} {H H1:Hp} {tests:TT} {te:TE} {Q:VK}
theorem aQ4 (Pv:Nat->St->Hp->Prop) (h0:Pv 0 σ H) (hl:∀ i σ H,i<=xs.length->Pv i σ H->rdL H a=some xs)
   (hs:∀ i x σ H p,xs[i]?=some x->Pv i σ H->H p=none->g (.ref p) σ (upd H p (.tup [.int ((k + i:Nat):Int),x])) λσ2 H2=>tb { D with nx:=Pv (i + 1),ct:=Pv (i + 1),bk:=D.nx } σ2 H2) (hd:∀ σ H,Pv xs.length σ H->D.nx σ H):vC (Ite K a k) g tb D σ H:=by
 refine ⟨λi m σ H=>m=xs.length - i/\i<=xs.length/\Pv i σ H,⟨xs.length,by simp,Nat.zero_le _,h0⟩,?_⟩
 rintro i m σ H ⟨rfl,hi,p⟩
 have hr:=hl i σ H hi p
 by_cases hlt:i < xs.length
 · refine .inr ⟨⟨xs,xs[i],aU hr,by simp [hlt]⟩,Pv (i + 1),λσ' H' p'=>⟨xs.length - (i + 1),by omega,rfl,hlt,p'⟩,λx H' y=>?_⟩
   obtain ⟨q,z,hq,rfl,rfl,hz⟩:=y
   exact hs i z σ H q (hz xs (aU hr)) p hq
 · have e:i=xs.length:=by omega
   subst e
   exact .inl ⟨⟨xs,aU hr,rfl⟩,hd σ H p⟩
theorem cQX (f:Nat->V->Option V) (ha:rdL H1 a=some xs) (hl:xs.length < sizeLine)
   (hs:∀ (i:Nat) x Hc p (A:VK) (B:Hp->Prop),xs[i]?=some x->Same H1 Hc->Hc p=none->(∀ Hd,Same (upd Hc p (.tup [.int ((k + i:Nat):Int),x])) Hd->match f i x with | some y=>A y Hd | none=>B Hd)->
     g (.ref p) σ0 (upd Hc p (.tup [.int ((k + i:Nat):Int),x])) λσ2 H2=>Wk σ0 σ2/\tests σ2 H2 λb H3=>if b=true then te σ2 H3 A else B H3)
   (fin:∀ D Hd,H1 D=none->Same H1 Hd->rdL Hd D=some ((List.range xs.length).filterMap λi=>f i (xs.getD i .non))->Q (.ref D) Hd):dZ g tests te σ0 Q (Ite K a k) H1:=by
 intro D hD
 refine ⟨λi m Hc=>m=xs.length - i/\i<=xs.length/\Same H1 Hc/\Hc D=some (.lst ((List.range i).filterMap λi=>f i (xs.getD i .non))),⟨xs.length,by simp,Nat.zero_le _,aE hD _,by rw [aD]; rfl⟩,?_⟩
 rintro i m Hc ⟨rfl,hi,sm,hDc⟩
 have hr:=aH sm ha
 by_cases hlt:i < xs.length
 · refine .inr ⟨⟨xs,xs[i],aU hr,by simp [hlt]⟩,λv H' y=>?_⟩
   obtain ⟨q,z,hq,rfl,rfl,hz⟩:=y
   have hx:=hz xs (aU hr)
   have hg:xs.getD i .non=z:=by rw [Ad,hx]; rfl
   refine hs i z Hc q _ _ hx sm hq λHd sd=>?_
   have hDd:Hd D=some (.lst ((List.range i).filterMap λi=>f i (xs.getD i .non))):=sd _ _ (aE hq _ _ _ hDc)
   have sH:Same H1 Hd:=sm.trans ((aE hq _).trans sd)
   cases e:f i z with
   | some y=>
     refine ⟨_,hDd,?_,xs.length - (i + 1),by omega,rfl,hlt,λb o hb=>?_,?_⟩
     · have:=Da (λi=>f i (xs.getD i .non)) (List.range i)
       rw [Cg] at this
       omega
     · rw [aK (bJ hb hD)]; exact sH b o hb
     · rw [aD,Cf,Cd,Dc (b:=y) (by rw [hg,e]),De]
   | none=>
     refine ⟨xs.length - (i + 1),by omega,rfl,hlt,sH,?_⟩
     rw [hDd,Cf,Cd,Dq (by rw [hg,e]),De,Bu]
 · have e:i=xs.length:=by omega
   subst e
   exact .inl ⟨⟨xs,aU hr,rfl⟩,fin D Hc hD sm (aO hDc)⟩
theorem cZA {ta:TA} {R:It->Hp->Prop} (h:ta σ H (yM λa H1=>onL (rdL H1 a) (R (Ite K a 0) H1))):cZL K ta σ H R:=h
theorem bXF {ta tk:TA} {R:It->Hp->Prop} (h:ta σ H (yM λa H1=>tk σ H1 (yY λk H2=>(0<=k/\k < 2 ^ 62)/\onL (rdL H2 a) (R (Ite K a k.toNat) H2)))):bZY K ta tk σ H R:=h
theorem dQR {R:Addr->Hp->Prop} (h:R a H):yM R [.ref a] H:=h
end
section
variable {X:Cx}
end
section
variable {K:PySem.W.Frag} {n:Nat} {t:TG} {u:TGs} {v:V} {r xs:List V} {σ:St} {H:Hp} {Q:St->Hp->Prop} {a:Addr}
theorem dXW (e:lP H a=some xs) (hn:xs.length=n) (h:u xs σ H Q):dQJ K n u (.ref a) σ H Q:=⟨a,xs,rfl,.of (oP e),hn,h⟩
theorem cZD (h:t v σ H λσ' H'=>u r σ' H' Q):aXC t u (v :: r) σ H Q:=⟨v,r,rfl,h⟩
theorem dQS (h:Q σ H):dQ6 [] σ H Q:=⟨rfl,h⟩
end
theorem kI {X:Cx} {K:PySem.W.Frag} {i j k:Nat} {x y:Str} {px py pos:Pos} (hK:X.K=K) (hc:X.calm=true) (hN:X.N.Nodup) (hi:X.N[i]?=some x) (hx:Loc X.env.scope x) (hfx:X.fn x=true\/X.env.scope.names.lookup x=some .local)
   (hj:X.N[j]?=some y) (hy:Loc X.env.scope y) (hfy:X.fn y=true\/X.env.scope.names.lookup y=some .local):PG X (.Tuple [.Name x px,.Name y py] k pos) (dQJ K 2 (aXC (pE i) (aXC (pE j) dQ6))):=by
 subst hK
 exact dQP hc (fJ (aQ hN hi hx hfx) (fJ (aQ hN hj hy hfy) tO))
end L2
set_option maxHeartbeats 4000000
namespace L2
open PySem PySem.Spec PyProof.Rows
structure Fly (B:Heap) (l:List Env) (e:Addr) (cls:Value) (d:Option Addr) (fl:Value) (h:Heap):Prop where
 stays:B.StaysIn h
 new:B.get? e=none
 frames:h.FunFrames B l
 on:∃ oe vs T oT ts,h.get? e=some oe/\(oe.cls=cls/\oe.dict=d)/\oe.data=.fields vs/\vs[1]?=some (.ref T)/\B.get? T=none/\T≠e/\h.get? T=some oT/\oT.data=.fields ts/\ts[3]?=some fl/\vs[2]?=some .none
theorem vV (o:Obj) (f:Array Value->Array Value):(o.mapFields f).dict=o.dict:=by
 obtain ⟨c,d,dt,sl⟩:=o
 cases dt <;> rfl
theorem nT {h:Heap} {a:Addr} {o:Obj} {vs:Array Value} {f:Obj->Obj} (ha:h.get? a=some o) (hd:o.data=.fields vs):∀ b u,h.get? b=some u->(∀ ws,u.data≠.fields ws)->(h.update a f).get? b=some u:=λb u e n=>by
 rw [Bz _ _ (λz:a=b=>by rw [<-z,ha] at e; cases e; exact n vs hd)]
 exact e
section
variable {M:Model} {A:Around} {E:Value->Shared->Prop} {s:Shared} {B:Heap} {env:Env} {outer l:List Env} {L e:Addr} {cls:Value} {d:Option Addr} {Q:Unit->Shared->Prop}
theorem sV {oe:Obj} {vs:Array Value} {head:Value} {nx:Bool} (hfr:A.frames=some (env :: outer)) (hl:s.heap.FunFrames B (env :: outer)) (hf:env.frame=some L) (hB:B.StaysIn s.heap) (hn:B.get? e=none)
   (he:s.heap.get? e=some oe) (hd:oe.data=.fields vs) (h1:1 < vs.size) (c2:vs[2]?=some .none) (hQ:∀ h',Fly B (env :: outer) e oe.cls oe.dict (rawInt L) h'->s.heap.UpToSlots h'->Q () { s with heap:=h' }) :
   wpAny M A (do let a <-frameOf env; let pl <-entryPlaceOf L nx; let b <-EntryCells.newEntry head a .none (rawInt L) .none pl; setField (.ref e) 1 b) Q E s:=by
 have ne:e ∉ (env :: outer).filterMap (·.frame):=λhm=>by
   obtain ⟨_,o,ho,nf⟩:=hl.mem hm
   rw [he] at ho; cases ho
   exact nf vs hd
 refine Ac (wpAny_frameOf_fun hfr hl hf λg1 so=>Ac (wpAny_entryPlaceOf λpl hpl=>?_))
 have e1:g1.get? e=some oe:=(so.2.1 e ne).trans he
 have b1:B.StaysIn g1:=λb o q=>(so.2.1 b λhm=>by rw [(hl.mem hm).1] at q; cases q).trans (hB b o q)
 unfold EntryCells.newEntry newFields
 refine Ac (Gg ?_ (hpl.sizeOk5 _ _ _ _ _))
 generalize hts:(([head,.ref L,.none,rawInt L,.none] ++ (if pl.isEmpty then List.replicate 6 Value.none else pl):List Value)).toArray=ts
 have t3:ts[3]?=some (rawInt L):=by rw [<-hts]; simp
 have e2:=Af (h:=g1) ⟨.type "traceback",none,.fields ts,#[]⟩ e1
 refine Gh e2 hd h1 (hQ _ ?_ ?_)
 · have te:g1.objs.size≠e:=Gd (Ao e1)
   have dm:=Gb hd (·.setIfInBounds 1 (Value.ref g1.objs.size))
   refine ⟨λb o q=>?_,hn,hl.of_keeps λb o q nf=>?_,_,_,g1.objs.size,⟨.type "traceback",none,.fields ts,#[]⟩,ts,Heap.get?_update_self _ e2 (Obj.isFreed_of_fields dm),⟨Obj.cls_mapFields _ _,vV _ _⟩,dm,by simp [h1],b1.fresh,te,?_,rfl,t3,(Array.getElem?_setIfInBounds_ne (by decide)).trans c2⟩
   · rw [Bz _ _ (λz:e=b=>by rw [<-z,hn] at q; cases q)]
     exact Af _ (b1 b o q)
   · obtain ⟨sl,q1⟩:=so.2.2 b o q
     exact ⟨_,nT e2 hd b _ (Af _ q1) nf,rfl⟩
   · rw [Bz _ _ te.symm]
     exact Av g1 rfl
 · intro b o q nf
   obtain ⟨sl,q1⟩:=so.2.2 b o q
   exact ⟨sl,nT e2 hd b _ (Af _ q1) nf⟩
theorem aZ8 {oe:Obj} {vs:Array Value} (hfr:A.frames=some (env :: outer)) (hl:s.heap.FunFrames B (env :: outer)) (hf:env.frame=some L) (hB:B.StaysIn s.heap) (hn:B.get? e=none)
   (he:s.heap.get? e=some oe) (hd:oe.data=.fields vs) (h1:vs[1]?=some .none) (c2:vs[2]?=some .none) (hQ:∀ h',Fly B (env :: outer) e oe.cls oe.dict (rawInt L) h'->s.heap.UpToSlots h'->Q () { s with heap:=h' }):wpAny M A (noteFrame (.ref e) env) Q E s:=by
 unfold noteFrame
 simp only [hf]
 refine Ac (Em he hd h1 ?_)
 rw [if_neg (show ¬ ((Value.none != Value.none)=true) by decide)]
 exact sV hfr hl hf hB hn he hd (Cj.mp h1).1 c2 hQ
theorem xD (hfr:A.frames=some (env :: outer)) (hf:env.frame=some L) (F:Fly B (env :: outer) e cls d .none s.heap) (hQ:∀ h',Fly B (env :: outer) e cls d (rawInt L) h'->s.heap.UpToSlots h'->Q () { s with heap:=h' }) :
   wpAny M A (noteFrame (.ref e) env) Q E s:=by
 obtain ⟨hB,hn,hl,oe,vs,T,oT,ts,he,⟨rfl,rfl⟩,hd,h1,hT,hTe,gT,dT,t3,c2⟩:=F
 unfold noteFrame
 simp only [hf]
 refine Ac (Em he hd h1 ?_)
 rw [if_pos (show (Value.ref T != Value.none)=true by simp)]
 refine Ac (Em gT dT t3 ?_)
 rw [if_neg (show ¬ ((Value.none == rawInt L)=true) by simp [rawInt])]
 refine Ac (Gh gT dT (Cj.mp t3).1 ?_)
 have keep:∀ b,b≠T->(s.heap.update T (Obj.mapFields (·.setIfInBounds 3 Value.none))).get? b=s.heap.get? b:=λb hb=>Bz _ _ (Ne.symm hb)
 refine sV (s:={ s with heap:=s.heap.update T (Obj.mapFields (·.setIfInBounds 3 Value.none)) }) hfr (hl.of_keeps λb o q nf=>⟨o,nT gT dT b o q nf,rfl⟩) hf
   (λb o q=>(keep b λz=>by rw [z,hT] at q; cases q).trans (hB b o q)) hn ((keep e hTe.symm).trans he) hd (Cj.mp h1).1 c2 λh' F' up=>hQ h' F' λb o q nf=>up b o (nT gT dT b o q nf) nf
theorem iL {fl:Value} (F:Fly B l e cls d fl s.heap) (hQ:∀ h',Fly B l e cls d .none h'->s.heap.UpToSlots h'->Q () { s with heap:=h' }):wpAny M A (setFlight (.ref e) none) Q E s:=by
 obtain ⟨hB,hn,hl,oe,vs,T,oT,ts,he,hc,hd,h1,hT,hTe,gT,dT,t3,c2⟩:=F
 have z3:3 < ts.size:=(Cj.mp t3).1
 unfold setFlight
 refine Ac (Em he hd h1 ?_)
 rw [if_pos (show (Value.ref T != Value.none)=true by simp)]
 refine Gh gT dT z3 (hQ _ ?_ λb o q nf=>⟨o.slots,nT gT dT b o q nf⟩)
 have dm:=Gb dT (·.setIfInBounds 3 Value.none)
 refine ⟨λb o q=>?_,hn,hl.of_keeps λb o q nf=>⟨o,nT gT dT b o q nf,rfl⟩,oe,vs,T,_,_,?_,hc,hd,h1,hT,hTe,Heap.get?_update_self _ gT (Obj.isFreed_of_fields dm),dm,by simp [z3],c2⟩
 · rw [Bz _ _ (λz:T=b=>by rw [<-z,hT] at q; cases q)]
   exact hB b o q
 · rw [Bz _ _ hTe]
   exact he
theorem Fly.less {fl:Value} {h:Heap} (F:Fly B (env :: outer) e cls d fl h):Fly B outer e cls d fl h:=⟨F.stays,F.new,F.frames.2.2,F.on⟩
theorem zF {oe:Obj} {vs:Array Value} (hfr:A.frames=some (env :: outer)) (hl:s.heap.FunFrames B (env :: outer)) (hf:env.frame=some L) (hB:B.StaysIn s.heap) (hn:B.get? e=none)
   (he:s.heap.get? e=some oe) (hd:oe.data=.fields vs) (h1:vs[1]?=some .none) (c2:vs[2]?=some .none) (hQ:∀ h',Fly B outer e oe.cls oe.dict .none h'->s.heap.UpToSlots h'->Q () { s with heap:=h' }):wpAny M A (leaving env (.ref e)) Q E s:=by
 unfold leaving
 exact Ac (aZ8 hfr hl hf hB hn he hd h1 c2 λh1 F1 u1=>iL (s:={ s with heap:=h1 }) F1 λh2 F2 u2=>hQ h2 F2.less (u1.trans u2))
theorem aJY (hfr:A.frames=some (env :: outer)) (hf:env.frame=some L) (F:Fly B (env :: outer) e cls d .none s.heap) (hQ:∀ h',Fly B outer e cls d .none h'->s.heap.UpToSlots h'->Q () { s with heap:=h' }):wpAny M A (leaving env (.ref e)) Q E s:=by
 unfold leaving
 exact Ac (xD hfr hf F λh1 F1 u1=>iL (s:={ s with heap:=h1 }) F1 λh2 F2 u2=>hQ h2 F2.less (u1.trans u2))
end
end L2
set_option maxHeartbeats 4000000
namespace L2
open PySem PySem.Spec PyProof.Rows
structure UnB (fs:List Addr) (H H':Hp) (h B h':Heap):Prop where
 keep:∀ b o,h.get? b=some o->H b=none->b ∉ fs->B.get? b=some o
 slot:∀ b o,h.get? b=some o->H b=none->b∈fs->∃ sl,h'.get? b=some { o with slots:=sl }
 free:∀ b o,h.get? b=some o->H b=none->H' b=none
 there:∀ b o,h.get? b=some o->b ∉ fs->∃ o',B.get? b=some o'
 tups:∀ b xs,H b=some (.tup xs)->H' b=some (.tup xs)
 frzs:∀ b o u,H b=some (.frz o u)->H' b=some (.frz o u)
 tbls:∀ b ps,H b=some (.tbl ps)->∃ more,H' b=some (.tbl (ps ++ more))
def CXr (P:Program) (w:World):CXT:=λouter H s E e s'=>
 ∃ (ea:Addr) (cls:Value) (d:Option Addr) (B:Heap) (H':Hp),e=.ref ea/\s'.os=s.os/\AllBare s'.gens/\Fly B outer ea cls d .none s'.heap/\HOk P w H' B/\UnB (frs outer) H H' s.heap B s'.heap/\E cls d H'
theorem HOk.down {P:Program} {w:World} {H:Hp} {h B:Heap} (x:HOk P w H h) (k:∀ b o u,H b=some u->h.get? b=some o->B.get? b=some o):HOk P w H B:=λa u e=>
 (x a u e).stay (λb o hb q=>by
   rcases hb with z | z
   · subst z; exact k b o u e q
   · exact k b o _ z q) (λ_ q=>q) λ_ _ q=>q
theorem ObjOk.get {P:Program} {w:World} {H:Hp} {h:Heap} {a:Addr} {o:HO} (x:ObjOk P w H h a o):∃ ob,h.get? a=some ob:=by
 cases o with
 | lst xs=>obtain ⟨_,_,_,_,e⟩:=x; exact ⟨_,e⟩
 | tup xs=>obtain ⟨_,_,_,ob,e,_⟩:=x; exact ⟨_,e⟩
 | dK kvs=>obtain ⟨_,_,_,_,ob,_,_,e,_⟩:=x; exact ⟨_,e⟩
 | dT kvs=>obtain ⟨_,_,_,_,ob,_,_,e,_⟩:=x; exact ⟨_,e⟩
 | set S n=>obtain ⟨ob,_,_,_,e,_⟩:=x; exact ⟨_,e⟩
 | ins C dx fs=>obtain ⟨_,_,_,e,_⟩:=x; exact ⟨_,e⟩
 | own y=>exact x
 | xd fs=>obtain ⟨_,⟨od,_,_,e,_⟩,_⟩:=x; exact ⟨_,e⟩
 | rng lo hi=>obtain ⟨_,_,_,e⟩:=x; exact ⟨_,e⟩
 | frz ob u=>exact ⟨_,x.1⟩
 | tbl ps=>exact ⟨_,x⟩
 | met f y=>exact ⟨_,x⟩
 | ext φ=>exact x.2.1
theorem HOk.hole {P:Program} {w:World} {H:Hp} {h:Heap} {a:Addr} (x:HOk P w H h) (e:h.get? a=none):H a=none:=by
 cases q:H a with
 | none=>rfl
 | some o=>
   obtain ⟨ob,z⟩:=(x a o q).get
   rw [e] at z
   cases z
theorem gW {env:Env} {outer:List Env} {L b:Addr} (hf:env.frame=some L) (h1:b≠L) (h2:b ∉ frs outer):b ∉ frs (env :: outer):=λhm=>by
 obtain ⟨e,he,q⟩:=Dd.mp hm
 rcases Bc.mp he with z | z
 · subst z
   rw [hf] at q
   exact h1 (Br q).symm
 · exact h2 (Dd.mpr ⟨e,z,q⟩)
section
variable {P:Program} {w:World} {K:PySem.W.Frag} {mg:Str->Option Value} {base:Heap} {N:List Str} {qual:Str} {scope:Scope} {f:Addr} {cd:Value} {A:Around} {outer:List Env} {s₀:Shared} {H₀:Hp} {E:XK}
 {pins:List (Addr × Obj)} {σ:St} {H:Hp} {s:Shared}
theorem tQ {ea:Addr} {oe:Obj} {vs:Array Value} (I:Inv (gF (CXr P w) P w K mg base N qual scope f cd A outer s₀ H₀ E) pins σ H s) (he:s.heap.get? ea=some oe) (hd:oe.data=.fields vs) (h1:vs[1]?=some .none) (c2:vs[2]?=some .none) (hn:H ea=none) (h0:s₀.heap.get? ea=none)
   (q:E oe.cls oe.dict H):(gF (CXr P w) P w K mg base N qual scope f cd A outer s₀ H₀ E).xe (.ref ea) s:=by
 have hfr:=I.ok.frames
 have hst:=I.stack
 have hsf:=I.stkFree
 have hbase:=I.base
 have hlo:∀ b o,s₀.heap.get? b=some o->b≠s₀.heap.objs.size:=λb o e=>Be (Ao e)
 have nea:∀ b o,s₀.heap.get? b=some o->b≠ea:=λb o e z=>by rw [z,h0] at e; cases e
 have hid:∀ b o,s.heap.get? b=some o->b≠ea->b ∉ frs (envOfC qual scope s₀.heap.objs.size f cd :: outer)->(PySem.W.hideAll s.heap (ea :: frs (envOfC qual scope s₀.heap.objs.size f cd :: outer))).get? b=some o:=λb o e n1 n2=>
   PySem.W.hideAll_get _ e λhm=>(Bc.mp hm).elim n1 n2
 refine zF (B:=PySem.W.hideAll s.heap (ea :: frs (envOfC qual scope s₀.heap.objs.size f cd :: outer))) hfr (PySem.W.funFrames_hide hst λenv he b hb=>An _ (Dd.mpr ⟨env,he,hb⟩)) rfl (λb o q=>Fz _ q)
   (PySem.W.hideAll_none _ Aq) he hd h1 c2 λh2 fl up=>?_
 refine ⟨ea,_,_,_,H,rfl,I.os,I.bare,fl,I.hok.down λb o u e g=>hid b o g (λz=>by rw [z,hn] at e; cases e) λhm=>?_,⟨λb o e n hb=>?_,λb o e n hb=>?_,λb o e n=>hbase.free b o e n (by simp [gF]),λb o e hb=>?_,hbase.tups,hbase.frzs,hbase.tbls⟩,q⟩
 · rw [hsf b hm] at e
   cases e
 · exact hid b o (hbase.keep b o e n hb (by simp [gF])) (nea b o e) (gW rfl (hlo b o e) hb)
 · obtain ⟨sl,q1⟩:=hbase.slot b o e n hb (by simp [gF])
   obtain ⟨_,o2,g2,nf⟩:=I.ok.funs.mem hb
   have e2:s₀.heap.get? b=some o2:=g2
   rw [e] at e2
   cases e2
   obtain ⟨sl2,q2⟩:=up b _ q1 nf
   exact ⟨sl2,q2⟩
 · obtain ⟨o',q1⟩:=hbase.there b o e (by simp [gF])
   exact ⟨o',hid b o' q1 (nea b o e) (gW rfl (hlo b o e) hb)⟩
theorem kF:nF (CXr P w) (gF (CXr P w) P w K mg base N qual scope f cd A outer s₀ H₀ E) E:=by
 intro pins σ H s e s' I h
 obtain ⟨ea,cls,d,B,H',rfl,os,bare,fl,hok,un,q⟩:=h
 have hbase:=I.base
 have hlo:∀ b o,s₀.heap.get? b=some o->b≠s₀.heap.objs.size:=λb o e=>Be (Ao e)
 refine aJY I.ok.frames rfl fl λh2 fl2 up=>?_
 have ns:∀ b o,s₀.heap.get? b=some o->b ∉ frs outer->b ∉ frs (envOfC qual scope s₀.heap.objs.size f cd :: outer):=λb o e hb=>gW rfl (hlo b o e) hb
 have ins:∀ b,b∈frs outer->b∈frs (envOfC qual scope s₀.heap.objs.size f cd :: outer):=λb hb=>by
   obtain ⟨e,he,q⟩:=Dd.mp hb
   exact Dd.mpr ⟨e,An _ he,q⟩
 refine ⟨ea,cls,d,B,H',rfl,os.trans I.os,bare,fl2,hok,⟨λb o e n hb=>?_,λb o e n hb=>?_,λb o e n=>?_,λb o e hb=>?_,λb xs e=>un.tups b xs (hbase.tups b xs e),λb o u e=>un.frzs b o u (hbase.frzs b o u e),λb ps e=>?_⟩,q⟩
 · exact un.keep b o (hbase.keep b o e n hb (by simp [gF])) (hbase.free b o e n (by simp [gF])) (ns b o e hb)
 · obtain ⟨sl,q1⟩:=hbase.slot b o e n hb (by simp [gF])
   obtain ⟨sl1,q2⟩:=un.slot b _ q1 (hbase.free b o e n (by simp [gF])) (ins b hb)
   obtain ⟨_,o2,g2,nf⟩:=I.ok.funs.mem hb
   have e2:s₀.heap.get? b=some o2:=g2
   rw [e] at e2
   cases e2
   obtain ⟨sl2,q3⟩:=up b _ q2 nf
   exact ⟨sl2,q3⟩
 · obtain ⟨o',q1⟩:=hbase.there b o e (by simp [gF])
   exact un.free b o' q1 (hbase.free b o e n (by simp [gF]))
 · obtain ⟨o',q1⟩:=hbase.there b o e (by simp [gF])
   exact un.there b o' q1 (ns b o e hb)
 · obtain ⟨m1,e1⟩:=hbase.tbls b ps e
   obtain ⟨m2,e2⟩:=un.tbls b _ e1
   exact ⟨m1 ++ m2,by rw [e2,Array.append_assoc]⟩
end
theorem bJ5 {K:PySem.W.Frag} {h:Heap} {C:Addr} {bmB:List Value} {newId:String} (X:K.In h) (q:PySem.W.excIn K C bmB newId=true) :
   ∃ bm N nm qn bs hd sn sub ab col dd k0 k1 k2 k3 k5 mN,h.get? C=some (excClassObj nm qn C N bs bm hd sn sub ab col dd k0 k1 k2 k3 k5 newId)/\h.Ns N mN/\mN "__init__"=none/\OwnTail h bmB bm:=by
 unfold PySem.W.excIn at q
 split at q
 · rename_i dd c sl ho
   split at q
   · rename_i C1 bm k0 k1 k2 k3 n k5 hm hs
     obtain ⟨⟨⟨⟨⟨q1,q2⟩,q3⟩,q4⟩,q5⟩,q6⟩:((((C1=C/\n=newId)/\c.hasDel=false)/\PySem.W.tailIn K bmB bm=true)/\PySem.W.nsOkIn K c.ns=true)/\PySem.W.nsIn K c.ns "__init__"=some none:=by
       simpa only [Bool.and_eq_true,beq_iff_eq,Bool.not_eq_true'] using q
     subst q1 q2
     obtain ⟨nm,bs,mro,ns,qn,hd,sn,sub,ab,col,del⟩:=c
     dsimp only at hm q3 q5 q6
     subst hm q3
     obtain rfl:sl=#[k0,k1,k2,k3,some (.builtin n),k5]:=by
       obtain ⟨l⟩:=sl
       have hs':l=_:=hs
       rw [hs']
     exact ⟨bm,ns,nm,qn,bs,hd,sn,sub,ab,col,dd,k0,k1,k2,k3,k5,_,X _ _ ho,.of_isNs (PySem.W.isNs_of_in X q5),PySem.W.nsMap_none_of_in X q5 q6,PySem.W.tail_of_in X q4⟩
   · cases q
 · cases q
def dXV (X:Cx) (E:XK):Prop:=∀ (pins:List (Addr × Obj)) (σ:St) (H:Hp) (s:Shared) (ea:Addr) (oe:Obj) (vs:Array Value),Inv X pins σ H s->s.heap.get? ea=some oe->oe.data=.fields vs->vs[1]?=some .none->vs[2]?=some .none->H ea=none->X.s₀.heap.get? ea=none->
 E oe.cls oe.dict H->X.xe (.ref ea) s
theorem oK {P:Program} {w:World} {K:PySem.W.Frag} {mg:Str->Option Value} {base:Heap} {N:List Str} {qual:Str} {scope:Scope} {f:Addr} {cd:Value} {A:Around} {outer:List Env} {s₀:Shared} {H₀:Hp} {E:XK} :
   dXV (gF (CXr P w) P w K mg base N qual scope f cd A outer s₀ H₀ E) E:=λ_ _ _ _ _ _ _ I he hd h1 c2 hn h0 q=>tQ I he hd h1 c2 hn h0 q
section
variable {X:Cx} {E:XK} {x:Str} {C:Addr} {bmB:List Value} {B newId initId:String} {e:Expr} {es:List Expr} {ta:TA} {np cpos pos:Pos}
def bQ2 (C:Addr) (E:XK) (ta:TA):TS:=λ_ σ H=>ta σ H λvs H1=>vs.length<=sizeLine/\E (.ref C) none H1
theorem bJC (hR:dXV X E) (hex:X.ex=[]) (hc:X.calm=true) (hg:Gl X x) (hm:X.mg x=some (.ref C)) (hx:PySem.W.excIn X.K C bmB newId=true) (FB:ExcBaseFacts B newId initId bmB) (ha:PA X (e :: es) ta)
   (hd:(x == ("__debug__" : Str))=false:=by decide) (he:starEach (e :: es) X.env=(false,eval e X.env) :: starEach es X.env:=by rfl) (hpl:(backTo cpos (starEach es X.env)).any (·.1)=false:=by rfl) :
   PS X (.Raise (some (.Call (.Name x np) (e :: es) [] cpos)) none pos) (bQ2 C E ta):=by
 intro pins s σ H D I h
 obtain ⟨bm,N,nm,q,bs,hdct,sn,sub,ab,col,dd,k0,k1,k2,k3,k5,mN,hC,hN,hni,T⟩:=bJ5 I.ok.mod.kin hx
 refine wpAny_Raise_call_subT (C:=C) (N:=N) (bm:=bm) (nm:=nm) (q:=q) (bs:=bs) (hdct:=hdct) (sn:=sn) (sub:=sub) (ab:=ab) (col:=col) (dd:=dd) (k0:=k0) (k1:=k1) (k2:=k2) (k3:=k3) (k5:=k5)
   FB (mN:=mN) (T.hasType FB.hasBase) (I.ok.hd hc) (by rw [he]; show (false || (backTo cpos (starEach es X.env)).any (·.1))=false; rw [hpl]; rfl) hni (iK I hg hm ⟨rfl,?_⟩ hd)
 have h1:=ha cpos pins s σ H _ I h
 rw [he] at h1 ⊢
 refine Calls.evalArgs_plain (thn h1 λus s2 ⟨vs,H2,I2,r,q2⟩=>⟨rfl,?_,I2.bk _ _ hC,hN.keeps I2.bk,T.keeps I2.bk,λh' ea hx=>?_⟩)
 · show us.length<=sizeLine
   rw [<-r.length]
   exact q2.1
 · obtain ⟨t,g,_,_⟩:=hx.there
   refine hR pins σ H2 { s2 with heap:=h' } ea _ _ (I2.kept (t':=s2.toks) hx.keeps) g rfl rfl rfl (I2.hok.hole hx.new) ?_ q2.2
   cases z:X.s₀.heap.get? ea with
   | none=>rfl
   | some o=>
     obtain ⟨o',z'⟩:=I2.base.there ea o z (by rw [hex]; simp)
     rw [hx.new] at z'
     cases z'
end
abbrev Cx.tr (X:Cx) (pins:List (Addr × Obj)) (xe:Value->Shared->Prop):Cx:={ X with pn:=X.pn ++ pins,xe:=xe }
abbrev Cx.hnd (X:Cx) (pins:List (Addr × Obj)) (ea:Addr):Cx:={ X with A:=X.A.mark (some (.ref ea)),calm:=false,pn:=X.pn ++ pins,xe:=λ_ _=>False }
section
variable {X:Cx} {pins pins':List (Addr × Obj)} {σ:St} {H:Hp} {s:Shared} {xe:Value->Shared->Prop} {ea:Addr}
theorem Inv.tr (I:Inv X pins σ H s) (xe:Value->Shared->Prop):Inv (X.tr pins xe) [] σ H s :=
 ⟨⟨I.ok.mod,I.ok.kind,I.ok.glob,I.ok.blt,I.ok.above,I.ok.inj,I.ok.has,I.ok.cab,I.ok.hd,I.ok.frames,I.ok.stk,I.ok.exf,I.ok.bs,I.ok.bsz,I.ok.noex,I.ok.exfs,I.ok.funs,I.ok.frf⟩,I.os,I.bare,I.base,I.loc,I.cell,I.free,I.freeC,
   λp hp=>I.pin p (by rwa [Bu] at hp),I.hok,I.len⟩
theorem Inv.untr (I:Inv (X.tr pins xe) pins' σ H s):Inv X pins σ H s :=
 ⟨⟨I.ok.mod,I.ok.kind,I.ok.glob,I.ok.blt,I.ok.above,I.ok.inj,I.ok.has,I.ok.cab,I.ok.hd,I.ok.frames,I.ok.stk,I.ok.exf,I.ok.bs,I.ok.bsz,I.ok.noex,I.ok.exfs,I.ok.funs,I.ok.frf⟩,I.os,I.bare,I.base,I.loc,I.cell,I.free,I.freeC,
   λp hp=>I.pin p (Cm _ hp),I.hok,I.len⟩
theorem Inv.hnd (I:Inv X pins σ H s) (ea:Addr):Inv (X.hnd pins ea) [] σ H s :=
 ⟨⟨I.ok.mod,I.ok.kind,I.ok.glob,I.ok.blt,I.ok.above,I.ok.inj,I.ok.has,I.ok.cab,(λz=>nomatch z),I.ok.frames,I.ok.stk,I.ok.exf,I.ok.bs,I.ok.bsz,I.ok.noex,I.ok.exfs,I.ok.funs,I.ok.frf⟩,I.os,I.bare,I.base,I.loc,I.cell,I.free,I.freeC,
   λp hp=>I.pin p (by rwa [Bu] at hp),I.hok,I.len⟩
theorem Inv.unhnd (I:Inv (X.hnd pins ea) pins' σ H s) (ok:X.Ok):Inv X pins σ H s :=
 ⟨ok,I.os,I.bare,I.base,I.loc,I.cell,I.free,I.freeC,λp hp=>I.pin p (Cm _ hp),I.hok,I.len⟩
structure Fre (X:Cx) (pins:List (Addr × Obj)) (a:Addr):Prop where
 s0:X.s₀.heap.get? a=none
 loc:a≠X.env.locals
 cell:∀ x c,X.env.cells.lookup x=some c->c≠a
 pin:∀ p∈X.pn ++ pins,p.1≠a
theorem Inv.adopt {a:Addr} {o:HO} (I:Inv X pins σ H s) (f:Fre X pins a) (hn:H a=none) (new:ObjOk X.prog X.w (upd H a o) s.heap a o):Inv X pins σ (upd H a o) s:=by
 have ne:∀ b u,H b=some u->b≠a:=λb u e=>bJ e hn
 refine ⟨I.ok,I.os,I.bare,⟨I.base.keep,I.base.slot,λb u e n hx=>?_,I.base.there,λb xs e=>?_,λb u v e=>?_,λb ps e=>?_⟩,I.loc,I.cell,by rw [aK f.loc.symm]; exact I.free,λx c e=>by rw [aK (f.cell x c e)]; exact I.freeC x c e,λp hp=>?_,λb u e=>?_,I.len⟩
 · rw [aK (λz=>by rw [z,f.s0] at e; cases e)]
   exact I.base.free b u e n hx
 · have q:=I.base.tups b xs e
   rw [aK (ne b _ q)]; exact q
 · have q:=I.base.frzs b u v e
   rw [aK (ne b _ q)]; exact q
 · obtain ⟨m,q⟩:=I.base.tbls b ps e
   exact ⟨m,by rw [aK (ne b _ q)]; exact q⟩
 · obtain ⟨h1,h2,h3⟩:=I.pin p hp
   exact ⟨h1,by rw [aK (f.pin p hp)]; exact h2,h3⟩
 · by_cases hb:b=a
   · subst hb
     rw [aD] at e
     cases e
     exact new
   · rw [aK hb] at e
     exact (I.hok b u e).stay (λc v _ q=>q) (λc q=>by rw [aK (ne c _ q)]; exact q) λc xs q=>by rw [aK (ne c _ q)]; exact q
theorem Inv.unname {i:Nat} {n:Str} {h':Heap} {m:Str->Option Value} {v:Option Value} {t:Nat} (I:Inv X pins σ H s) (hN:X.N.Nodup) (hi:X.N[i]?=some n) (hm:s.heap.Ns X.env.locals m) (hl:X.env.scope.names.lookup n=some .local)
   (hn:h'.Ns X.env.locals (λx=>if x=n then v else m x)) (sb:Heap.SameBut X.env.locals s.heap h'):Inv X pins (σ.set i none) H { s with heap:=h',toks:=t }:=by
 have k:∀ b o,b≠X.env.locals->s.heap.get? b=some o->h'.get? b=some o:=λb o hb e=>(sb.2 b hb).trans e
 have nl:∀ b o,X.s₀.heap.get? b=some o->b≠X.env.locals:=λb o e=>Be (Bd (Ao e) I.ok.above)
 have there:∀ b o,s.heap.get? b=some o->∃ o',h'.get? b=some o':=λb o e=>by
   by_cases hb:b=X.env.locals
   · obtain ⟨o',_,_,q,_⟩:=hn
     exact ⟨o',by rw [hb]; exact q⟩
   · exact ⟨o,k b o hb e⟩
 obtain ⟨m1,hm1,hl1⟩:=id I.loc
 refine ⟨I.ok,I.os,I.bare,⟨λb o e n hb hx=>k b o (nl b o e) (I.base.keep b o e n hb hx),λb o e n hb hx=>?_,I.base.free,λb o e hx=>?_,I.base.tups,I.base.frzs,I.base.tbls⟩,⟨_,hn,λj y u e1 e2 e3=>?_⟩,λx c e=>?_,I.free,I.freeC,λp hp=>?_,λb u e=>?_,by rw [Eh]; exact I.len⟩
 · obtain ⟨sl,q⟩:=I.base.slot b o e n hb hx
   exact ⟨sl,k b _ (nl b o e) q⟩
 · obtain ⟨o',q⟩:=I.base.there b o e hx
   exact there b o' q
 · have hji:j≠i:=λz=>by
     subst z
     rw [Dj (by rw [I.len]; exact (Ae.mp hi).1)] at e2
     cases e2
   rw [Dt (Ne.symm hji)] at e2
   have hyn:y≠n:=λz=>hji (oZ hN e1 (by rw [z]; exact hi))
   obtain ⟨u',r,look⟩:=hl1 j y u e1 e2 e3
   have em:m1=m:=by
     obtain ⟨o1,es1,ep1,g1,d1,_,f1⟩:=hm1
     obtain ⟨o2,es2,ep2,g2,d2,_,f2⟩:=hm
     rw [g1] at g2; cases g2
     rw [d1] at d2; cases d2
     funext z
     rw [<-f1 z,f2 z]
   refine ⟨u',r,?_⟩
   rcases look with ⟨z1,z2⟩ | ⟨z1,c,z2,o,z3,z4⟩
   · exact .inl ⟨z1,by show (if y=n then v else m y)=_; rw [if_neg hyn,<-em]; exact z2⟩
   · exact .inr ⟨z1,c,z2,o,k c o (I.cne y c z2) z3,z4⟩
 · obtain ⟨v',o,z1,z2⟩:=I.cell x c e
   exact ⟨v',o,k c o (I.cne x c e) z1,z2⟩
 · obtain ⟨h1,h2,h3,h4⟩:=I.pin p hp
   exact ⟨k _ _ h3 h1,h2,h3,h4⟩
 · refine (I.hok b u e).stay (λc o hc q=>k c o (λz=>?_) q) (λ_ q=>q) λ_ _ q=>q
   have fr:=I.free
   rcases hc with z1 | z1
   · rw [<-z1,z,fr] at e; cases e
   · rw [z,fr] at z1; cases z1
end
def jS (ea:Addr) (cls:Value) (d:Option Addr):HO:=.ext λh=>∃ oe vs,h.get? ea=some oe/\oe.cls=cls/\oe.dict=d/\oe.data=.fields vs
theorem Fly.obj {P:Program} {w:World} {B:Heap} {l:List Env} {ea:Addr} {cls fl:Value} {d:Option Addr} {h:Heap} {H:Hp} (F:Fly B l ea cls d fl h):ObjOk P w H h ea (jS ea cls d):=by
 obtain ⟨oe,vs,T,oT,ts,he,hc,hd,_⟩:=F.on
 exact ⟨⟨oe,vs,he,hc.1,hc.2,hd⟩,⟨oe,he⟩,λh1 h2 ⟨o,ws,g,q⟩ k=>⟨o,ws,k o g,q⟩⟩
def XS (X:Cx) (pins:List (Addr × Obj)) (R:Value->Option Addr->St->Hp->Prop):Value->Shared->Prop:=λe s1=>
 ∃ ea cls d B σ1 H1,e=.ref ea/\Fly B X.stack ea cls d .none s1.heap/\Fre X pins ea/\H1 ea=none/\(∀ h2,B.StaysIn h2->s1.heap.UpToSlots h2->Inv X pins σ1 H1 { s1 with heap:=h2 })/\R cls d σ1 H1
def bXV (CX:CXT) (X:Cx) (Es:St->XK):Prop:=∀ (pins:List (Addr × Obj)) (σ:St) (H:Hp) (s:Shared) (e:Value) (s':Shared),Inv X pins σ H s->CX X.stack H s (Es σ) e s'->X.xe e s'
theorem lF {X:Cx} {pins:List (Addr × Obj)} {R:Value->Option Addr->St->Hp->Prop} (hex:X.ex=[]):bXV (CXr X.prog X.w) (X.tr pins (XS X pins R)) (λσ cls d H1=>R cls d σ H1):=by
 intro pins' σ H s e s1 I' h
 obtain ⟨ea,cls,d,B,H1,rfl,os,bare,F,hok,un,q⟩:=h
 have I:Inv X pins σ H s:=I'.untr
 have F:Fly B X.stack ea cls d .none s1.heap:=F
 have un:UnB (frs X.stack) H H1 s.heap B s1.heap:=un
 have nfs:ea ∉ frs X.stack:=λhm=>by
   obtain ⟨_,o,g,nf⟩:=F.frames.mem hm
   obtain ⟨oe,vs,T,oT,ts,he,hc,hd,_⟩:=F.on
   rw [g] at he; cases he
   exact nf vs hd
 have ne:∀ b o,s.heap.get? b=some o->b≠ea:=λb o g z=>by
   subst z
   obtain ⟨o',g'⟩:=un.there b o g nfs
   rw [F.new] at g'
   cases g'
 refine ⟨ea,cls,d,B,σ,H1,rfl,F,⟨?_,?_,λx c z=>?_,λp hp=>?_⟩,hok.hole F.new,λh2 st up=>?_,q⟩
 · cases z:X.s₀.heap.get? ea with
   | none=>rfl
   | some o=>
     obtain ⟨o',z'⟩:=I.base.there ea o z (by rw [hex]; simp)
     exact absurd rfl (ne ea o' z')
 · obtain ⟨m,⟨o,_,_,g,_⟩,_⟩:=I.loc
   exact (ne _ o g).symm
 · obtain ⟨v,o,g,_⟩:=I.cell x c z
   exact ne c o g
 · exact ne p.1 p.2 (I.pin p hp).1
 · have slot:∀ b o,s.heap.get? b=some o->b∈frs X.stack->∃ sl,h2.get? b=some { o with slots:=sl }:=λb o g hb=>by
     obtain ⟨sl,g1⟩:=un.slot b o g (I.stkFree b hb) hb
     obtain ⟨_,o2,g2,nf⟩:=I.stack.mem hb
     rw [g] at g2; cases g2
     obtain ⟨sl2,g3⟩:=up b _ g1 nf
     exact ⟨sl2,g3⟩
   refine I.call' (s':={ s1 with heap:=h2 }) (ch:=[]) os ⟨λb o g n hb _=>st b o (un.keep b o g n hb),λb o g n hb _=>slot b o g hb,λb o g n _=>un.free b o g n,λb o g _=>?_,un.tups,un.frzs,un.tbls⟩ (hok.kept λb o g=>st b o g) bare λb hb=>absurd hb (by simp)
   by_cases hb:b∈frs X.stack
   · obtain ⟨sl,g1⟩:=slot b o g hb
     exact ⟨_,g1⟩
   · obtain ⟨o',g1⟩:=un.there b o g hb
     exact ⟨o',st b o' g1⟩
section
variable {X:Cx} {CX:CXT} {k:Nat} {f:Addr} {fd:FuncData} {ps:List Str} {sp:Sp} {Es:St->XK} {x:Str} {p pos:Pos} {e:Expr} {es:List Expr} {t:TA}
def aQI (sp:Sp) (Es:St->XK) (t:TA):TE:=λσ H Q=>t σ H λvs H1=>sp vs H1 Q (Es σ)
theorem bJG (F:FnOk X.prog X.w X.K X.mg X.base CX k f fd ps sp) (hr:Room k X.A) (hg:Gl X x) (hm:X.mg x=some (.ref f)) (hk:PySem.W.keepIn X.K (.ref f)=true) (hb:Binds X.K fd ps []) (hx:bXV CX X Es) (ha:PA X (e :: es) t)
   (hdb:(x == ("__debug__" : Str))=false:=by decide) (he:starEach (e :: es) X.env=(false,eval e X.env) :: starEach es X.env:=by rfl) (hpl:(backTo pos (starEach es X.env)).any (·.1)=false:=by rfl) :
   PE X (.Call (.Name x p) (e :: es) [] pos) (aQI sp Es t):=by
 intro pins s σ H Q I h
 refine Eb (iK I hg hm ?_ hdb)
 refine PySem.W.callWith_K (h₀:=X.base) I.ok.mod.kin hk (thn (ha pos pins s σ H _ I h) λus s1 ⟨vs,H1,I1,r,q⟩=>⟨I1.kIn,?_⟩) he hpl
 have hl:us.length=ps.length:=by rw [<-r.length]; exact F.len _ _ _ _ q
 have hb1:=hb s1 us I1.kIn (by rw [Bu]; exact hl)
 rw [Bu] at hb1
 refine Fc (Ek (F.run X.A X.stack s1 H1 ⟨us,[]⟩ us vs Q (Es σ) hr I1.env0 hb1 r q) λrs s' hq=>?_)
 cases rs with
 | error e=>exact hx pins σ H1 s1 e s' I1 hq
 | ok fl=>
   cases fl with
   | ret u=>exact I1.after hq
   | next=>exact False.elim hq
   | brk=>exact False.elim hq
   | cont=>exact False.elim hq
end
def dZP (K:PySem.W.Frag) (C:Addr) (i:Nat) (mk:(Value->Option Addr->St->Hp->Prop)->TS) (ts:TS):TS:=λD σ H=>
 mk (λcls d σ1 H1=>PySem.W.exmOne K cls (.ref C)=some true/\∀ ea,H1 ea=none->
   ts { nx:=λσ2 H2=>D.nx (σ2.set i none) H2,rt:=D.rt,bk:=λσ2 H2=>D.bk (σ2.set i none) H2,ct:=λσ2 H2=>D.ct (σ2.set i none) H2 } (σ1.set i (some (.ref ea))) (upd H1 ea (jS ea cls d))) D σ H
section
variable {X:Cx} {pins:List (Addr × Obj)}
theorem SP.untr {xe:Value->Shared->Prop} {D:Ends} {f:Flow} {s':Shared} (h:SP (X.tr pins xe) [] D f s'):SP X pins D f s':=by
 cases f with
 | next=>obtain ⟨σ',H',I,q⟩:=h; exact ⟨σ',H',I.untr,q⟩
 | brk=>obtain ⟨σ',H',I,q⟩:=h; exact ⟨σ',H',I.untr,q⟩
 | cont=>obtain ⟨σ',H',I,q⟩:=h; exact ⟨σ',H',I.untr,q⟩
 | ret u=>obtain ⟨v,σ',H',I,r,q⟩:=h; exact ⟨v,σ',H',I.untr,r,q⟩
theorem bJF {body suite:List Stmt} {b0:Stmt} {x n:Str} {np hp pos:Pos} {i:Nat} {C:Addr} {mk:(Value->Option Addr->St->Hp->Prop)->TS} {ts:TS} (hstk:X.stack=X.env :: X.outer) (hfm:X.env.frame=some X.env.locals) (hex:X.ex=[])
   (hN:X.N.Nodup) (hi:X.N[i]?=some n) (hl:X.env.scope.names.lookup n=some .local) (hg:Gl X x) (hm:X.mg x=some (.ref C)) (hb:∀ pins R,PSs (X.tr pins (XS X pins R)) body (mk R)) (hs:∀ pins ea,PSs (X.hnd pins ea) (b0 :: suite) ts)
   (hd:(x == ("__debug__" : Str))=false:=by decide):PS X (.Try body [.ExceptHandler (some (.Name x np)) (some n) (b0 :: suite) hp] [] [] pos) (dZP X.K C i mk ts):=by
 intro pins s σ H D I h
 have hfr:X.A.frames=some (X.env :: X.outer):=by rw [<-hstk]; exact I.ok.frames
 have hcls:(X.env.scope.kind == .class || (X.env.scope.kind == .module && X.env.locals != X.env.globals))=false:=by rw [I.ok.kind]; rfl
 refine wpAny_Try_except (Cb (hb pins _ [] s σ H D (I.tr _) h) (λf s1 q=>?_) λe s1 q=>?_)
 · cases f with
   | next=>
     obtain ⟨σ',H',I',q⟩:=q.untr
     exact bS pins s1 σ' H' D I' q
   | brk=>exact q.untr
   | cont=>exact q.untr
   | ret u=>exact q.untr
 · obtain ⟨ea,cls,d,B,σ1,H1,rfl,F,fre,hn,inv,hx,r⟩:=q
   rw [hstk] at F
   refine xD hfr hfm F λh2 F2 u2=>iL (s:={ s1 with heap:=h2 }) F2 λh3 F3 u3=>?_
   have I3:=inv h3 F3.stays (u2.trans u3)
   refine wpAny_handleBy_cons (codeAny_handlers_test (iK (I3.hnd ea) hg hm ?_ hd)) (by intro q; cases q)
   obtain ⟨oe,vs,T,oT,tts,he,hc,_⟩:=id F3.on
   refine PySem.W.exm_one I3.kIn (hc.1 ▸ (PySem.W.Looks.ld he).andThen .now) hx _ _ _ _ (λ_ _ q=>q) ?_
   refine codeAny_handlers_suite_as (iL (s:={ s1 with heap:=h3 }) F3 λh4 F4 u4=>?_)
   have I4:=(inv h4 F4.stays ((u2.trans u3).trans u4)).adopt (o:=jS ea cls d) fre hn F4.obj
   refine pM I4 hN hi (.inl hl) (v:=.ref ea) rfl (λs5 I5=>?_) (.inr hl)
   refine Cb (hs pins ea [] s5 _ _ _ (I5.hnd ea) (r ea hn)) (λf s6 q=>?_) λ_ _ z=>z.elim
   have go:∀ {σ2:St} {H2:Hp} {Q:Unit->Shared->Prop} {E:Value->Shared->Prop},Inv (X.hnd pins ea) [] σ2 H2 s6->(∀ s7,Inv X pins (σ2.set i none) H2 s7->Q () s7)->
       wpAny (model X.prog X.w) X.A (do bindName X.env n .none; unbindBehindTheSuite X.env n hp) Q E s6:=fun {σ2 H2 Q E} I6 k=>by
     have I6':=I6.unhnd I.ok
     obtain ⟨m,hm6,_⟩:=id I6'.loc
     exact wpAny_nameGoes_keeps hl hm6 hcls λh7 v hn7 sb=>k _ (I6'.unname hN hi hm6 hl hn7 sb)
   cases f with
   | next=>
     obtain ⟨σ2,H2,I6,q⟩:=q
     exact go I6 λs7 I7=>⟨_,H2,I7,q⟩
   | brk=>
     obtain ⟨σ2,H2,I6,q⟩:=q
     exact go I6 λs7 I7=>⟨_,H2,I7,q⟩
   | cont=>
     obtain ⟨σ2,H2,I6,q⟩:=q
     exact go I6 λs7 I7=>⟨_,H2,I7,q⟩
   | ret u=>
     obtain ⟨v,σ2,H2,I6,rv,q⟩:=q
     exact go I6 λs7 I7=>⟨v,_,H2,I7,rv,q⟩
theorem SP.unhnd {ea:Addr} {D:Ends} {f:Flow} {s':Shared} (ok:X.Ok) (h:SP (X.hnd pins ea) [] D f s'):SP X pins D f s':=by
 cases f with
 | next=>obtain ⟨σ',H',I,q⟩:=h; exact ⟨σ',H',I.unhnd ok,q⟩
 | brk=>obtain ⟨σ',H',I,q⟩:=h; exact ⟨σ',H',I.unhnd ok,q⟩
 | cont=>obtain ⟨σ',H',I,q⟩:=h; exact ⟨σ',H',I.unhnd ok,q⟩
 | ret u=>obtain ⟨v,σ',H',I,r,q⟩:=h; exact ⟨v,σ',H',I.unhnd ok,r,q⟩
end
end L2
set_option maxHeartbeats 4000000
namespace L2
open PySem PySem.Spec PyProof.Rows PySem.W
structure ExK (K:Frag) (D:Addr):Prop where
 cls:hasDictIn K D=true
 ga:findIn K (.ref D) "__getattribute__"=some (some (.builtin "BaseException.__getattribute__"))
 gh:findIn K (.ref D) "__getattr__"=some none
 ca:findIn K (.ref D) "__class__"=some (some (.builtin "object.__class__"))
 cg:specialIn K (.builtin "object.__class__") "__get__"=some (some (.builtin "getset_descriptor.__get__"))
 ct:takesIn K (.builtin "object.__class__")=some true
 mo:mroIn K D (.type "object")=some true
 mb:PySem.W.subIn K (.ref D) (.type "BaseException")=some true
section
variable {prog:Program} {w:World} {A:Around} {E:Value->Shared->Prop} {s:Shared} {K:Frag} {x D:Addr} {ox:Obj} {od:Option Obj}
theorem rX {M:Model} {nm:Value} {Q:Unit->Shared->Prop} (Z:ExK K D) (X:K.In s.heap) (I:InstAt s.heap x ox D od) (hq:Q () s):wpAny M A (checkBuiltinCall "BaseException.__getattribute__" ⟨[.ref x,nm],[]⟩) Q E s:=by
 have hk:builtinKind "BaseException.__getattribute__"=some .slot:=by decide +kernel
 have hs:splitId "BaseException.__getattribute__"=some ("BaseException", "__getattribute__"):=by decide +kernel
 have L0:=I.type (M:=M)
 have L1:=looks_subIn (M:=M) X Z.mb
 have ha:=F.args_bexc_ga (.ref x) nm
 simp only [checkBuiltinCall,hk,hs]
 refine Ac ((L0.andThen L1).at ?_)
 rw [if_neg (show ¬ ((!true)=true) by decide)]
 exact wpAny_of_eq ha hq
theorem bJJ {h:Heap} {M:Model} (Z:ExK K D) (X:K.In h) (I:InstAt h x ox D od):Looks M h (Builtin.ObjectAttr.find (.ref x) (.ref D) "__class__") (Builtin.ObjectAttr.Found.bind (.builtin "getset_descriptor.__get__") (.builtin "object.__class__")):=by
 refine looks_find X I ?_
 obtain ⟨cd,hc,_⟩:=any_some Z.cls
 unfold findObj
 rw [hc,Option.bind_some,Z.ca,Option.bind_some]
 simp [Z.cg,Z.ct]
theorem aJ0 {Q:Option Value->Shared->Prop} (Z:ExK K D) (X:K.In s.heap) (I:InstAt s.heap x ox D od) (h:Q (some (.ref D)) { s with toks:=s.toks + 1 }):wpAny (model prog w) A (getAttr? (.ref x) "__class__") Q E s:=by
 obtain ⟨hh,g,d,t,os⟩:=s
 have L0:=I.type (M:=model prog w)
 have L1:=looks_findIn (M:=model prog w) X Z.ga
 have L2:=looks_findIn (M:=model prog w) X Z.gh
 have L3:=bJJ (M:=model prog w) Z X I
 unfold getAttr? getAttrBy? getAttrBy
 refine Ac (wpAny_mkText (Ac (Gr (Bs (Ac (L0.at (Ac (L1.at ?_))))))))
 have ne:(Value.builtin "BaseException.__getattribute__" == Value.builtin "object.__getattribute__")=false:=by decide +kernel
 have fb:=F.excAttr_ValueError.ga.bind (.ref x)
 dsimp only
 rw [ne,Gf,if_neg Am]
 unfold getAttrByItsOwn hookBefore
 rw [if_pos (show onTheHeap (Value.ref D)=true from rfl)]
 refine Ac (L2.at (Ac (Gr (Bs ?_))))
 unfold callGetattribute boundAndCalled
 rw [if_neg (show ¬ ((false && onTheHeap (Value.builtin "BaseException.__getattribute__"))=true) by decide)]
 refine Ac (wpAny_of_eq fb ?_)
 refine Fc (Dg F.excAttr_ValueError.ga.plain F.entry_bexc_ga (rX Z X I ?_))
 unfold Builtin.«object.__getattribute__»
 refine Ac (Ai (Ac (Ai (Ac (L0.at (Ac (L3.at ?_)))))))
 show wpAny _ _ (Builtin.ObjectAttr.bindTo _ _ _ _) _ _ _
 unfold Builtin.ObjectAttr.bindTo
 refine Ac (Bs (Fc (class_get (ox:=ox) (od:=od) X I Z.mo ?_)))
 refine Ai ?_
 exact handed_on rfl (Ai h)
theorem yB (Z:ExK K D):KitX K (.ref x) (.ref D) (λh=>∃ ox od,InstAt h x ox D od) where
 ty:=λ_ _ _ ⟨_,_,I⟩=>I.type
 it:=λM h X _=>by
   have q:(clsIn K D).isSome=true:=by
     obtain ⟨cd,hc,_⟩:=any_some Z.cls
     rw [hc]; rfl
   unfold clsIn at q
   split at q
   · rename_i ho
     intro A1 Q1 E1 s1 k1 q1
     unfold isType loadHead
     exact Ac (wpAny_loadPart (k1 _ _ (X _ _ ho)) (Ai q1))
   · cases q
 ne:=λh tp dd its n sl X htp=>by
   have q:(clsIn K D).isSome=true:=by
     obtain ⟨cd,hc,_⟩:=any_some Z.cls
     rw [hc]; rfl
   unfold clsIn at q
   split at q
   · rename_i ho
     refine Bt.mpr λz=>?_
     obtain rfl:D=tp:=Value.ref.inj (beq_iff_eq.mp z)
     have z:=(X _ _ ho).symm.trans htp
     cases z
   · cases q
 ca:=λX ⟨_,_,I⟩ k=>aJ0 Z X I k
end
def cXQ:V->Option Value
 | .ref C=>some (.ref C)
 | .ty T=>some (.type T)
 | _=>none
def wX:List V->Option (List Value)
 | []=>some []
 | v :: r=>(cXQ v).bind λc=>(wX r).map (c :: ·)
theorem xZ {v:V} {c u:Value} (h:cXQ v=some c) (r:RelV v u):u=c:=by
 cases v with
 | ref C=>cases h; exact r
 | ty T=>cases h; exact r
 | _=>cases h
theorem sM:∀ {vs:List V} {cs us:List Value},wX vs=some cs->Vals vs us->us=cs
 | [],_,_,h,.nil=>by cases h; rfl
 | v :: vs,_,_,h,.cons r rr=>by
   unfold wX at h
   obtain ⟨c,h1,h2⟩:=Option.bind_eq_some_iff.mp h
   obtain ⟨cs,h3,h4⟩:=Option.map_eq_some_iff.mp h2
   subst h4
   rw [xZ h1 r,sM h3 rr]
def cQG (K:PySem.W.Frag):List V->Hp->VK->Prop:=λxs H Q=>∃ ea D d c b,xs=[.ref ea,c]/\H ea=some (jS ea (.ref D) d)/\(∀ dx,d=some dx->∃ o,H dx=some o)/\ExK K D/\
 ((∃ cv,cXQ c=some cv/\kitOne K (.ref D) cv=some b)\/(∃ tp cs cv,c=.ref tp/\H tp=some (.tup cs)/\wX cs=some cv/\kitAny K (.ref D) cv=some b))/\Q (.bl b) H
theorem bXS {P:Program} {w:World} {H:Hp} {h:Heap} {ea D:Addr} {d:Option Addr} (hok:HOk P w H h) (e:H ea=some (jS ea (.ref D) d)) (hd:∀ dx,d=some dx->∃ o,H dx=some o):∃ ox od,InstAt h ea ox D od:=by
 obtain ⟨⟨oe,vs,g,hc,hdi,hda⟩,_⟩:=hok ea _ e
 have no:notCls oe=true:=by
   obtain ⟨c,di,da,sl⟩:=oe
   cases hda
   rfl
 cases d with
 | none=>exact ⟨oe,none,g,hc,no,by rw [hdi]; trivial⟩
 | some dx=>
   obtain ⟨o,z⟩:=hd dx rfl
   obtain ⟨ob,g2⟩:=(hok dx o z).get
   exact ⟨oe,some ob,g,hc,no,by rw [hdi]; exact g2⟩
theorem dJP {X:Cx}:CallR X (.builtin "isinstance") (cQG X.K):=by
 intro pins s σ H xs us Q I r h
 obtain ⟨ea,D,d,c,b,rfl,he,hd,Z,hc,q⟩:=h
 obtain ⟨u,u2,rfl,ru,rc⟩:=pJ r
 cases ru
 have hI:=bXS I.hok he hd
 rcases hc with ⟨cv,h1,h2⟩ | ⟨tp,cs,cv,rfl,h1,h2,h3⟩
 · rw [xZ h1 rc]
   exact kia_one (yB Z) I.kIn hI h2 (λz=>nomatch z) λtk=>⟨.bl b,H,I.tok _,rfl,q⟩
 · cases rc
   obtain ⟨_,its,rv,o,g,hcl,n,hda⟩:=I.hok tp _ h1
   obtain rfl:=sM h2 rv
   obtain ⟨oc,od,oda,osl⟩:=o
   obtain rfl:oc=.type "tuple" := hcl
   obtain rfl:oda=.seq its.toArray n:=hda
   exact kia_tup (yB Z) I.kIn hI g h3 (λz=>nomatch z) λtk=>⟨.bl b,H,I.tok _,rfl,q⟩
theorem yV {X:Cx} {K:PySem.W.Frag} (h:X.K=K):CallR X (.builtin "isinstance") (cQG K):=by
 subst h
 exact dJP
section
variable {K:PySem.W.Frag} {H:Hp} {Q:VK} {ea D tp:Addr} {c:V} {cs:List V} {cv:Value} {cvs:List Value} {b:Bool}
theorem bJ6 {C:Addr} {E:XK} {ta:TA} {D:Ends} {σ:St} (h:ta σ H λvs H1=>vs.length<=sizeLine/\E (.ref C) none H1):bQ2 C E ta D σ H:=h
theorem bJZ {sp:Sp} {Es:St->XK} {t:TA} {σ:St} (h:t σ H λvs H1=>sp vs H1 Q (Es σ)):aQI sp Es t σ H Q:=h
end
def oE (P:Program) (w:World) (K:PySem.W.Frag) (mg:Str->Option Value) (base:Heap) (k:Nat) (x:Str) (ps:List Str) (sp:Sp):Prop :=
 ∃ (f:Addr) (fd:FuncData),FnOk P w K mg base (CXr P w) k f fd ps sp/\mg x=some (.ref f)/\PySem.W.keepIn K (.ref f)=true/\Binds K fd ps []
section
variable {X:Cx} {k k':Nat} {ps:List Str} {sp:Sp} {x:Str} {p pos:Pos} {e:Expr} {es:List Expr} {t:TA} {E:XK} {Es:St->XK}
theorem kJ (c:oE X.prog X.w X.K X.mg X.base k x ps sp) (hx:nF (CXr X.prog X.w) X E) (hr:Room k' X.A) (hk:k<=k') (hg:Gl X x)
   (ha:PA X (e :: es) t) (hdb:(x == ("__debug__" : Str))=false:=by decide) (he:starEach (e :: es) X.env=(false,eval e X.env) :: starEach es X.env:=by rfl) (hpl:(backTo pos (starEach es X.env)).any (·.1)=false:=by rfl) :
   PE X (.Call (.Name x p) (e :: es) [] pos) (aQ1 sp [] E t):=by
 obtain ⟨f,fd,F,hm,hk',hb⟩:=c
 exact aX4 F (hr.mono hk) hg hm hk' hb .nil hx ha hdb he hpl
theorem tF (c:oE X.prog X.w X.K X.mg X.base k x ps sp) (hx:bXV (CXr X.prog X.w) X Es) (hr:Room k' X.A) (hk:k<=k') (hg:Gl X x)
   (ha:PA X (e :: es) t) (hdb:(x == ("__debug__" : Str))=false:=by decide) (he:starEach (e :: es) X.env=(false,eval e X.env) :: starEach es X.env:=by rfl) (hpl:(backTo pos (starEach es X.env)).any (·.1)=false:=by rfl) :
   PE X (.Call (.Name x p) (e :: es) [] pos) (aQI sp Es t):=by
 obtain ⟨f,fd,F,hm,hk',hb⟩:=c
 exact bJG F (hr.mono hk) hg hm hk' hb hx ha hdb he hpl
theorem sN:nF (CXr X.prog X.w) X E0:=λ_ _ _ _ _ _ _ h=>by
 obtain ⟨_,_,_,_,_,_,_,_,_,_,_,z⟩:=h
 exact z.elim
theorem PS.nox {st:Stmt} {t:TS} (h:PS X.nox st t):PS X st t:=λpins s σ H D I hw=>
 Cb (h pins s σ H D (I.wish _) hw) (λ_ _ q=>q.unwish) λ_ _ z=>False.elim z
end
section
variable {P:Program} {w:World} {K:PySem.W.Frag} {mg:Str->Option Value} {base:Heap}
theorem Fun.okX {x qual:Str} {st:Stmt} {f:Addr} {fd:FuncData} {N ps:List Str} {k:Nat} {sp:Sp} (F:Fun K x qual st f fd) (S:FnScope N ps (aG st)) (len:∀ vs H Q E,sp vs H Q E->vs.length=ps.length)
   (hbody:∀ (cdv:Value) (A:Around) (outer:List Env) (s:Shared) (H:Hp) (vs:List V) (Q:VK) (E:XK),Room k (A.deeper (envOfC qual (aG st) s.heap.objs.size f cdv))->sp vs H Q E->
     ∃ t,PSs (gF (CXr P w) P w K mg base N qual (aG st) f cdv A outer s H E) (aR st) t/\t { nx:=λ_ H'=>Q .non H',rt:=Q } (jL N vs) H):FnOk P w K mg base (CXr P w) (k + 1) f fd ps sp:=by
 obtain ⟨oc,od,kV,doc,pm,an,cdv,ct,osl,rfl,lk,hcd⟩:=F.ex
 exact cZ7 lk hcd S len λA outer s H vs Q E hr hsp=>hbody cdv A outer s H vs Q E hr hsp
end
theorem eM {X:Cx} {x:Str} {C:Addr} {pos:Pos} (hg:Gl X x) (h:X.mg x=some (.ref C)) (hd:(x == ("__debug__" : Str))=false:=by decide):PE X (.Name x pos) (tC (.ref C)):=vB hg h rfl hd
theorem rC:bootBuiltins "ValueError"=some (.type "ValueError"):=by decide +kernel
theorem eQA {K:PySem.W.Frag} {C:Addr} {i:Nat} {mk:(Value->Option Addr->St->Hp->Prop)->TS} {ts:TS} {D:Ends} {σ:St} {H:Hp}
   (h:mk (λcls d σ1 H1=>PySem.W.exmOne K cls (.ref C)=some true/\∀ ea,H1 ea=none->ts { nx:=λσ2 H2=>D.nx (σ2.set i none) H2,rt:=D.rt,bk:=λσ2 H2=>D.bk (σ2.set i none) H2,ct:=λσ2 H2=>D.ct (σ2.set i none) H2 } (σ1.set i (some (.ref ea))) (upd H1 ea (jS ea cls d))) D σ H):dZP K C i mk ts D σ H:=h
end L2
set_option maxHeartbeats 4000000
namespace L2
open PySem PySem.Spec PyProof.Rows
def Itz (K:PySem.W.Frag) (a b:Addr):It :=
 ⟨λi H=>∃ xs ys x y,SqL K H a xs/\SqL K H b ys/\xs[i]?=some x/\ys[i]?=some y,λi H v H'=>∃ p x y,H p=none/\v=.ref p/\H'=upd H p (.tup [x,y])/\(∀ xs,SqL K H a xs->xs[i]?=some x)/\(∀ ys,SqL K H b ys->ys[i]?=some y),
   λi H=>∃ xs ys,SqL K H a xs/\SqL K H b ys/\(xs.length<=i\/ys.length<=i)⟩
structure ZipOf (z TI TO i1 i2:Addr):Prop where
 d1:TI≠z
 d2:TO≠z
 d3:i1≠z
 d4:i2≠z
 d5:TI≠TO
 d6:TI≠i1
 d7:TI≠i2
 d8:TO≠i1
 d9:TO≠i2
 d0:i1≠i2
theorem jO {h:Heap} {a b:Addr} {o u:Obj} (ha:h.get? a=some o) (hb:h.get? b=some u) {S T:String} (hs:o.cls=.type S) (ht:u.cls=.type T) (n:S≠T):a≠b:=λz=>by
 subst z
 rw [ha] at hb; cases hb
 rw [hs] at ht; injection ht with ht; exact n ht
theorem rT {h:Heap} {z TI TO i1 i2 a b:Addr} {f0 p q:Value} {k1 k2:Nat} {xs ys:Array Value} (D:ZipOf z TI TO i1 i2) (hz:IsZip h z TI TO f0) (hO:IsPair h TO p q) (h1:h.IsListIter i1 a k1) (h2:h.IsListIter i2 b k2) (ha:h.IsList a xs) (hb:h.IsList b ys):ZipApart z TI TO i1 i2 a b:=by
 obtain ⟨o1,g1,c1,_⟩:=h1
 obtain ⟨o2,g2,c2,_⟩:=h2
 obtain ⟨oa,ga,ca,_⟩:=ha
 obtain ⟨ob,gb,cb,_⟩:=hb
 exact ⟨D.d1,D.d2,D.d3,D.d4,D.d5,D.d6,D.d7,D.d8,D.d9,D.d0,jO ga hz ca rfl (by decide),jO ga hO ca rfl (by decide),jO ga g1 ca c1 (by decide),jO ga g2 ca c2 (by decide),jO gb hz cb rfl (by decide),jO gb hO cb rfl (by decide),jO gb g1 cb c1 (by decide),jO gb g2 cb c2 (by decide)⟩
theorem bQJ {P:Program} {w:World} {K:PySem.W.Frag} {elts:List Expr} {x1:Nat} {tp:Pos} (a b z TI TO i1 i2:Addr) (D:ZipOf z TI TO i1 i2) :
   Turn P w K (.Tuple elts x1 tp) (Itz K a b) [z,TI,TO,i1,i2] z (λi h=>IsZip h z TI TO .none/\IsPair h TI (.ref i1) (.ref i2)/\(∃ p q,IsPair h TO p q)/\h.IsListIter i1 a i/\h.IsListIter i2 b i) where
 mem:=by simp
 obj:=λi h st c hc=>by
   obtain ⟨hz,hI,⟨p,q,hO⟩,⟨o1,g1,_,e1⟩,o2,g2,_,e2⟩:=st
   simp only [List.mem_cons,List.not_mem_nil,or_false] at hc
   rcases hc with z | z | z | z | z <;> subst z
   · exact ⟨_,hz,λv z=>by cases z⟩
   · exact ⟨_,hI,λv z=>by cases z⟩
   · exact ⟨_,hO,λv z=>by cases z⟩
   · exact ⟨o1,g1,λv z=>by rw [e1] at z; cases z⟩
   · exact ⟨o2,g2,λv z=>by rw [e2] at z; cases z⟩
 keep:=λi h h' st kk=>by
   obtain ⟨hz,hI,⟨p,q,hO⟩,g1,g2⟩:=st
   exact ⟨kk z (by simp) _ hz,kk TI (by simp) _ hI,⟨p,q,kk TO (by simp) _ hO⟩,g1.at λo e=>kk i1 (by simp) o e,g2.at λo e=>kk i2 (by simp) o e⟩
 item:=by
   intro X hP hw hK hc i pins s σ H E I hf st hg
   subst hP hw hK
   obtain ⟨xs,ys,x,y,qa,qb,hx,hy⟩:=hg
   obtain ⟨us,ra,pa,_⟩:=I.list qa
   obtain ⟨vs,rb,pb,_⟩:=I.list qb
   obtain ⟨u,hu,ru⟩:=ra.get hx
   obtain ⟨v,hv,rv⟩:=rb.get hy
   obtain ⟨hz,hI,⟨p,q,hO⟩,g1,g2⟩:=st
   have D2:=rT D hz hO g1 g2 pa.isList pb.isList
   have fr:∀ c o,s.heap.get? c=some o->s.heap.objs.size≠c:=λc o e=>Gd (Ao e)
   refine wpAny_pyNext_zip_item D2 hz hI hO g1 g2 pa.isList pb.isList (x:=u) (y:=v) (by simpa using hu) (by simpa using hv) λh1 a1 a2 a3 a4 a5 a6 kk=>?_
   refine ⟨_,rfl,wpAny_letOwnedTupleGo_zip a1 λh2 z2 sb=>?_⟩
   have up:∀ c o,c≠z->h1.get? c=some o->h2.get? c=some o:=λc o n e=>(sb.2 c n).trans e
   have I2:Inv X pins σ (upd H s.heap.objs.size (.tup [x,y])) { s with heap:=h2 }:=by
     refine I.turnLaid (t':=s.toks) (ch:=[z,TI,TO,i1,i2]) hf (λc o n e=>?_) (Ah _) ⟨bQ (by show 2<=_; omega),[u,v],.cons ru (.cons rv .nil),_,up _ _ (fr z _ hz) a5,rfl,_,rfl⟩
     simp only [List.mem_cons,List.not_mem_nil,or_false,not_or] at n
     exact up c o n.1 (kk c o n.1 n.2.2.1 n.2.2.2.1 n.2.2.2.2 e)
   refine ⟨.ref s.heap.objs.size,_,I2,rfl,⟨_,x,y,I.hok.fresh (Ah _),rfl,rfl,λzs hq=>by rw [I.list_inj hq qa]; exact hx,λzs hq=>by rw [I.list_inj hq qb]; exact hy⟩,
     ⟨z2,up _ _ D.d1 (kk _ _ D.d1 D.d5 D.d6 D.d7 hI),⟨_,_,up _ _ D.d2 a2⟩,a3.at λo e=>up _ o D.d3 e,a4.at λo e=>up _ o D.d4 e⟩,λc hc=>?_⟩
   have hn:=(hf c hc).1
   rw [aK]
   · exact hn
   · obtain ⟨o1,e1,_⟩:=g1
     obtain ⟨o2,e2,_⟩:=g2
     simp only [List.mem_cons,List.not_mem_nil,or_false] at hc
     rcases hc with z | z | z | z | z <;> subst z
     · exact (fr _ _ hz).symm
     · exact (fr _ _ hI).symm
     · exact (fr _ _ hO).symm
     · exact (fr _ _ e1).symm
     · exact (fr _ _ e2).symm
 done:=by
   intro X hP hw hK hc i pins s σ H E I hf st hg
   subst hP hw hK
   obtain ⟨xs,ys,qa,qb,hl⟩:=hg
   obtain ⟨us,ra,pa,_⟩:=I.list qa
   obtain ⟨vs,rb,pb,_⟩:=I.list qb
   have e1:=ra.length
   have e2:=rb.length
   obtain ⟨hz,hI,⟨p,q,hO⟩,g1,g2⟩:=st
   refine wpAny_pyNext_zip_end (I.ok.hd hc) (rT D hz hO g1 g2 pa.isList pb.isList) hz hI hO g1 g2 pa.isList pb.isList ?_ λh' kk=>⟨rfl,?_⟩
   · rcases hl with z | z
     · exact .inl (by simp; omega)
     · exact .inr (by simp; omega)
   · refine I.turnAll (t':=s.toks) (ch:=[z,TI,TO,i1,i2]) hf λc o n e=>?_
     simp only [List.mem_cons,List.not_mem_nil,or_false,not_or] at n
     exact kk c o n.1 n.2.2.1 n.2.2.2.1 n.2.2.2.2 e
 self:=λ_ _ _ _ _ st h=>wpAny_pyIter_zip st.1 h
theorem bJM:bootBuiltins "zip"=some (.type "zip"):=by decide +kernel
section
variable {X:Cx} {l1 l2:Expr} {ta:TA} {elts:List Expr} {x1:Nat} {tp p pos:Pos}
def bJQ (R:Addr->Addr->Hp->Prop):List V->Hp->Prop:=λvs H=>match vs with | [.ref i,.ref j]=>R i j H | _=>False
theorem cQ2 {R:Addr->Addr->Hp->Prop} {vs:List V} {H:Hp} (q:bJQ R vs H):∃ i j,vs=[.ref i,.ref j]/\R i j H:=by
 unfold bJQ at q
 split at q
 · exact ⟨_,_,rfl,q⟩
 · exact q.elim
def dJN (K:PySem.W.Frag) (ta:TA):TI:=λσ H R=>ta σ H (bJQ λa b H1=>onL (rdL H1 a) (onL (rdL H1 b) (R (Itz K a b) H1)))
theorem dQL (hg:Gl X "zip") (hm:X.mg "zip"=none) (ha:PA X [l1,l2] ta) (hs:starEach [l1,l2] X.env=[(false,eval l1 X.env),(false,eval l2 X.env)]:=by rfl) (hs2:starEach [l2] X.env=[(false,eval l2 X.env)]:=by rfl) :
   PI X (.Tuple elts x1 tp) (.Call (.Name "zip" p) [l1,l2] [] pos) (dJN X.K ta):=by
 intro pins s σ H R I h
 refine Call_ (iX I hg hm bJM (Cr (thn (ha pos pins s σ H _ I h) λus s1 ⟨vs,H1,I1,r1,q1⟩=>?_) (by rw [hs,hs2]) (by rw [hs2]; rfl)))
 obtain ⟨a,b,rfl,q⟩:=cQ2 q1
 obtain ⟨u,u2,rfl,ru,ru2⟩:=pJ r1
 cases ru
 cases ru2
 unfold onL at q
 split at q
 · rename_i xs ex
   split at q
   · rename_i ys ey
     obtain ⟨us,ra,pa,_⟩:=I1.list (aU ex)
     obtain ⟨vs,rb,pb,_⟩:=I1.list (aU ey)
     refine call_zip_2 pa.isList pb.isList λh' hz hI hO g1 g2 hsz hk=>?_
     refine wpAny_pyIter_zip (s:={ s1 with heap:=h' }) hz ⟨_,[s1.heap.objs.size + 4,s1.heap.objs.size + 2,s1.heap.objs.size + 3,s1.heap.objs.size,s1.heap.objs.size + 1],_,_,H1,rfl,I1.kept (t':=s1.toks) hk,
       bQJ a b _ _ _ _ _ ⟨by simp,by simp,by simp,by simp,by simp,by simp,by simp,by simp,by simp,by simp⟩,⟨hz,hI,⟨_,_,hO⟩,g1,g2⟩,λc hc=>?_,q⟩
     have z:s1.heap.objs.size<=c:=by
       simp only [List.mem_cons,List.not_mem_nil,or_false] at hc
       rcases hc with z | z | z | z | z <;> (rw [z]; first | exact Ah _ | exact Nat.le_add_right _ _)
     exact I1.fpOk z (I1.hok.fresh z)
   · exact q.elim
 · exact q.elim
end
section
variable {K:PySem.W.Frag} {a b:Addr} {xs ys:List V} {g:TG} {tb:TS} {D:Ends} {σ:St} {H:Hp}
theorem cJ5 (Pv:Nat->St->Hp->Prop) (h0:Pv 0 σ H) (hl:∀ i σ H,i<=xs.length->i<=ys.length->Pv i σ H->rdL H a=some xs/\rdL H b=some ys)
   (hs:∀ i x y σ H p,xs[i]?=some x->ys[i]?=some y->Pv i σ H->H p=none->g (.ref p) σ (upd H p (.tup [x,y])) λσ2 H2=>tb { D with nx:=Pv (i + 1),ct:=Pv (i + 1),bk:=D.nx } σ2 H2)
   (hd:∀ σ H,Pv (min xs.length ys.length) σ H->D.nx σ H):vC (Itz K a b) g tb D σ H:=by
 refine ⟨λi m σ H=>m=min xs.length ys.length - i/\i<=min xs.length ys.length/\Pv i σ H,⟨min xs.length ys.length,by simp,Nat.zero_le _,h0⟩,?_⟩
 rintro i m σ H ⟨rfl,hi,p⟩
 obtain ⟨hr1,hr2⟩:=hl i σ H (by omega) (by omega) p
 by_cases hlt:i < min xs.length ys.length
 · refine .inr ⟨⟨xs,ys,xs[i]'(by omega),ys[i]'(by omega),aU hr1,aU hr2,Aa _,Aa _⟩,Pv (i + 1),λσ' H' p'=>⟨min xs.length ys.length - (i + 1),by omega,rfl,hlt,p'⟩,λx H' y=>?_⟩
   obtain ⟨q,x1,y1,hq,rfl,rfl,hx,hy⟩:=y
   exact hs i x1 y1 σ H q (hx xs (aU hr1)) (hy ys (aU hr2)) p hq
 · have e:i=min xs.length ys.length:=by omega
   subst e
   exact .inl ⟨⟨xs,ys,aU hr1,aU hr2,by omega⟩,hd σ H p⟩
theorem dQ8 {ta:TA} {R:It->Hp->Prop} (h:ta σ H (bJQ λa b H1=>onL (rdL H1 a) (onL (rdL H1 b) (R (Itz K a b) H1)))):dJN K ta σ H R:=h
theorem dXO {R:Addr->Addr->Hp->Prop} (h:R a b H):bJQ R [.ref a,.ref b] H:=h
end
end L2
set_option maxHeartbeats 4000000
namespace L2
open PySem PySem.Spec PyProof.Rows
section
variable {X:Cx} {o e:Expr} {es:List Expr} {to:TE} {t:TA} {name:Str} {apos cpos:Pos} {T id:String} {r:V->List V->Hp->VK->Prop}
def cXA:V->List V->Hp->VK->Prop:=λx vs H Q=>match x,vs with
 | .ref l,[.ref b]=>(match iV H l,iV H b with | some xs,some zs=>xs.length + zs.length<=sizeLine/\Q .non (upd H l (.lst (xs ++ zs))) | _,_=>False)
 | _,_=>False
theorem vM:MtR X "list.extend" cXA:=MtR.imp (r:=aX5) aJL λ_ _ _ _ q=>by
 unfold cXA at q
 split at q
 · split at q
   · exact ⟨_,_,_,_,rfl,rfl,kK (by assumption),kK (by assumption),q.1,q.2⟩
   · exact q.elim
 · exact q.elim
end
section
variable {σ:St} {H:Hp} {Q:VK} {l b:Addr} {xs zs:List V} {y:V} {i:Int} {k:Nat} {to:TE} {T:String} {r:V->List V->Hp->VK->Prop}
theorem cJI (e:iV H l=some xs) (e':iV H b=some zs) (c:xs.length + zs.length<=sizeLine) (h:Q .non (upd H l (.lst (xs ++ zs)))):cXA (.ref l) [.ref b] H Q:=by unfold cXA; simp only [e,e']; exact ⟨c,h⟩
end
end L2
set_option maxHeartbeats 4000000
namespace L2
open PySem PySem.Spec PyProof.Rows
theorem aX9 {H:Hp} {p:Addr} {xs:List V} (h:H p=some (.lst xs)):tyN (.ref p) H=some "list" := by unfold tyN; simp only [h]
theorem zE {t u:TS} {D:Ends} {σ:St} {H:Hp} (Pj:St->Hp->Prop) (hj:∀ σ' H',Pj σ' H'->u D σ' H') (h:∀ N:St->Hp->Prop,(∀ σ' H',Pj σ' H'->N σ' H')->t { D with nx:=N } σ H):dXJ t u D σ H:=h (u D) hj
theorem none_of {H H':Hp} {r:Addr} (s:Same H H') (h:H' r=none):H r=none:=by
 cases e:H r with
 | none=>rfl
 | some o=>rw [s _ _ e] at h; cases h
theorem aW {H H':Hp} {p:Addr} {o:HO} (hp:H p=none) (s:Same H H'):Same H (upd H' p o):=λb u q=>by rw [aK (bJ q hp)]; exact s b u q
section
variable {g:TG} {tests:TT} {te:TE} {σ0:St} {Q:VK} {H1:Hp}
theorem gA {J:It} {n:Nat} (R:Addr->Nat->List V->Hp->Prop) (hl:n < sizeLine) (h0:∀ D,H1 D=none->R D 0 [] (upd H1 D (.lst [])))
   (hgo:∀ D i ys Hc,H1 D=none->R D i ys Hc->i < n->J.go i Hc) (hst:∀ D ys Hc,H1 D=none->R D n ys Hc->J.stop n Hc)
   (hs:∀ D i ys Hc x H' (A:VK) (B:Hp->Prop),H1 D=none->i < n->R D i ys Hc->Hc D=some (.lst ys)->J.yld i Hc x H'->
     (∀ y H4,H4 D=some (.lst ys)->R D (i + 1) (ys ++ [y]) (upd H4 D (.lst (ys ++ [y])))->A y H4)->(∀ H3,H3 D=some (.lst ys)->R D (i + 1) ys H3->B H3)->
     g x σ0 H' λσ2 H2=>Wk σ0 σ2/\tests σ2 H2 λb H3=>if b=true then te σ2 H3 A else B H3)
   (fin:∀ D ys Hc,H1 D=none->R D n ys Hc->Hc D=some (.lst ys)->ys.length<=n->Q (.ref D) Hc):dZ g tests te σ0 Q J H1:=by
 intro D hD
 refine ⟨λi m Hc=>m=n - i/\i<=n/\∃ ys,ys.length<=i/\Hc D=some (.lst ys)/\R D i ys Hc,⟨n,by simp,Nat.zero_le _,[],Nat.le_refl _,aD,h0 D hD⟩,?_⟩
 rintro i m Hc ⟨rfl,hi,ys,hy,hDc,r⟩
 by_cases hlt:i < n
 · refine .inr ⟨hgo D i ys Hc hD r hlt,λx H' y=>hs D i ys Hc x H' _ _ hD hlt r hDc y (λz H4 e r4=>?_) (λH3 e r3=>?_)⟩
   · exact ⟨ys,e,by omega,n - (i + 1),by omega,rfl,hlt,ys ++ [z],by rw [Aj]; show ys.length + 1<=_; omega,aD,r4⟩
   · exact ⟨n - (i + 1),by omega,rfl,hlt,ys,by omega,e,r3⟩
 · have e:i=n:=by omega
   subst e
   exact .inl ⟨hst D ys Hc hD r,fin D ys Hc hD r hDc hy⟩
def Tups (H1 Hc:Hp) (ps:List Addr) (fs:List (List V)):Prop:=ps.length=fs.length/\∀ (j:Nat) p t,ps[j]?=some p->fs[j]?=some t->H1 p=none/\Hc p=some (.tup t)
theorem Tups.keep {H1 Hc Hd:Hp} {ps:List Addr} {fs:List (List V)} (t:Tups H1 Hc ps fs) (s:Same Hc Hd):Tups H1 Hd ps fs:=⟨t.1,λj p u hp hu=>⟨(t.2 j p u hp hu).1,s _ _ (t.2 j p u hp hu).2⟩⟩
theorem Tups.older {H0 H1 Hc:Hp} {ps:List Addr} {fs:List (List V)} (t:Tups H1 Hc ps fs) (s:Same H0 H1):Tups H0 Hc ps fs:=⟨t.1,λj p u hp hu=>⟨none_of s (t.2 j p u hp hu).1,(t.2 j p u hp hu).2⟩⟩
theorem Tups.put {H1 Hc:Hp} {ps:List Addr} {fs:List (List V)} {D:Addr} {ys zs:List V} (t:Tups H1 Hc ps fs) (h:Hc D=some (.lst ys)):Tups H1 (upd Hc D (.lst zs)) ps fs:=⟨t.1,λj p u hp hu=>by
 obtain ⟨a,b⟩:=t.2 j p u hp hu
 refine ⟨a,?_⟩
 rw [aK λz=>by rw [z,h] at b; cases b]
 exact b⟩
theorem Tups.app {H1 Hc:Hp} {ps qs:List Addr} {fs gs:List (List V)} (t:Tups H1 Hc ps fs) (u:Tups H1 Hc qs gs):Tups H1 Hc (ps ++ qs) (fs ++ gs):=by
 refine ⟨by rw [Aj,Aj,t.1,u.1],λj p v hp hv=>?_⟩
 by_cases h:j < ps.length
 · rw [As h] at hp
   rw [As (by rw [<-t.1]; exact h)] at hv
   exact t.2 j p v hp hv
 · rw [Ax (by omega)] at hp
   rw [Ax (by rw [<-t.1]; omega),<-t.1] at hv
   exact u.2 _ p v hp hv
theorem Tups.nil {H1 Hc:Hp}:Tups H1 Hc [] []:=⟨rfl,λj p u hp=>by cases hp⟩
theorem Tups.one {H1 Hc:Hp} {p:Addr} {t:List V} (a:H1 p=none) (b:Hc p=some (.tup t)):Tups H1 Hc [p] [t]:=⟨rfl,λj q u hq hu=>by
 cases j with
 | zero=>cases hq; cases hu; exact ⟨a,b⟩
 | succ j=>cases hq⟩
theorem bQI {n:Nat} {lo:Int} (f:Nat->List V) (hl:n < sizeLine)
   (hs:∀ (i:Nat) Hc (A:VK) (B:Hp->Prop),i < n->Same H1 Hc->(∀ p Hd,Hc p=none->Same Hc Hd->Hd p=some (.tup (f i))->A (.ref p) Hd)->
     g (.int (lo + i)) σ0 Hc λσ2 H2=>Wk σ0 σ2/\tests σ2 H2 λb H3=>if b=true then te σ2 H3 A else B H3)
   (fin:∀ D Hd ps,H1 D=none->Same H1 Hd->Hd D=some (.lst (ps.map V.ref))->ps.length=n->Tups H1 Hd ps ((List.range n).map f)->Q (.ref D) Hd):dZ g tests te σ0 Q (Itr lo n) H1:=by
 refine gA (n:=n) (λD i ys Hc=>Same H1 Hc/\∃ ps,ys=ps.map V.ref/\ps.length=i/\Tups H1 Hc ps ((List.range i).map f)) hl (λD hD=>⟨aE hD _,[],rfl,rfl,.nil⟩) (λD i ys Hc _ r h=>h) (λD ys Hc _ r=>Ah n) ?_ ?_
 · rintro D i ys Hc x H' A B hD hi ⟨sm,ps,rfl,hn,tp⟩ hDc ⟨rfl,rfl⟩ ha hb
   refine hs i H' A B hi sm (λp Hd hp sd hd=>?_)
   refine ha _ _ (sd _ _ hDc) ⟨aW hD (sm.trans sd),ps ++ [p],by rw [Al]; rfl,by rw [Aj,hn]; rfl,?_⟩
   rw [Cf,Al]
   exact ((tp.keep sd).app (.one (none_of sm hp) hd)).put (sd _ _ hDc)
 · rintro D ys Hc hD ⟨sm,ps,rfl,hn,tp⟩ hDc _
   exact fin D Hc ps hD sm hDc hn tp
end
end L2
set_option maxHeartbeats 4000000
namespace L2
open PySem PySem.Spec PyProof.Rows
def bZT (lo c:Int) (n:Nat):It:=⟨λi _=>i < n,λi H x H'=>H'=H/\x=.int (lo + (i:Int) * c),λi _=>n<=i⟩
theorem xN {P:Program} {w:World} {K:PySem.W.Frag} {tg:Expr} (it:Addr) (lo c:Int) (n:Nat):Turn P w K tg (bZT lo c n) [it] it (λi h=>IsRangeIter h it (lo + (i:Nat) * c) ((n:Int) - (i:Nat)) c) where
 mem:=by simp
 obj:=λi h st b hb=>by
   have e:b=it:=by simpa using hb
   subst e
   exact ⟨_,st,λv z=>by
     have z':Data.fields _=Data.cell v:=z
     cases z'⟩
 keep:=λi h h' st k=>k it (by simp) _ st
 item:=by
   intro X hP hw hK hc i pins s σ H E I hf st hg
   subst hP hw hK
   obtain ⟨f0,f1,f2,f3,f4,f5⟩:=hf it (by simp)
   have W:=Walks.range (prog:=X.prog) (w:=X.w) (I.ok.hd hc) it lo c n
   refine W.item i s _ _ hg st λv h' tk hv st' kk=>?_
   obtain ⟨t,rfl⟩:=hv
   have I1:Inv X pins σ H { s with heap:=h',toks:=tk }:=I.turned (λb o hb e=>kk b o (by simpa using hb) e) f0 f1 f3 f4 f5
   exact ⟨_,rfl,pW (s:={ s with heap:=h',toks:=tk }) (n := "range_iterator") st' rfl rfl (by decide) ⟨.int (lo + i * c),H,I1,⟨t,rfl⟩,⟨rfl,rfl⟩,st',λb hb=>(hf b hb).1⟩⟩
 done:=by
   intro X hP hw hK hc i pins s σ H E I hf st hg
   subst hP hw hK
   obtain ⟨f0,f1,f2,f3,f4,f5⟩:=hf it (by simp)
   exact wpAny_pyNext_range_end (I.ok.hd hc) st (by have:n<=i:=hg; omega) λh' eb=>⟨rfl,I.turned (t':=s.toks) (λb o hb e=>eb b o hb e) f0 f1 f3 f4 f5⟩
 self:=λ_ _ _ _ _ st h=>wpAny_pyIter_rangeiter st h
def rA (lo hi c:Int):Nat:=(if lo < hi then (hi - lo - 1) / c + 1 else 0).toNat
theorem cX0 {lo hi c:Int} {i:Nat} (hc:0 < c) (h:i < rA lo hi c):lo + (i:Int) * c < hi:=by
 unfold rA at h
 by_cases hl:lo < hi
 · rw [if_pos hl] at h
   have h0:0<=(hi - lo - 1) / c:=Int.ediv_nonneg (by omega) (by omega)
   have h1:(i:Int)<=(hi - lo - 1) / c:=by omega
   have h2:(i:Int) * c<=(hi - lo - 1) / c * c:=Int.mul_le_mul_of_nonneg_right h1 (by omega)
   have h3:(hi - lo - 1) / c * c<=hi - lo - 1:=Int.ediv_mul_le _ (by omega)
   omega
 · rw [if_neg hl] at h
   exact absurd h (by simp)
theorem eQF {lo hi c:Int} (hc:0 < c):Builtin.Range.rangeSize lo hi c=((rA lo hi c:Nat):Int):=by
 unfold Builtin.Range.rangeSize rA
 rw [if_pos hc]
 by_cases hl:lo < hi
 · rw [if_pos hl]
   have h0:0<=(hi - lo - 1) / c:=Int.ediv_nonneg (by omega) (by omega)
   omega
 · rw [if_neg hl]
   rfl
section
variable {X:Cx} {tg a b c:Expr} {p pos:Pos}
def bXI (R:Int->Int->Int->Hp->Prop):List V->Hp->Prop:=λvs H=>match vs with | [.int i,.int j,.int k]=>R i j k H | _=>False
theorem cQ1 {R:Int->Int->Int->Hp->Prop} {vs:List V} {H:Hp} (q:bXI R vs H):∃ i j k,vs=[.int i,.int j,.int k]/\R i j k H:=by
 unfold bXI at q
 split at q
 · exact ⟨_,_,_,rfl,q⟩
 · exact q.elim
def cZS (ta:TA):TI:=λσ H R=>ta σ H (bXI λi j k H1=>(-1000000<=i/\i<=1000000/\-1000000<=j/\j<=1000000/\0 < k/\k<=1000)/\R (bZT i k (rA i j k)) H1)
theorem cJU {lo hi c:Int} (h1:-1000000<=lo) (h2:lo<=1000000) (h3:-1000000<=hi) (h4:hi<=1000000) (h5:0 < c) (h6:c<=1000):Builtin.Range.small lo hi c=true:=by
 have hs:Builtin.Range.rangeSize lo hi c=(if lo < hi then (hi - lo - 1) / c + 1 else 0):=by unfold Builtin.Range.rangeSize; rw [if_pos h5]
 unfold Builtin.Range.small
 rw [hs]
 have hd:(hi - lo - 1) / c<=(if lo < hi then hi - lo - 1 else (hi - lo - 1) / c):=by
   split
   · exact Int.ediv_le_self _ (by omega)
   · exact Fn _
 simp only [Builtin.Range.rangeFitsLong,Bool.and_eq_true,Bool.or_eq_true,decide_eq_true_eq,beq_iff_eq]
 split <;> rename_i hl
 · rw [if_pos hl] at hd
   have hd0:0<=(hi - lo - 1) / c:=Int.ediv_nonneg (by omega) (by omega)
   have hm:((hi - lo - 1) / c) * c<=hi - lo - 1:=Int.ediv_mul_le _ (by omega)
   have hm2:((hi - lo - 1) / c + 1) * c<=hi - lo - 1 + c:=by rw [Int.add_mul,Int.one_mul]; omega
   have hm3:0<=((hi - lo - 1) / c + 1) * c:=Int.mul_nonneg (by omega) (by omega)
   refine ⟨by omega,.inr ?_⟩
   rw [Ap (by omega),Ap (by omega)]
   rfl
 · exact ⟨by omega,.inl rfl⟩
theorem aZY {pins:List (Addr × Obj)} {σ:St} {H:Hp} {s:Shared} {R:It->Hp->Prop} {E:Value->Shared->Prop} {lo hi c:Int} {t u v:Tok} {tk:Nat} (I:Inv X pins σ H s) (h1:-1000000<=lo) (h2:lo<=1000000) (h3:-1000000<=hi) (h4:hi<=1000000) (h5:0 < c) (h6:c<=1000)
   (q:R (bZT lo c (rA lo hi c)) H):wpAny (model X.prog X.w) X.A (pyIter (.ref s.heap.objs.size)) (PIE X pins σ tg R) E { s with heap:=s.heap.push { cls:=.type "range",data:=.fields #[.int lo t,.int hi u,.int c v] },toks:=tk }:=by
 refine wpAny_pyIter_range (IsRange.new ..) (cJU h1 h2 h3 h4 h5 h6) ?_
 have I1:Inv X pins σ H { s with heap:=s.heap.push { cls:=.type "range",data:=.fields #[.int lo t,.int hi u,.int c v] },toks:=tk }:=I.kept λb o e=>Af _ e
 refine ⟨(s.heap.push { cls:=.type "range",data:=.fields #[.int lo t,.int hi u,.int c v] }).objs.size,[(s.heap.push { cls:=.type "range",data:=.fields #[.int lo t,.int hi u,.int c v] }).objs.size],_,_,H,rfl,
   I1.kept (t':=tk) λb o e=>Af _ e,xN _ lo c (rA lo hi c),?_,λb hb=>?_,q⟩
 · have e1:lo + ((0:Nat):Int) * c=lo:=by simp
   have e2:((rA lo hi c:Nat):Int) - ((0:Nat):Int)=Builtin.Range.rangeSize lo hi c:=by rw [eQF h5]; simp
   show IsRangeIter _ _ (lo + ((0:Nat):Int) * c) (((rA lo hi c:Nat):Int) - ((0:Nat):Int)) c
   rw [e1,e2]
   exact Av _ rfl
 · have e:b=(s.heap.push { cls:=.type "range",data:=.fields #[.int lo t,.int hi u,.int c v] }).objs.size:=by simpa using hb
   subst e
   exact I1.fpOk (Ah _) (I1.hok.fresh (Ah _))
theorem aZK {ta:TA} (hg:Gl X "range") (hm:X.mg "range"=none) (ha:PA X [a,b,c] ta) (hs:starEach [a,b,c] X.env=[(false,eval a X.env),(false,eval b X.env),(false,eval c X.env)]:=by rfl) (hs2:starEach [b,c] X.env=[(false,eval b X.env),(false,eval c X.env)]:=by rfl) :
   PI X tg (.Call (.Name "range" p) [a,b,c] [] pos) (cZS ta):=by
 intro pins s σ H R I h
 refine Call_ (iX I hg hm boot_range (Cr (thn (ha pos pins s σ H _ I h) λus s1 ⟨vs,H1,I1,r1,q1⟩=>?_) (by rw [hs,hs2]) (by rw [hs2]; rfl)))
 obtain ⟨i,j,k,e,⟨b1,b2,b3,b4,b5,b6⟩,q⟩:=cQ1 q1
 subst e
 cases r1 with
 | cons r rr=>
   cases rr with
   | cons r' rr=>
     cases rr with
     | cons r'' rr=>
       cases rr
       obtain ⟨t,rfl⟩:=r
       obtain ⟨t',rfl⟩:=r'
       obtain ⟨t'',rfl⟩:=r''
       exact call_range_3 (by omega) (aZY I1 b1 b2 b3 b4 b5 b6 q) (Or.inl (PyProof.noPylong_small (by omega)))
end
section
variable {K:PySem.W.Frag} {c:Addr} {xs:List V} {lo st:Int} {n:Nat} {g:TG} {tb:TS} {D:Ends} {σ:St} {H:Hp} {tA:TA} {R:It->Hp->Prop} {i j k:Int}
theorem aZP (Pv:Nat->St->Hp->Prop) (h0:Pv 0 σ H)
   (hs:∀ i σ H,i < n->Pv i σ H->g (.int (lo + (i:Int) * st)) σ H λσ2 H2=>tb { D with nx:=Pv (i + 1),ct:=Pv (i + 1),bk:=D.nx } σ2 H2) (hd:∀ σ H,Pv n σ H->D.nx σ H):vC (bZT lo st n) g tb D σ H:=by
 refine ⟨λi m σ H=>m=n - i/\i<=n/\Pv i σ H,⟨n,by simp,Nat.zero_le _,h0⟩,?_⟩
 rintro i m σ H ⟨rfl,hi,p⟩
 by_cases hlt:i < n
 · refine .inr ⟨hlt,Pv (i + 1),λσ' H' p'=>⟨n - (i + 1),by omega,rfl,hlt,p'⟩,λx H' y=>?_⟩
   obtain ⟨e,y⟩:=y
   subst e y
   exact hs i σ _ hlt p
 · have e:i=n:=by omega
   subst e
   exact .inl ⟨Ah _,hd σ H p⟩
theorem cX7 (h:tA σ H (bXI λi j k H1=>(-1000000<=i/\i<=1000000/\-1000000<=j/\j<=1000000/\0 < k/\k<=1000)/\R (bZT i k (rA i j k)) H1)):cZS tA σ H R:=h
theorem cJM {R:Int->Int->Int->Hp->Prop} (h:R i j k H):bXI R [.int i,.int j,.int k] H:=h
end
def Alk (H:Hp):Nat->V->V->Prop
 | 0,x,y=>x=y/\bX x=true
 | n + 1,x,y=>(x=y/\bX x=true)\/∃ p q xs ys,x=.ref p/\y=.ref q/\((rdL H p=some xs/\rdL H q=some ys)\/(lP H p=some xs/\lP H q=some ys))/\xs.length=ys.length/\∀ (j:Nat) x' y',xs[j]?=some x'->ys[j]?=some y'->Alk H n x' y'
theorem Alk.flat {H:Hp} {n:Nat} {x:V} (h:bX x=true):Alk H n x x:=by
 cases n with
 | zero=>exact ⟨rfl,h⟩
 | succ n=>exact .inl ⟨rfl,h⟩
theorem Alk.lst {H:Hp} {n:Nat} {p q:Addr} {xs ys:List V} (hp:rdL H p=some xs) (hq:rdL H q=some ys) (hl:xs.length=ys.length) (h:∀ (j:Nat) x y,xs[j]?=some x->ys[j]?=some y->Alk H n x y):Alk H (n + 1) (.ref p) (.ref q):=.inr ⟨p,q,xs,ys,rfl,rfl,.inl ⟨hp,hq⟩,hl,h⟩
theorem Alk.tup {H:Hp} {n:Nat} {p q:Addr} {xs ys:List V} (hp:lP H p=some xs) (hq:lP H q=some ys) (hl:xs.length=ys.length) (h:∀ (j:Nat) x y,xs[j]?=some x->ys[j]?=some y->Alk H n x y):Alk H (n + 1) (.ref p) (.ref q):=.inr ⟨p,q,xs,ys,rfl,rfl,.inr ⟨hp,hq⟩,hl,h⟩
theorem Alk.flats {H:Hp} {n:Nat} {xs:List V} (f:xs.all bX=true):∀ (j:Nat) x y,xs[j]?=some x->xs[j]?=some y->Alk H n x y:=λj x y hx hy=>by
 rw [hx] at hy
 cases hy
 exact .flat (Dn.mp f x (Ak hx))
theorem Alk.tups {H H1 H2:Hp} {n:Nat} {ps qs:List Addr} {fs:List (List V)} (tp:Tups H1 H ps fs) (tq:Tups H2 H qs fs) (f:∀ t∈fs,t.all bX=true):∀ (j:Nat) x y,(ps.map V.ref)[j]?=some x->(qs.map V.ref)[j]?=some y->Alk H (n + 1) x y:=λj x y hx hy=>by
 rw [Ag] at hx hy
 cases ep:ps[j]? with
 | none=>rw [ep] at hx; cases hx
 | some p=>
   cases eq:qs[j]? with
   | none=>rw [eq] at hy; cases hy
   | some q=>
     rw [ep] at hx
     rw [eq] at hy
     cases hx
     cases hy
     have hj:j < fs.length:=by rw [<-tp.1]; exact (Ae.mp ep).1
     have a:=(tp.2 j p fs[j] ep (Aa hj)).2
     have b:=(tq.2 j q fs[j] eq (Aa hj)).2
     exact .tup (kH a) (kH b) rfl (.flats (f _ (Bw _)))
theorem jM {x:V} (h:bX x=true):eqV x x=true:=by
 cases x <;> first | rfl | (simp [eqV]; done) | (cases h; done)
section
variable {X:Cx}
end
def Lsts (H1 Hc:Hp) (ps:List Addr) (fs:List (List V)):Prop:=ps.length=fs.length/\∀ (j:Nat) p t,ps[j]?=some p->fs[j]?=some t->H1 p=none/\Hc p=some (.lst t)
theorem Lsts.keep {H1 Hc Hd:Hp} {ps:List Addr} {fs:List (List V)} (t:Lsts H1 Hc ps fs) (s:Same Hc Hd):Lsts H1 Hd ps fs:=⟨t.1,λj p u hp hu=>⟨(t.2 j p u hp hu).1,s _ _ (t.2 j p u hp hu).2⟩⟩
theorem Lsts.older {H0 H1 Hc:Hp} {ps:List Addr} {fs:List (List V)} (t:Lsts H1 Hc ps fs) (s:Same H0 H1):Lsts H0 Hc ps fs:=⟨t.1,λj p u hp hu=>⟨none_of s (t.2 j p u hp hu).1,(t.2 j p u hp hu).2⟩⟩
theorem Lsts.put {H1 Hc:Hp} {ps:List Addr} {fs:List (List V)} {D:Addr} {o:HO} (t:Lsts H1 Hc ps fs) (h:∀ p∈ps,p≠D):Lsts H1 (upd Hc D o) ps fs:=⟨t.1,λj p u hp hu=>by
 obtain ⟨a,b⟩:=t.2 j p u hp hu
 refine ⟨a,?_⟩
 rw [aK (h p (Ak hp))]
 exact b⟩
theorem Lsts.snoc {H1 Hc:Hp} {ps:List Addr} {fs:List (List V)} {q:Addr} {g:List V} (t:Lsts H1 Hc ps fs) (a:H1 q=none) (b:Hc q=some (.lst g)):Lsts H1 Hc (ps ++ [q]) (fs ++ [g]):=by
 refine ⟨by rw [Aj,Aj,t.1]; rfl,λj p v hp hv=>?_⟩
 by_cases h:j < ps.length
 · rw [As h] at hp
   rw [As (by rw [<-t.1]; exact h)] at hv
   exact t.2 j p v hp hv
 · rw [Ax (by omega)] at hp
   rw [Ax (by rw [<-t.1]; omega),<-t.1] at hv
   cases e:j - ps.length with
   | zero=>rw [e] at hp hv; cases hp; cases hv; exact ⟨a,b⟩
   | succ n=>rw [e] at hp; cases hp
theorem Lsts.nil {H1 Hc:Hp}:Lsts H1 Hc [] []:=⟨rfl,λj p u hp=>by cases hp⟩
theorem Lsts.mem {H1 Hc:Hp} {ps:List Addr} {fs:List (List V)} (t:Lsts H1 Hc ps fs) {p:Addr} (hp:p∈ps):∃ g∈fs,H1 p=none/\Hc p=some (.lst g):=by
 obtain ⟨j,hj⟩:=List.mem_iff_getElem?.mp hp
 have hl:j < fs.length:=by rw [<-t.1]; exact (Ae.mp hj).1
 exact ⟨fs[j],Bw _,t.2 j p _ hj (Aa hl)⟩
section
variable {X:Cx}
theorem jX (ns:List Int):∀ n,n<=ns.length->preSum (λi=>ns.getD i 0) n=(ns.take n).sum
 | 0,_=>by simp [preSum]
 | n + 1,h=>by
   have ih:=jX ns n (by omega)
   have e:ns.take (n + 1)=ns.take n ++ [ns.getD n 0]:=by rw [Az,Ad,Aa (by omega)]; rfl
   rw [e,List.sum_append,<-ih]
   simp [preSum]
theorem aZ1 {ns:List Int} (h:∀ n∈ns,0<=n/\n<=1000000):0<=ns.sum/\ns.sum<=1000000 * (ns.length:Int):=by
 induction ns with
 | nil=>simp
 | cons n r ih=>
   obtain ⟨a,b⟩:=h n (Aq ..)
   obtain ⟨c,d⟩:=ih λm hm=>h m (An _ hm)
   rw [Ck,Ay]
   constructor
   · omega
   · push_cast; omega
def dZF:List V->Hp->VK->Prop:=λxs H Q=>∃ (p:Addr) (ns:List Int),xs=[.ref p]/\rdL H p=some (ns.map V.int)/\(∀ n∈ns,0<=n/\n<=1000000)/\ns.length<=100000/\Q (.int ns.sum) H
theorem dZJ (hc:X.calm=true):CallR X (.builtin "sum") dZF:=by
 intro pins s σ H xs us Q I r h
 obtain ⟨p,ns,rfl,hp,hb,hn,q⟩:=h
 obtain ⟨u,rfl,ru⟩:=eX r
 cases ru
 obtain ⟨its,rv,pl,hz⟩:=I.list (aU hp)
 have hl:=pl.isList
 have hlt:p < s.heap.objs.size:=by obtain ⟨_,e,_⟩:=hl; exact Ao e
 have hle:its.length=ns.length:=by have:=rv.length; rw [Ab] at this; omega
 refine call_sum_walk (El hl ?_)
 refine ⟨s.heap.objs.size,[s.heap.objs.size,p],[s.heap.objs.size],its.toArray.size,_,_,λi=>ns.getD i 0,rfl,Walks.list (A:=X.A.in1) (I.ok.hd hc) _ p (Be hlt) its.toArray,
   ⟨⟨_,Av _ rfl,rfl,rfl⟩,hl.push _⟩,λb hb=>?_,λi v hv=>?_,λj hj=>?_,λh' tk t' hk=>?_⟩
 · rw [show ({ s with heap:=_ }:Shared).heap=_ from rfl]
   simp only [List.mem_cons,List.not_mem_nil,or_false] at hb
   rcases hb with e | e
   · rw [e]; simp [Heap.push]
   · rw [e]; exact Nat.lt_of_lt_of_le hlt (by simp [Heap.push])
 · have hv':its[i]?=some v:=by simpa using hv
   have hi:i < ns.length:=by rw [<-hle]; exact (Ae.mp hv').1
   obtain ⟨u,hu,ru⟩:=rv.get (show (ns.map V.int)[i]?=some (.int ns[i]) by rw [Ag,Aa hi]; rfl)
   rw [hv'] at hu
   cases hu
   obtain ⟨t,rfl⟩:=ru
   exact ⟨t,by show Value.int ns[i] t=Value.int (ns.getD i 0) t; rw [Ad,Aa hi]; rfl⟩
 · have hj' : j < ns.length := by have : j < its.length := by simpa using hj
                                  omega
   have e:=jX ns (j + 1) (by omega)
   obtain ⟨a1,a2⟩:=aZ1 (ns:=ns.take (j + 1)) λm hm=>hb m (List.mem_of_mem_take hm)
   rw [Bo] at a2
   have a3:ns.getD j 0∈ns:=by rw [Ad,Aa hj']; exact Bw _
   obtain ⟨b1,b2⟩:=hb _ a3
   refine ⟨?_,?_⟩
   · show InLong (ns.getD j 0)
     unfold InLong
     omega
   · rw [e]
     unfold InLong
     omega
 · have e:preSum (λi=>ns.getD i 0) its.toArray.size=ns.sum:=by
     rw [Bm,hle,jX ns _ (Ah _),Bp]
   rw [e]
   exact ⟨.int ns.sum,H,I.kept (LSm.kept_iter hk),⟨_,rfl⟩,q⟩
theorem dJY {p:Addr} {ns:List Int} {H:Hp} {Q:VK} (e:rdL H p=some (ns.map V.int)) (hb:∀ n∈ns,0<=n/\n<=1000000) (hl:ns.length<=100000) (h:Q (.int ns.sum) H):dZF [.ref p] H Q:=⟨p,ns,rfl,e,hb,hl,h⟩
end
end L2
set_option maxHeartbeats 4000000
namespace L2
open PySem PySem.Spec PyProof.Rows
section
variable {κ:Type} [DecidableEq κ]
def bU (kvs:List (κ × V)) (k:κ):Option V:=(kvs.find? λkv=>decide (kv.1=k)).map (·.2)
def dH (kvs:List (κ × V)) (k:κ) (v:V):List (κ × V) :=
 if (kvs.any λkv=>decide (kv.1=k))=true then kvs.map (λkv=>if kv.1=k then (kv.1,v) else kv) else kvs ++ [(k,v)]
def cZG (kvs:List (κ × V)) (k:κ):List (κ × V):=kvs.filter λkv=>decide (kv.1≠k)
theorem cD {p:κ × V} {r:List (κ × V)} {k:κ} (e:p.1=k):bU (p :: r) k=some p.2:=by simp [bU,List.find?_cons,e]
theorem bY {p:κ × V} {r:List (κ × V)} {k:κ} (e:¬ p.1=k):bU (p :: r) k=bU r k:=by simp [bU,List.find?_cons,e]
theorem eV (k:κ):∀ kvs:List (κ × V),(kvs.any λkv=>decide (kv.1=k))=(bU kvs k).isSome
 | []=>rfl
 | p :: r=>by
   rw [Gq]
   by_cases e:p.1=k
   · simp only [cD e,decide_eq_true e,Bool.true_or,Option.isSome_some]
   · rw [bY e,Au e,Fw]; exact eV k r
theorem vI (k j:κ) (y:V):∀ kvs:List (κ × V),bU (kvs.map λkv=>if kv.1=k then (kv.1,y) else kv) j=(bU kvs j).map λx=>if j=k then y else x
 | []=>rfl
 | p :: r=>by
   have ih:=vI k j y r
   rw [Ar]
   by_cases h:p.1=k
   · rw [if_pos h]
     by_cases e:p.1=j
     · rw [cD (p:=(p.1,y)) e,cD e,Dv,if_pos (e.symm.trans h)]
     · rw [bY (p:=(p.1,y)) e,bY e,ih]
   · rw [if_neg h]
     by_cases e:p.1=j
     · rw [cD (p:=p) e,cD e,Dv,if_neg (λz=>h (e.trans z))]
     · rw [bY (p:=p) e,bY e,ih]
theorem sQ (k j:κ) (y:V):∀ kvs:List (κ × V),bU kvs k=none->bU (kvs ++ [(k,y)]) j=if j=k then some y else bU kvs j
 | [],_=>by
   by_cases e:k=j
   · rw [if_pos e.symm]; exact cD (p:=(k,y)) e
   · rw [if_neg (λz=>e z.symm)]; exact bY (p:=(k,y)) e
 | p :: r,hn=>by
   rw [List.cons_append]
   have hk:¬ p.1=k:=λz=>by rw [cD z] at hn; cases hn
   rw [bY hk] at hn
   have ih:=sQ k j y r hn
   by_cases e:p.1=j
   · rw [cD e,cD e,if_neg (λz=>hk (e.trans z))]
   · rw [bY e,bY e,ih]
theorem bXM (kvs:List (κ × V)) (k j:κ) (y:V):bU (dH kvs k y) j=if j=k then some y else bU kvs j:=by
 unfold dH
 by_cases a:(kvs.any λkv=>decide (kv.1=k))=true
 · rw [if_pos a,vI]
   rw [eV] at a
   by_cases e:j=k
   · obtain ⟨x,hx⟩:=Er.mp a
     rw [if_pos e,e,hx,Dv,if_pos rfl]
   · rw [if_neg e]
     cases bU kvs j with
     | none=>rfl
     | some x=>rw [Dv,if_neg e]
 · rw [if_neg a]
   refine sQ k j y kvs ?_
   rw [eV] at a
   cases q:bU kvs k with
   | none=>rfl
   | some x=>rw [q] at a; exact (a rfl).elim
theorem cO (kvs:List (κ × V)) (k:κ) (v:V):(dH kvs k v).length<=kvs.length + 1:=by
 unfold dH
 split
 · rw [Ab]; omega
 · rw [Aj,Ay,List.length_nil]; omega
theorem iF {kvs:List (κ × V)} {k:κ} (v:V) (h:bU kvs k=none):dH kvs k v=kvs ++ [(k,v)]:=by
 unfold dH
 rw [eV,h]
 exact if_neg (by decide)
theorem RelO.isSome_eq {o:Option V} {u:Option Value} (r:RelO o u):o.isSome=u.isSome:=by
 cases o with
 | none=>cases u with
   | none=>rfl
   | some _=>exact (show False from r).elim
 | some _=>cases u with
   | none=>exact (show False from r).elim
   | some _=>rfl
theorem RelO.getD {o:Option V} {u:Option Value} {d:V} {d':Value} (r:RelO o u) (rd:RelV d d'):RelV (o.getD d) (u.getD d'):=by
 cases o with
 | none=>cases u with
   | none=>exact rd
   | some _=>exact (show False from r).elim
 | some _=>cases u with
   | none=>exact (show False from r).elim
   | some _=>exact r
theorem KV.val {kvs:List (κ × V)} {vs:List (κ × Value)} (r:KV kvs vs) (k:κ):RelO (bU kvs k) (valueAt vs k):=by
 unfold KV at r
 induction r with
 | nil=>exact True.intro
 | @cons p q ps qs h t ih=>
   obtain ⟨h1,h2⟩:=h
   by_cases e:p.1=k
   · have e':q.1=k:=h1.symm.trans e
     have b:valueAt (q :: qs) k=some q.2:=by simp [valueAt,List.find?_cons,e']
     rw [cD e,b]; exact h2
   · have e':¬ q.1=k:=λz=>e (h1.trans z)
     have b:valueAt (q :: qs) k=valueAt qs k:=by simp [valueAt,List.find?_cons,e']
     rw [bY e,b]; exact ih
theorem KV.any {kvs:List (κ × V)} {vs:List (κ × Value)} (r:KV kvs vs) (k:κ):(kvs.any λkv=>decide (kv.1=k))=vs.any λkv=>decide (kv.1=k):=by
 unfold KV at r
 induction r with
 | nil=>rfl
 | cons h t ih=>rw [Gq,Gq,ih,h.1]
theorem KV.repl {kvs:List (κ × V)} {vs:List (κ × Value)} (r:KV kvs vs) (k:κ) {y:V} {u:Value} (ry:RelV y u) :
   KV (kvs.map λkv=>if kv.1=k then (kv.1,y) else kv) (vs.map λkv=>if kv.1=k then (kv.1,u) else kv):=by
 unfold KV at r ⊢
 induction r with
 | nil=>exact .nil
 | @cons p q ps qs h t ih=>
   rw [Ar,Ar]
   refine .cons ?_ ih
   obtain ⟨h1,h2⟩:=h
   by_cases e:p.1=k
   · rw [if_pos e,if_pos (h1.symm.trans e)]; exact ⟨h1,ry⟩
   · rw [if_neg e,if_neg (λz=>e (h1.trans z))]; exact ⟨h1,h2⟩
theorem KV.put {kvs:List (κ × V)} {vs:List (κ × Value)} (r:KV kvs vs) (k:κ) {y:V} {u:Value} (ry:RelV y u):KV (dH kvs k y) (stored vs k u):=by
 unfold dH stored
 rw [r.any k]
 by_cases e:(vs.any λkv=>decide (kv.1=k))=true
 · rw [if_pos e,if_pos e]; exact r.repl k ry
 · rw [if_neg e,if_neg e]; exact Paired.snoc r ⟨rfl,ry⟩
theorem KV.drop {kvs:List (κ × V)} {vs:List (κ × Value)} (r:KV kvs vs) (k:κ):KV (cZG kvs k) (without vs k):=by
 unfold KV at r ⊢
 unfold cZG without
 induction r with
 | nil=>exact .nil
 | @cons p q ps qs h t ih=>
   obtain ⟨h1,h2⟩:=h
   rw [Fa,Fa]
   by_cases e:p.1=k
   · have a:¬ decide (p.1≠k)=true:=by simp [e]
     have b:¬ decide (q.1≠k)=true:=by simp [h1.symm.trans e]
     rw [if_neg a,if_neg b]; exact ih
   · have e':¬ q.1=k:=λz=>e (h1.trans z)
     have a:decide (p.1≠k)=true:=by simp [e]
     have b:decide (q.1≠k)=true:=by simp [e']
     rw [if_pos a,if_pos b]; exact .cons ⟨h1,h2⟩ ih
theorem KV.keys {kvs:List (κ × V)} {vs:List (κ × Value)} (r:KV kvs vs):kvs.map (·.1)=vs.map (·.1):=by
 unfold KV at r
 induction r with
 | nil=>rfl
 | cons h t ih=>rw [Ar,Ar,ih,h.1]
theorem KV.length {kvs:List (κ × V)} {vs:List (κ × Value)} (r:KV kvs vs):kvs.length=vs.length:=Paired.length r
end
theorem pR {P:Program} {w:World} {k:Key} {u:Value} (r:RelV (kV k) u):(bB P w).is k u=true:=by
 cases k with
 | inl i=>obtain ⟨t,e⟩:=(show ∃ t,u=Value.int i t from r); subst e; exact vP P w i t
 | inr x=>obtain ⟨t,e⟩:=(show ∃ t,u=Value.str x t from r); subst e; exact wQ P w x t
theorem sL {P:Program} {w:World}:∀ {ks:List Key} {us:List Value},Vals (ks.map kV) us->ItemsAre (bB P w) ks us
 | [],_,r=>by rw [Gv] at r; cases r; exact .nil
 | k :: ks,_,r=>by
   rw [Ar] at r
   cases r with
   | cons h t=>exact .cons (pR h) (sL t)
abbrev KT (H:Hp):List (List Key × V)->List (List Key × Addr × Value)->Prop:=Paired λp q=>p.1=q.1/\H q.2.1=some (.tup (p.1.map kV))/\RelV p.2 q.2.2
theorem KT.val {H:Hp} {kvs:List (List Key × V)} {xs:List (List Key × Addr × Value)} (r:KT H kvs xs) (k:List Key):RelO (bU kvs k) ((atKey xs k).map (·.2)):=by
 induction r with
 | nil=>exact True.intro
 | @cons p q ps qs h t ih=>
   obtain ⟨h1,_,h2⟩:=h
   by_cases e:p.1=k
   · have e':q.1=k:=h1.symm.trans e
     have b:atKey (q :: qs) k=some q.2:=by simp [atKey,List.find?_cons,e']
     rw [cD e,b]; exact h2
   · have e':¬ q.1=k:=λz=>e (h1.trans z)
     have b:atKey (q :: qs) k=atKey qs k:=by simp [atKey,List.find?_cons,e']
     rw [bY e,b]; exact ih
theorem KT.repl {H:Hp} {kvs:List (List Key × V)} {xs:List (List Key × Addr × Value)} (r:KT H kvs xs) (k:List Key) {y:V} {u:Value} (ry:RelV y u) :
   KT H (kvs.map λkv=>if kv.1=k then (kv.1,y) else kv) (xs.map (putAt k u)):=by
 induction r with
 | nil=>exact .nil
 | @cons p q ps qs h t ih=>
   rw [Ar,Ar]
   refine .cons ?_ ih
   obtain ⟨h1,h2,h3⟩:=h
   unfold putAt
   by_cases e:p.1=k
   · rw [if_pos e,if_pos (h1.symm.trans e)]; exact ⟨h1,h2,ry⟩
   · rw [if_neg e,if_neg (λz=>e (h1.trans z))]; exact ⟨h1,h2,h3⟩
theorem KT.put {H:Hp} {kvs:List (List Key × V)} {xs:List (List Key × Addr × Value)} (r:KT H kvs xs) (k:List Key) {b:Addr} {y:V} {u:Value} (hb:H b=some (.tup (k.map kV))) (ry:RelV y u) :
   KT H (dH kvs k y) (storedH xs k b u):=by
 have e:(kvs.any λkv=>decide (kv.1=k))=(atKey xs k).isSome:=by
   rw [eV,(r.val k).isSome_eq,Option.isSome_map]
 unfold dH storedH
 rw [e]
 by_cases q:(atKey xs k).isSome=true
 · rw [if_pos q,if_pos q]; exact r.repl k ry
 · rw [if_neg q,if_neg q]; exact Paired.snoc r ⟨rfl,hb,ry⟩
theorem KT.keeps {H H':Hp} {kvs:List (List Key × V)} {xs:List (List Key × Addr × Value)} (r:KT H kvs xs) (ht:∀ b ys,H b=some (.tup ys)->H' b=some (.tup ys)):KT H' kvs xs :=
 Paired.mapP r λ_ _ z=>⟨z.1,ht _ _ z.2.1,z.2.2⟩
section
variable {P:Program} {w:World} {H:Hp} {h:Heap} {a:Addr}
theorem cZ9 {u:HO} (ok:HOk P w H h) (e:Rd H a u):ObjOk P w H h a u:=e.ok ok
theorem gP {kvs:List (Key × V)} (ok:HOk P w H h) (e:Rd H a (.dK kvs)):kvs.length<=sizeLine/\(a == sysModules)=false/\∃ vs,KV kvs vs/\h.DictOf (bB P w) a vs :=
 show ObjOk P w H h a (.dK kvs) from cZ9 ok e
theorem cZF {kvs:List (Key × V)} (ok:HOk P w H h) (e:H a=some (.dK kvs)):kvs.length<=sizeLine/\(a == sysModules)=false/\∃ vs,KV kvs vs/\h.DictOf (bB P w) a vs:=gP ok (.inl e)
theorem lH {ks:List Key} (ok:HOk P w H h) (e:H a=some (.tup (ks.map kV))):(tupleKind (bB P w)).is h ks a:=by
 obtain ⟨_,its,r,o,h1,h2,n,h3⟩:=(show ObjOk P w H h a (.tup (ks.map kV)) from ok a _ e)
 exact ⟨o,its.toArray,n,h1,h2,h3,by simpa using sL r⟩
theorem nX {kvs:List (List Key × V)} (ok:HOk P w H h) (e:Rd H a (.dT kvs)):kvs.length<=sizeLine/\(a == sysModules)=false/\
   ∃ xs,KT H kvs xs/\h.DictOfH (tupleKind (bB P w)) a xs:=by
 obtain ⟨z,y,xs,r,o,es,ep,h1,h2,h3,h4,h5⟩:=(show ObjOk P w H h a (.dT kvs) from cZ9 ok e)
 refine ⟨z,y,xs,r,o,es,ep,h1,h2,h3,h4,λx hx=>?_,h5⟩
 have all:∀ {l:List (List Key × V)} {m:List (List Key × Addr × Value)},KT H l m->∀ x∈m,(tupleKind (bB P w)).is h x.1 x.2.1:=by
   intro l m q
   induction q with
   | nil=>intro x hx; exact nomatch hx
   | @cons p q ps qs hq t ih=>
     intro x hx
     rcases Bc.mp hx with e | hx
     · subst e
       exact lH ok (by rw [<-hq.1]; exact hq.2.1)
     · exact ih x hx
 exact all r x hx
theorem cZ0 {kvs:List (List Key × V)} (ok:HOk P w H h) (e:H a=some (.dT kvs)):kvs.length<=sizeLine/\(a == sysModules)=false/\
   ∃ xs,KT H kvs xs/\h.DictOfH (tupleKind (bB P w)) a xs:=nX ok (.inl e)
end
def DGet (H:Hp) (a:Addr) (y:V) (r:Option V):Prop :=
 (∃ kvs k,Rd H a (.dK kvs)/\y=kV k/\r=bU kvs k)\/∃ kvs k b,Rd H a (.dT kvs)/\y=.ref b/\H b=some (.tup (k.map kV))/\r=bU kvs k
def DPut (H:Hp) (a:Addr) (y v:V) (H':Hp):Prop :=
 (∃ kvs k,H a=some (.dK kvs)/\y=kV k/\kvs.length < sizeLine/\H'=upd H a (.dK (dH kvs k v)))\/
 ∃ kvs k b,H a=some (.dT kvs)/\y=.ref b/\H b=some (.tup (k.map kV))/\kvs.length < sizeLine/\H'=upd H a (.dT (dH kvs k v))
theorem DGet.k {H:Hp} {a:Addr} {kvs:List (Key × V)} {k:Key} (e:H a=some (.dK kvs)):DGet H a (kV k) (bU kvs k):=.inl ⟨kvs,k,.inl e,rfl,rfl⟩
theorem DGet.t {H:Hp} {a b:Addr} {kvs:List (List Key × V)} {k:List Key} (e:H a=some (.dT kvs)) (eb:H b=some (.tup (k.map kV))):DGet H a (.ref b) (bU kvs k):=.inr ⟨kvs,k,b,.inl e,rfl,eb,rfl⟩
theorem DPut.k {H:Hp} {a:Addr} {kvs:List (Key × V)} {k:Key} {v:V} (e:H a=some (.dK kvs)) (hl:kvs.length < sizeLine):DPut H a (kV k) v (upd H a (.dK (dH kvs k v))):=.inl ⟨kvs,k,e,rfl,hl,rfl⟩
theorem DPut.t {H:Hp} {a b:Addr} {kvs:List (List Key × V)} {k:List Key} {v:V} (e:H a=some (.dT kvs)) (eb:H b=some (.tup (k.map kV))) (hl:kvs.length < sizeLine) :
   DPut H a (.ref b) v (upd H a (.dT (dH kvs k v))):=.inr ⟨kvs,k,b,e,rfl,eb,hl,rfl⟩
section
variable {X:Cx} {pins:List (Addr × Obj)} {σ:St} {H:Hp} {s:Shared} {a:Addr} {y v:V} {u r:Value} {o:Option V} {A:Around} {E:Value->Shared->Prop}
theorem Inv.big (I:Inv X pins σ H s):sysModules < s.heap.objs.size:=by
 have h:mainGlobals < s.heap.objs.size:=(I.mod.glob.keeps I.bk).lt
 exact Nat.lt_trans (by decide) h
theorem aZL {Q:Value->Shared->Prop} (hu:A.units + 1 < cLine) (I:Inv X pins σ H s) (g:DGet H a y (some v)) (ry:RelV y u) (h:∀ w' s',Inv X pins σ H s'->RelV v w'->Q w' s') :
   wpAny (model X.prog X.w) A (getItem (.ref a) u) Q E s:=by
 rcases g with ⟨kvs,k,e,ey,l⟩ | ⟨kvs,k,b,e,ey,eb,l⟩
 · subst ey
   obtain ⟨z,hd,vs,rel,dd⟩:=gP I.hok e
   obtain ⟨w',hw,rw'⟩:=RelO.some_of (v:=v) (o:=valueAt vs k) (by rw [l]; exact rel.val k)
   exact wpAny_getItem_of (pR ry) dd.mapOf hw (h w' _ (I.tok _) rw')
 · subst ey
   cases (show u=Value.ref b from ry)
   obtain ⟨z,hd,xs,rel,dd⟩:=nX I.hok e
   obtain ⟨w',hw,rw'⟩:=RelO.some_of (v:=v) (o:=(atKey xs k).map (·.2)) (by rw [l]; exact rel.val k)
   obtain ⟨p,hp,hp2⟩:=Option.map_eq_some_iff.mp hw
   refine wpAny_getItem_heap (Ed hu) (lH I.hok eb) dd hp ?_
   rw [hp2]
   exact h w' _ (I.tok _) rw'
theorem dZS {Q:Value->Shared->Prop} (hu:A.units + 1 < cLine) (I:Inv X pins σ H s) (g:DGet H a y o) (ry:RelV y u) (h:∀ s',Inv X pins σ H s'->Q (.bool o.isSome) s') :
   wpAny (model X.prog X.w) A (compareOp .In u (.ref a)) Q E s:=by
 rcases g with ⟨kvs,k,e,ey,l⟩ | ⟨kvs,k,b,e,ey,eb,l⟩
 · subst ey
   obtain ⟨z,hd,vs,rel,dd⟩:=gP I.hok e
   refine wpAny_in_of (pR ry) hd dd.mapOf ?_
   rw [<-(rel.val k).isSome_eq,<-l]
   exact h _ (I.tok _)
 · subst ey
   cases (show u=Value.ref b from ry)
   obtain ⟨z,hd,xs,rel,dd⟩:=nX I.hok e
   refine wpAny_in_heap (Ed hu) (lH I.hok eb) hd dd ?_
   have q:=(rel.val k).isSome_eq
   rw [Option.isSome_map] at q
   rw [<-q,<-l]
   exact h _ (I.tok _)
theorem cQS {Q:Value->Shared->Prop} (hu:A.units + 1 < cLine) (I:Inv X pins σ H s) (g:DGet H a y o) (ry:RelV y u) (h:∀ s',Inv X pins σ H s'->Q (.bool (!o.isSome)) s') :
   wpAny (model X.prog X.w) A (compareOp .NotIn u (.ref a)) Q E s:=by
 rcases g with ⟨kvs,k,e,ey,l⟩ | ⟨kvs,k,b,e,ey,eb,l⟩
 · subst ey
   obtain ⟨z,hd,vs,rel,dd⟩:=gP I.hok e
   refine wpAny_notIn_of (pR ry) hd dd.mapOf ?_
   rw [<-(rel.val k).isSome_eq,<-l]
   exact h _ (I.tok _)
 · subst ey
   cases (show u=Value.ref b from ry)
   obtain ⟨z,hd,xs,rel,dd⟩:=nX I.hok e
   refine wpAny_notIn_heap (Ed hu) (lH I.hok eb) hd dd ?_
   have q:=(rel.val k).isSome_eq
   rw [Option.isSome_map] at q
   rw [<-q,<-l]
   exact h _ (I.tok _)
theorem aXJ {h':Heap} {t':Nat} {ob:HO} (I:Inv X pins σ H s) (mu:Mut (H a)) (hs:Heap.SameBut a s.heap h') (he:∃ q,h'.get? a=some q) (new:ObjOk X.prog X.w (upd H a ob) h' a ob) :
   Inv X pins σ (upd H a ob) { s with heap:=h',toks:=t' } :=
 I.write (x:=a) (e:=a) mu (.inl rfl) (λb q hb z=>(hs.2 b hb).trans z) he new
theorem bZF {P:Program} {w:World} {H':Hp} {h':Heap} {kvs:List (Key × V)} {vs:List (Key × Value)} (z:kvs.length<=sizeLine) (hd:(a == sysModules)=false) (rel:KV kvs vs) (dd:h'.DictOf (bB P w) a vs) :
   ObjOk P w H' h' a (.dK kvs):=⟨z,hd,vs,rel,dd⟩
theorem aZR {H':Hp} {Q:Unit->Shared->Prop} (hu:A.units + 1 < cLine) (I:Inv X pins σ H s) (g:DPut H a y v H') (ry:RelV y u) (rv:RelV v r) (h:∀ s',Inv X pins σ H' s'->Q () s') :
   wpAny (model X.prog X.w) A (setItem (.ref a) u r) Q E s:=by
 rcases g with ⟨kvs,k,e,ey,l,eH⟩ | ⟨kvs,k,b,e,ey,eb,l,eH⟩
 · subst ey eH
   obtain ⟨z,hd,vs,rel,dd⟩:=cZF I.hok e
   have hz:vs.length<=sizeLine:=by rw [<-rel.length]; exact z
   have hl:(dH kvs k v).length<=sizeLine:=by have:=cO kvs k v; omega
   refine wpAny_setItem_pairs (hsz:=hz) (pR ry) dd λh' dd' hs=>h _ ?_
   have he:∃ q,h'.get? a=some q:=let ⟨q,_,_,hq,_⟩:=dd'; ⟨q,hq⟩
   exact aXJ I (by rw [e]; exact True.intro) hs he (bZF hl hd (rel.put k rv) dd')
 · subst ey eH
   cases (show u=Value.ref b from ry)
   obtain ⟨z,hd,xs,rel,dd⟩:=cZ0 I.hok e
   have hz:xs.length<=sizeLine:=by rw [<-Paired.length rel]; exact z
   have hl:(dH kvs k v).length<=sizeLine:=by have:=cO kvs k v; omega
   refine wpAny_setItem_heap (hsz:=hz) (Ed hu) (lH I.hok eb) dd λh' dd' hs=>h _ ?_
   obtain ⟨q,es,ep,hq,h2,h3,h4,_,h5⟩:=dd'
   refine aXJ I (by rw [e]; exact True.intro) hs ⟨q,hq⟩ ⟨hl,hd,_,(rel.put k eb rv).keeps λc ys ec=>?_,q,es,ep,hq,h2,h3,h4,h5⟩
   rw [aK (eQO ec e (λz=>nomatch z))]
   exact ec
end
section
variable {X:Cx} {pins:List (Addr × Obj)} {σ:St} {H:Hp} {s:Shared} {a:Addr} {kvs:List (Key × V)} {k:Key} {u:Value} {A:Around} {E:Value->Shared->Prop}
end
def dJK (i:Expr):Prop:=∀ ov iv,subscripted i false ov iv=operate [ov,iv] (getItem ov iv)
theorem cXC {prog:Program} {w:World} {A:Around} {E:Value->Shared->Prop} {s:Shared} {env:Env} {value slice:Expr} {pos:Pos} {T id:String} {Q:Value->Shared->Prop}
   (hl:typeLookup (.type T) "__getitem__"=pure (some (.builtin id))) (hs:dJK slice)
   (h:wpAny (model prog w) A (eval value env) (λo s₁=>wpAny (model prog w) A (eval slice env) (λi s₂=>s₂.TypeIs o T/\wpAny (model prog w) A (getItem o i) Q E s₂) E s₁) E s) :
   wpAny (model prog w) A (eval (.Subscript value slice pos) env) Q E s:=by
 refine Subscript_ (Cb h (λo s₁ h₁=>Cb h₁ (λi s₂ h₂=>?_) λ_ _ x=>x) λ_ _ x=>x)
 obtain ⟨hT,h₂⟩:=h₂
 unfold subscriptTail
 refine Ac ?_
 rw [getitemInPython_of_ne hT.not_modules]
 refine Ac (Fx hT hl ?_)
 have fin:wpAny (model prog w) A (subscripted slice false o i) (λr s₃=>wpAny (model prog w) A (letTemporaryGo value o r >>= λ_=>pure r) Q E s₃) E s₂:=by
   rw [hs o i]
   exact wpAny_operating (Cb h₂ (λr s₃ h₃=>Ac (wpAny_letTemporaryGo (Ai h₃))) λ_ _ x=>x)
 first
   | exact Ai (Ac fin)
   | exact Ac (Ai (Ac fin))
   | exact Ac fin
theorem vU {X:Cx} {pins:List (Addr × Obj)} {σ:St} {H:Hp} {s:Shared} {a:Addr} {y:V} {o:Option V} (I:Inv X pins σ H s) (g:DGet H a y o):s.TypeIs (.ref a) "dict" := by
 rcases g with ⟨kvs,k,e,_,_⟩ | ⟨kvs,k,b,e,_,_,_⟩
 · obtain ⟨_,_,vs,_,dd⟩:=gP I.hok e
   exact dd.typeIs
 · obtain ⟨_,_,xs,_,dd⟩:=nX I.hok e
   exact dd.typeIs
def cJH (td ty:TE):TE:=λσ H Q=>td σ H λx H1=>ty σ H1 λy H2=>∃ a v,x=.ref a/\DGet H2 a y (some v)/\Q v H2
def cZ2 (td ty tv:TE):TS:=λD σ H=>tv σ H λv H1=>td σ H1 λx H2=>ty σ H2 λy H3=>∃ a H4,x=.ref a/\DPut H3 a y v H4/\D.nx σ H4
section
variable {X:Cx} {o i e value:Expr} {pos pos' tpos:Pos} {td ty tv:TE}
theorem gI (hu:X.A.units + 1 < cLine) (ho:PE X o td) (hi:PE X i ty) (hs:dJK i):PE X (.Subscript o i pos) (cJH td ty):=by
 intro pins s σ H Q I h
 refine cXC PySem.F.slot_dict_getitem.lookup hs (thn (ho pins s σ H _ I h) λu s1 ⟨x,H1,I1,rx,q1⟩=>thn (hi pins s1 σ H1 _ I1 q1) λiv s2 ⟨y,H2,I2,ry,a,v,ex,g,q2⟩=>?_)
 subst ex
 obtain rfl:u=Value.ref a:=rx
 exact ⟨vU I2 g,aZL hu I2 g ry λw' s3 I3 rw'=>⟨v,H2,I3,rw',q2⟩⟩
theorem dB (hu:X.A.units + 1 < cLine) (ho:PE X o td) (hi:PE X i ty) (hv:PE X value tv) (hs:swapsWith value (some (.Subscript o i pos')) pos.line X.env=pure false) :
   PS X (.Assign [.Subscript o i pos'] value pos) (cZ2 td ty tv):=by
 intro pins s σ H D I h
 refine wpAny_Assign_Subscript (thn (hv pins s σ H _ I h) λr s1 ⟨v,H1,I1,rv,q1⟩=>thn (ho pins s1 σ H1 _ I1 q1) λu s2 ⟨x,H2,I2,rx,q2⟩=>thn (hi pins s2 σ H2 _ I2 q2) λiv s3 ⟨y,H3,I3,ry,a,H4,ex,g,q3⟩=>?_) hs
 subst ex
 obtain rfl:u=Value.ref a:=rx
 exact aZR hu I3 g ry rv λs4 I4=>⟨σ,H4,I4,q3⟩
end
theorem bZ6 {P:Program} {w:World} {H:Hp} (h:Heap) (hb:sysModules < h.objs.size):ObjOk P w H (h.push { cls:=.type "dict",data:=.dict #[] }) h.objs.size (.dK []) :=
 ⟨Ci _,Et.mpr (Ne.symm (Be hb)),[],.nil,Heap.DictOf.new h⟩
theorem bXQ {P:Program} {w:World} {H:Hp} (h:Heap) (hb:sysModules < h.objs.size):ObjOk P w H (h.push { cls:=.type "dict",data:=.dict #[] }) h.objs.size (.dT []) :=
 ⟨Ci _,Et.mpr (Ne.symm (Be hb)),[],.nil,_,#[],0,Av _ rfl,⟨rfl,rfl,rfl⟩,rfl,rfl,List.nodup_nil⟩
def bZU:TE:=λ_ H Q=>∀ p,H p=none->Q (.ref p) (upd H p (.dK []))
def bJB:TE:=λ_ H Q=>∀ p,H p=none->Q (.ref p) (upd H p (.dT []))
section
variable {X:Cx} {pos:Pos}
theorem qF:PE X (.Dict [] [] pos) bZU:=λpins s σ H Q I h=>
 wpAny_Dict_empty ⟨.ref s.heap.objs.size,_,I.laid (a:=s.heap.objs.size) (o:=.dK []) (t':=s.toks) (λ_ _ q=>Af _ q) (Ah _) (bZ6 s.heap I.big),rfl,h _ (I.hok.fresh (Ah _))⟩
theorem qD:PE X (.Dict [] [] pos) bJB:=λpins s σ H Q I h=>
 wpAny_Dict_empty ⟨.ref s.heap.objs.size,_,I.laid (a:=s.heap.objs.size) (o:=.dT []) (t':=s.toks) (λ_ _ q=>Af _ q) (Ah _) (bXQ s.heap I.big),rfl,h _ (I.hok.fresh (Ah _))⟩
end
def IsD (H:Hp) (a:Addr):Prop:=(∃ kvs,Rd H a (.dK kvs))\/∃ kvs,Rd H a (.dT kvs)
theorem dQ5 {X:Cx} {pins:List (Addr × Obj)} {σ:St} {H:Hp} {s:Shared} {a:Addr} (I:Inv X pins σ H s) (d:IsD H a) :
   s.TypeIs (.ref a) "dict"/\(∀ b,Value.ref a=.ref b->∃ ob,s.heap.get? b=some ob/\ob.dict=none)/\(a == sysModules)=false:=by
 rcases d with ⟨kvs,e⟩ | ⟨kvs,e⟩
 · obtain ⟨_,hd,vs,_,dd⟩:=gP I.hok e
   refine ⟨dd.typeIs,λb q=>?_,hd⟩
   cases q
   obtain ⟨ob,_,_,h1,h2,_⟩:=dd
   exact ⟨ob,h1,h2.2.1⟩
 · obtain ⟨_,hd,xs,_,dd⟩:=nX I.hok e
   refine ⟨dd.typeIs,λb q=>?_,hd⟩
   cases q
   obtain ⟨ob,_,_,h1,h2,_⟩:=dd
   exact ⟨ob,h1,h2.2.1⟩
section
variable {X:Cx} {pins:List (Addr × Obj)} {σ:St} {H:Hp} {s:Shared} {a:Addr} {y d:V} {u r:Value} {o:Option V} {A:Around} {E:Value->Shared->Prop}
theorem dXM {Q:Value->Shared->Prop} (hu:A.units + 1 < cLine) (I:Inv X pins σ H s) (g:DGet H a y o) (ry:RelV y u) (h:∀ w' s',Inv X pins σ H s'->RelV (o.getD .non) w'->Q w' s') :
   wpAny (model X.prog X.w) A (call (.builtin "dict.get") [.ref a,u]) Q E s:=by
 rcases g with ⟨kvs,k,e,ey,l⟩ | ⟨kvs,k,b,e,ey,eb,l⟩
 · subst ey
   obtain ⟨z,hd,vs,rel,dd⟩:=gP I.hok e
   refine Gi Bl dd.typeIs Fd (PySem.F.args_dict_get_2 _ _) (meets_dict_get (bB X.prog X.w) a (pR ry) hd) ⟨_,dd.mapOf,h _ _ (I.tok _) ?_⟩
   rw [l]
   exact (rel.val k).getD rfl
 · subst ey
   cases (show u=Value.ref b from ry)
   obtain ⟨z,hd,xs,rel,dd⟩:=nX I.hok e
   refine Gi Bl dd.typeIs Fd (PySem.F.args_dict_get_2 _ _) (meetsH_dict_get (tupleKind (bB X.prog X.w)) a b hd) ⟨Ed hu,k,xs,lH I.hok eb,dd,h _ _ (I.tok _) ?_⟩
   rw [l]
   exact (rel.val k).getD rfl
theorem dX0 {Q:Value->Shared->Prop} (hu:A.units + 1 < cLine) (I:Inv X pins σ H s) (g:DGet H a y o) (ry:RelV y u) (rd:RelV d r) (h:∀ w' s',Inv X pins σ H s'->RelV (o.getD d) w'->Q w' s') :
   wpAny (model X.prog X.w) A (call (.builtin "dict.get") [.ref a,u,r]) Q E s:=by
 rcases g with ⟨kvs,k,e,ey,l⟩ | ⟨kvs,k,b,e,ey,eb,l⟩
 · subst ey
   obtain ⟨z,hd,vs,rel,dd⟩:=gP I.hok e
   refine Gi Bl dd.typeIs Fd (PySem.F.args_dict_get_3 _ _ _) (meets_dict_get_default (bB X.prog X.w) a (pR ry) hd r) ⟨_,dd.mapOf,h _ _ (I.tok _) ?_⟩
   rw [l]
   exact (rel.val k).getD rd
 · subst ey
   cases (show u=Value.ref b from ry)
   obtain ⟨z,hd,xs,rel,dd⟩:=nX I.hok e
   refine Gi Bl dd.typeIs Fd (PySem.F.args_dict_get_3 _ _ _) (meetsH_dict_get_default (tupleKind (bB X.prog X.w)) a b hd r) ⟨Ed hu,k,xs,lH I.hok eb,dd,h _ _ (I.tok _) ?_⟩
   rw [l]
   exact (rel.val k).getD rd
end
section
variable {X:Cx} {o e f:Expr} {apos cpos:Pos} {td ty tx:TE}
end
section
variable {X:Cx} {pins:List (Addr × Obj)} {σ:St} {H:Hp} {s:Shared} {a:Addr} {kvs:List (Key × V)} {A:Around} {E:Value->Shared->Prop}
theorem bQX {Q:Value->Shared->Prop} (I:Inv X pins σ H s) (e:Rd H a (.dK kvs)) (h:∀ p s',H p=none->Inv X pins σ (upd H p (.dK kvs)) s'->Q (.ref p) s'):wpAny (model X.prog X.w) A (call (.type "dict") [.ref a]) Q E s:=by
 obtain ⟨z,hd,vs,rel,dd⟩:=gP I.hok e
 refine kt_call_dict hd dd (by rw [<-rel.length]; exact z) λh' dd' hs=>?_
 refine h _ _ (I.hok.fresh (Ah _)) (I.laid (a:=s.heap.objs.size) (o:=.dK kvs) (t':=s.toks) (λb q hq=>?_) (Ah _) (bZF z (Et.mpr (Ne.symm (Be I.big))) rel dd'))
 exact (hs.2 b (Be (Ao hq))).trans (Af _ hq)
end
section
variable {X:Cx} {pins:List (Addr × Obj)} {σ:St} {H:Hp} {s:Shared} {a:Addr} {y:V} {u:Value} {A:Around} {E:Value->Shared->Prop}
end
end L2
set_option maxHeartbeats 4000000
namespace L2
open PySem PySem.Spec PyProof.Rows
section
variable {X:Cx} {pins:List (Addr × Obj)} {σ:St} {H:Hp} {s:Shared}
theorem Inv.re {H':Hp} (I:Inv X pins σ H s) (hn:∀ b,H b=none->H' b=none) (tups:∀ b xs,X.H₀ b=some (.tup xs)->H' b=some (.tup xs)) (frzs:∀ b o u,X.H₀ b=some (.frz o u)->H' b=some (.frz o u))
   (tbls:∀ b ps,X.H₀ b=some (.tbl ps)->∃ more,H' b=some (.tbl (ps ++ more))) (hok:HOk X.prog X.w H' s.heap):Inv X pins σ H' s :=
 ⟨I.ok,I.os,I.bare,⟨I.base.keep,I.base.slot,λb o e n hx=>hn b (I.base.free b o e n hx),I.base.there,tups,frzs,tbls⟩,I.loc,I.cell,hn _ I.free,λx c e=>hn c (I.freeC x c e),λp hp=>by
   obtain ⟨a,b,c,d,e⟩:=I.pin p hp
   exact ⟨a,hn _ b,c,d,e⟩,hok,I.len⟩
def dJB:HO->Bool
 | .dK _=>true
 | .dT _=>true
 | _=>false
theorem Inv.freeze {a:Addr} {u:HO} {o:Obj} (I:Inv X pins σ H s) (ha:H a=some u) (hu:dJB u=true) (ho:s.heap.get? a=some o):Inv X pins σ (upd H a (.frz o u)) s:=by
 have ne:∀ c v,H c=some v->dJB v=false->c≠a:=λc v q n z=>by rw [z,ha] at q; cases q; rw [n] at hu; cases hu
 have own:∀ c y,H c=some (.own y)->upd H a (.frz o u) c=some (.own y):=λc y q=>by rw [aK (ne c _ q rfl)]; exact q
 have tup:∀ c xs,H c=some (.tup xs)->upd H a (.frz o u) c=some (.tup xs):=λc xs q=>by rw [aK (ne c _ q rfl)]; exact q
 refine I.re (λb q=>by rw [aK (λz=>by rw [z,ha] at q; cases q)]; exact q) (λb xs q=>tup b xs (I.base.tups b xs q)) (λb o' v q=>?_) (λb ps q=>?_) (λb v q=>?_)
 · have:=I.base.frzs b o' v q
   rw [aK (ne b _ this rfl)]
   exact this
 · obtain ⟨m,e⟩:=I.base.tbls b ps q
   exact ⟨m,by rw [aK (ne b _ e rfl)]; exact e⟩
 · by_cases hb:b=a
   · subst hb
     rw [aD] at q
     cases q
     exact (show s.heap.get? b=some o/\ObjOk X.prog X.w (upd H b (.frz o u)) s.heap b u from ⟨ho,(I.hok b _ ha).stay (λ_ _ _ q=>q) (λc=>own c b) tup⟩)
   · rw [aK hb] at q
     exact (I.hok b v q).stay (λ_ _ _ q=>q) (λc=>own c b) tup
def unf (Hs H:Hp):Hp:=λb=>match H b with
 | some (.frz o u)=>(match Hs b with | some (.frz _ _)=>some (.frz o u) | _=>some u)
 | x=>x
theorem eP {Hs H:Hp} {b:Addr} {u:HO} (h:H b=some u) (n:∀ o v,u≠.frz o v):unf Hs H b=some u:=by
 unfold unf
 rw [h]
 cases u <;> first | rfl | exact absurd rfl (n _ _)
theorem wM {Hs H:Hp} {b:Addr} (h:H b=none):unf Hs H b=none:=by unfold unf; rw [h]
theorem uB {Hs H:Hp} {b:Addr} {o:Obj} {u:HO} (h:H b=some (.frz o u)) (n:∀ o v,Hs b≠some (.frz o v)):unf Hs H b=some u:=by
 unfold unf
 rw [h]
 dsimp only
 split
 · rename_i e
   exact absurd e (n _ _)
 · rfl
theorem lW {Hs H:Hp} {b:Addr} {o o':Obj} {u u':HO} (h:H b=some (.frz o u)) (n:Hs b=some (.frz o' u')):unf Hs H b=some (.frz o u):=by
 unfold unf
 rw [h]
 dsimp only
 rw [n]
theorem Inv.unfreeze {Hs:Hp} (I:Inv X pins σ H s) (h0:∀ b o u,X.H₀ b=some (.frz o u)->Hs b=some (.frz o u)):Inv X pins σ (unf Hs H) s:=by
 have own:∀ c y,H c=some (.own y)->unf Hs H c=some (.own y):=λc y q=>eP q λ_ _ z=>by cases z
 have tup:∀ c xs,H c=some (.tup xs)->unf Hs H c=some (.tup xs):=λc xs q=>eP q λ_ _ z=>by cases z
 refine I.re (λb q=>wM q) (λb xs q=>tup b xs (I.base.tups b xs q)) (λb o u q=>lW (I.base.frzs b o u q) (h0 b o u q)) (λb ps q=>?_) (λb u q=>?_)
 · obtain ⟨m,e⟩:=I.base.tbls b ps q
   exact ⟨m,eP e λ_ _ z=>by cases z⟩
 · cases e:H b with
   | none=>rw [wM e] at q; cases q
   | some v=>
     have ok:=I.hok b v e
     by_cases hf:∃ o v',v=.frz o v'
     · obtain ⟨o,v',rfl⟩:=hf
       have ok2:s.heap.get? b=some o/\ObjOk X.prog X.w H s.heap b v':=ok
       by_cases hs:∃ o' u',Hs b=some (.frz o' u')
       · obtain ⟨o',u',hs⟩:=hs
         rw [lW e hs] at q
         cases q
         exact ok.stay (λ_ _ _ q=>q) (λc=>own c b) tup
       · rw [uB e λo v z=>hs ⟨o,v,z⟩] at q
         cases q
         exact ok2.2.stay (λ_ _ _ q=>q) (λc=>own c b) tup
     · rw [eP e λo v' z=>hf ⟨o,v',z⟩] at q
       cases q
       exact ok.stay (λ_ _ _ q=>q) (λc=>own c b) tup
def bJV (Hs:Hp) (D:Ends):Ends:=⟨λσ H=>D.nx σ (unf Hs H),λv H=>D.rt v (unf Hs H),λσ H=>D.bk σ (unf Hs H),λσ H=>D.ct σ (unf Hs H)⟩
end
section
variable {X:Cx} {e:Expr} {st:Stmt}
def dZ7 (t:TE):TE:=λσ H Q=>t σ H λv H'=>Q v (unf H H')
def cZ5 (t:TS):TS:=λD σ H=>t (bJV H D) σ H
theorem bQW {t:TE} (h:PE X e t):PE X e (dZ7 t):=λpins s σ H Q I q=>thn (h pins s σ H _ I q) λv s' ⟨x,H',I',r,q'⟩=>⟨x,unf H H',I'.unfreeze λb o u e=>I.base.frzs b o u e,r,q'⟩
theorem aQU {t:TS} (h:PS X st t):PS X st (cZ5 t):=λpins s σ H D I q=>thn (h pins s σ H _ I q) λf s' q'=>by
 cases f with
 | next=>obtain ⟨σ',H',I',r⟩:=q'; exact ⟨σ',unf H H',I'.unfreeze λb o u e=>I.base.frzs b o u e,r⟩
 | brk=>obtain ⟨σ',H',I',r⟩:=q'; exact ⟨σ',unf H H',I'.unfreeze λb o u e=>I.base.frzs b o u e,r⟩
 | cont=>obtain ⟨σ',H',I',r⟩:=q'; exact ⟨σ',unf H H',I'.unfreeze λb o u e=>I.base.frzs b o u e,r⟩
 | ret u=>obtain ⟨v,σ',H',I',rv,r⟩:=q'; exact ⟨v,σ',unf H H',I'.unfreeze λb o u e=>I.base.frzs b o u e,rv,r⟩
theorem dJ9 {t:TE} {σ:St} {H:Hp} {Q:VK} (h:t σ H λv H'=>Q v (unf H H')):dZ7 t σ H Q:=h
theorem dXA {t:TS} {D:Ends} {σ:St} {H:Hp} (h:t (bJV H D) σ H):cZ5 t D σ H:=h
end
theorem qQ {Hs H:Hp} {a:Addr} {o:Obj} {u:HO} (ha:Hs a=some u) (hu:∀ o v,u≠.frz o v) (h:Same (upd Hs a (.frz o u)) H):Same Hs (unf Hs H):=λb v q=>by
 by_cases e:b=a
 · subst e
   rw [ha] at q
   cases q
   exact uB (h _ _ aD) λo v z=>by rw [ha] at z; cases z; exact hu _ _ rfl
 · have:=h b v (by rw [aK e]; exact q)
   by_cases hf:∃ o v',v=.frz o v'
   · obtain ⟨o',v',rfl⟩:=hf
     exact lW this q
   · exact eP this λo v' z=>hf ⟨o,v',z⟩
theorem aJ2 {Hs H:Hp} (h:Same Hs H):Same Hs (unf Hs H):=λb v q=>by
 have:=h b v q
 by_cases hf:∃ o v',v=.frz o v'
 · obtain ⟨o',v',rfl⟩:=hf
   exact lW this q
 · exact eP this λo v' z=>hf ⟨o,v',z⟩
theorem oX {α β:Type} {R:α->β->Prop} {xs:List α} {ys:List β} (r:Paired R xs ys):∀ {i:Nat} {x:α},xs[i]?=some x->∃ y,ys[i]?=some y/\R x y:=by
 induction r with
 | nil=>intro i x h; cases h
 | cons h t ih=>
   intro i x hx
   cases i with
   | zero=>cases hx; exact ⟨_,rfl,h⟩
   | succ i=>exact ih (i:=i) hx
theorem bZ7 {P:Program} {w:World} {k:Key} {u:Value} (h:(bB P w).is k u=true):RelV (kV k) u:=by
 rcases bR h with ⟨i,t,rfl,rfl⟩ | ⟨x,t,rfl,rfl⟩
 · exact ⟨t,rfl⟩
 · exact ⟨t,rfl⟩
def Itd (a:Addr) (o:Obj) (kvs:List (Key × V)):It:=⟨λi H=>H a=some (.frz o (.dK kvs))/\i < kvs.length,λi H x H'=>H'=H/\∃ kv,kvs[i]?=some kv/\x=kV kv.1,λi H=>H a=some (.frz o (.dK kvs))/\kvs.length=i⟩
theorem zL {X:Cx} {pins:List (Addr × Obj)} {σ:St} {H:Hp} {s:Shared} {a:Addr} {o:Obj} {kvs:List (Key × V)} {ep:Nat} (I:Inv X pins σ H s) (ha:H a=some (.frz o (.dK kvs))) (hep:∃ es,o.data=.dict es ep) :
   kvs.length<=sizeLine/\(a == sysModules)=false/\∃ vs,KV kvs vs/\s.heap.DictAt (bB X.prog X.w) a vs ep:=by
 have ok:s.heap.get? a=some o/\(kvs.length<=sizeLine/\(a == sysModules)=false/\∃ vs,KV kvs vs/\s.heap.DictOf (bB X.prog X.w) a vs):=I.hok a _ ha
 obtain ⟨e,z,hd,vs,rel,o',es',ep',ho',hx,hdat,r⟩:=ok
 rw [e] at ho'
 cases ho'
 obtain ⟨es,hes⟩:=hep
 have q:=hdat
 rw [hes] at q
 cases q
 exact ⟨z,hd,vs,rel,o,_,e,hx,hdat,r⟩
theorem aZX {P:Program} {w:World} {K:PySem.W.Frag} {tg:Expr} (a it:Addr) (o:Obj) (kvs:List (Key × V)) (ep:Nat) (hep:∃ es,o.data=.dict es ep):Turn P w K tg (Itd a o kvs) [it] it (λi h=>h.IsKeyIter it a i kvs.length ep) where
 mem:=by simp
 obj:=λi h st b hb=>by
   have e:b=it:=by simpa using hb
   subst e
   obtain ⟨o,e,c,d⟩:=st
   exact ⟨o,e,λv z=>by rw [d] at z; cases z⟩
 keep:=λi h h' st k=>let ⟨o,ho,r⟩:=st; ⟨o,k it (by simp) o ho,r⟩
 item:=by
   intro X hP hw hK hc i pins s σ H E I hf st hg
   subst hP hw hK
   obtain ⟨ha,hi⟩:=hg
   obtain ⟨z,hd,vs,rel,dd⟩:=zL I ha hep
   have hlv:=rel.length
   obtain ⟨f0,f1,f2,f3,f4,f5⟩:=hf it (by simp)
   obtain ⟨⟨k,v⟩,hx,hk1,_⟩:=oX rel (Aa hi)
   refine wpAny_pyNext_dict_item (knd:=bB X.prog X.w) (by rw [<-hlv]; exact st) dd hx λkey h' hk st' sb=>?_
   have I1:Inv X pins σ H { s with heap:=h' }:=I.turned (t':=s.toks) (λb o hb e=>(sb.2 b hb).trans e) f0 f1 f3 f4 f5
   obtain ⟨oi,e,c,d⟩:=id st'
   refine ⟨key,rfl,pW (s:={ s with heap:=h' }) e c d (by decide) ⟨kV k,H,I1,bZ7 hk,⟨rfl,kvs[i],Aa hi,by rw [hk1]⟩,?_,λb hb=>(hf b hb).1⟩⟩
   rw [hlv]
   exact st'
 done:=by
   intro X hP hw hK hc i pins s σ H E I hf st hg
   subst hP hw hK
   obtain ⟨ha,hi⟩:=hg
   obtain ⟨z,hd,vs,rel,dd⟩:=zL I ha hep
   have hlv:=rel.length
   obtain ⟨f0,f1,f2,f3,f4,f5⟩:=hf it (by simp)
   exact wpAny_pyNext_dict_end (knd:=bB X.prog X.w) (I.ok.hd hc) (by rw [<-hlv]; exact st) dd (List.getElem?_eq_none (by omega)) λh' eb=>⟨rfl,I.turned (t':=s.toks) (λb o hb e=>eb b o hb e) f0 f1 f3 f4 f5⟩
 self:=λ_ _ _ _ _ st h=>wpAny_pyIter_keyiter st h
section
variable {X:Cx} {tg:Expr}
theorem bZX {pins:List (Addr × Obj)} {σ:St} {H:Hp} {s:Shared} {a:Addr} {kvs:List (Key × V)} (I:Inv X pins σ H s) (ha:H a=some (.dK kvs)):∃ o es ep,s.heap.get? a=some o/\o.data=.dict es ep:=by
 obtain ⟨_,_,vs,_,o,es,ep,ho,_,hd,_⟩:=cZF I.hok ha
 exact ⟨o,es,ep,ho,hd⟩
theorem cQE {pins:List (Addr × Obj)} {σ:St} {H:Hp} {s:Shared} {a:Addr} {o:Obj} {kvs:List (Key × V)} (I:Inv X pins σ H s) (ha:H a=some (.frz o (.dK kvs))):∃ ep,∃ es,o.data=.dict es ep:=by
 have ok:s.heap.get? a=some o/\(kvs.length<=sizeLine/\(a == sysModules)=false/\∃ vs,KV kvs vs/\s.heap.DictOf (bB X.prog X.w) a vs):=I.hok a _ ha
 obtain ⟨e,_,_,vs,_,o',es,ep,ho,_,hd,_⟩:=ok
 rw [e] at ho
 cases ho
 exact ⟨ep,es,hd⟩
def uR (H:Hp) (a:Addr) (R:Obj->List (Key × V)->Hp->Prop):Prop:=(∃ kvs,H a=some (.dK kvs)/\∀ o,R o kvs (upd H a (.frz o (.dK kvs))))\/∃ o kvs,H a=some (.frz o (.dK kvs))/\R o kvs H
theorem walk_at {pins:List (Addr × Obj)} {σ:St} {H:Hp} {s:Shared} {a:Addr} {R:Obj->List (Key × V)->Hp->Prop} (I:Inv X pins σ H s) (h:uR H a R) :
   ∃ o kvs H' ep,Inv X pins σ H' s/\H' a=some (.frz o (.dK kvs))/\(∃ es,o.data=.dict es ep)/\R o kvs H':=by
 rcases h with ⟨kvs,ha,q⟩ | ⟨o,kvs,ha,q⟩
 · obtain ⟨o,es,ep,ho,hd⟩:=bZX I ha
   exact ⟨o,kvs,_,ep,I.freeze ha rfl ho,aD,⟨es,hd⟩,q o⟩
 · obtain ⟨ep,es,hd⟩:=cQE I ha
   exact ⟨o,kvs,H,ep,I,ha,⟨es,hd⟩,q⟩
def cJA (tl:TE):TI:=λσ H R=>tl σ H (gM λa H1=>uR H1 a λo kvs H2=>R (Itd a o kvs) H2)
theorem cQH {l:Expr} {tl:TE} (hl:PE X l tl):PI X tg l (cJA tl):=by
 intro pins s σ H R I h
 refine thn (hl pins s σ H _ I h) λv s1 ⟨x,H1,I1,r1,q1⟩=>?_
 unfold gM at q1
 split at q1
 · cases r1
   rename_i a0 _
   obtain ⟨o,kvs,H2,ep,I2,ha,hep,q⟩:=walk_at I1 q1
   obtain ⟨z,hd,vs,rel,dd⟩:=zL I2 ha hep
   refine wpAny_pyIter_dict (knd:=bB X.prog X.w) hd dd ?_
   refine ⟨s1.heap.objs.size,[s1.heap.objs.size],_,_,H2,rfl,I2.kept (t':=s1.toks) λb o e=>Af _ e,aZX a0 _ o kvs ep hep,⟨_,Av _ rfl,rfl,by rw [rel.length]; rfl⟩,λb hb=>?_,q⟩
   have e:b=s1.heap.objs.size:=by simpa using hb
   subst e
   exact I2.fpOk (Ah _) (I2.hok.fresh (Ah _))
 · exact q1.elim
def isD (H:Hp) (p:Addr):Bool:=match H p with
 | some (.dK _)=>true
 | some (.dT _)=>true
 | some (.frz _ (.dK _))=>true
 | some (.frz _ (.dT _))=>true
 | _=>false
theorem dXL {H:Hp} {p:Addr} (h:isD H p=true):IsD H p:=by
 unfold isD at h
 split at h
 · exact .inl ⟨_,.inl (by assumption)⟩
 · exact .inr ⟨_,.inl (by assumption)⟩
 · exact .inl ⟨_,.inr ⟨_,by assumption⟩⟩
 · exact .inr ⟨_,.inr ⟨_,by assumption⟩⟩
 · cases h
theorem nI {H:Hp} {p:Addr} {kvs:List (Key × V)} (h:H p=some (.dK kvs)):isD H p=true:=by unfold isD; rw [h]
theorem bXR {H:Hp} {p:Addr} {o:Obj} {kvs:List (Key × V)} (h:H p=some (.frz o (.dK kvs))):isD H p=true:=by unfold isD; rw [h]
end
section
variable {a:Addr} {o:Obj} {kvs:List (Key × V)} {g:TG} {tb:TS} {D:Ends} {σ:St} {H:Hp} {R:It->Hp->Prop} {tl:TE}
theorem cQ4 (h:tl σ H (gM λa H1=>uR H1 a λo kvs H2=>R (Itd a o kvs) H2)):cJA tl σ H R:=h
theorem dXQ {Rw:Obj->List (Key × V)->Hp->Prop} (e:H a=some (.dK kvs)) (h:∀ o,Rw o kvs (upd H a (.frz o (.dK kvs)))):uR H a Rw:=.inl ⟨kvs,e,h⟩
end
section
variable {X:Cx} {o e:Expr} {es:List Expr} {to:TE} {t:TA} {name:Str} {apos cpos:Pos} {id:String} {r:V->List V->Hp->VK->Prop}
def bZV (r:V->List V->Hp->VK->Prop) (to:TE) (t:TA):TE:=λσ H Q=>to σ H (gM λp H1=>isD H1 p=true/\t σ H1 λxs H2=>r (.ref p) xs H2 Q)
theorem dP (slot:Slot "dict" name id) (hty:typeOf (.builtin id)=pure (.type "method_descriptor")) (hm:MtR X id r) (ho:PE X o to) (ha:PA X (e :: es) t)
   (hbase:attributeBase o name X.env (eval o X.env)=eval o X.env:=by rfl)
   (hfew:((backTo cpos (starEach (e :: es) X.env)).all (λx=>!x.1) && (backToKw cpos (keywordEach [] X.env)).all (λx=>x.1.isSome)
     && decide ((e :: es).length + ([]:List Keyword).length + (if ([]:List Keyword).isEmpty then 0 else 1) < 30))=true:=by rfl)
   (hline:(apos.endLine == cpos.line)=true:=by rfl) (hs:starEach (e :: es) X.env=(false,eval e X.env) :: starEach es X.env:=by rfl) (hplain:(backTo cpos (starEach es X.env)).any (·.1)=false:=by rfl) :
   PE X (.Call (.Attribute o name apos) (e :: es) [] cpos) (bZV r to t):=by
 intro pins s σ H Q I h
 refine wpAny_Call_method_late hbase hfew hline rfl (thn (ho pins s σ H _ I h) λv s1 ⟨x,H1,I1,r1,q⟩=>?_)
 unfold gM at q
 split at q
 · obtain ⟨hd,q1⟩:=q
   obtain ⟨h1,h2,_⟩:=dQ5 I1 (dXL hd)
   cases _root_.id r1
   refine ⟨"dict",_,PySem.F.plainAttrs_dict,slot,hty,h1,h2,?_⟩
   have hA:=ha cpos pins s1 σ H1 _ I1 q1
   rw [hs] at hA ⊢
   refine Calls.callWith_builtin (by show (false || (backTo cpos (starEach es X.env)).any (·.1))=false; rw [hplain] <;> rfl) (Calls.evalArgs_plain ?_)
   exact thn hA λus s2 ⟨vs,H2,I2,r2,q2⟩=>hm pins s2 σ H2 _ vs _ us Q I2 r1 r2 q2
 · exact q.elim
def dJZ:V->List V->Hp->VK->Prop:=λx vs H Q=>∃ a y z o,x=.ref a/\vs=[y,z]/\DGet H a y o/\Q (o.getD z) H
theorem nP (hu:X.A.units + 1 < cLine):MtR X "dict.get" dJZ:=by
 intro pins s σ H x vs v us Q I rx rv h
 obtain ⟨a,y,z,ov,rfl,rfl,g,q⟩:=h
 cases rx
 obtain ⟨u,w',rfl,ru,rw'⟩:=pJ rv
 exact dX0 hu I g ru rw' λw1 s1 I1 r1=>⟨_,H,I1,r1,q⟩
def aX2:List V->Hp->VK->Prop:=λxs H Q=>∃ a kvs,xs=[.ref a]/\Rd H a (.dK kvs)/\∀ p,H p=none->Q (.ref p) (upd H p (.dK kvs))
theorem pS:CallR X (.type "dict") aX2:=by
 intro pins s σ H xs us Q I r h
 obtain ⟨a,kvs,rfl,ha,q⟩:=h
 obtain ⟨u,rfl,ru⟩:=eX r
 cases ru
 exact bQX I ha λp s1 hp I1=>⟨.ref p,_,I1,rfl,q p hp⟩
def dXR (x y:V) (H:Hp) (Q:VK):Prop:=∃ a v,x=.ref a/\DGet H a y (some v)/\Q v H
def bZL (D:Ends) (σ:St) (x y v:V) (H:Hp):Prop:=∃ a H4,x=.ref a/\DPut H a y v H4/\D.nx σ H4
end
section
variable {σ:St} {H:Hp} {Q:VK} {D:Ends} {a:Addr} {kvs:List (Key × V)} {z:Str} {v w:V} {to td ty tv:TE} {t:TA} {r:V->List V->Hp->VK->Prop}
theorem bJ7 (h:to σ H (gM λp H1=>isD H1 p=true/\t σ H1 λxs H2=>r (.ref p) xs H2 Q)):bZV r to t σ H Q:=h
theorem dJ7 {P:Prop} (e:isD H a=true) (h:P):isD H a=true/\P:=⟨e,h⟩
theorem nW (e:Rd H a (.dK kvs)) (h:Q ((bU kvs (Sum.inr z)).getD w) H):dJZ (.ref a) [.str z,w] H Q:=⟨a,.str z,w,_,rfl,rfl,.inl ⟨kvs,.inr z,e,rfl,rfl⟩,h⟩
theorem oW (e:Rd H a (.dK kvs)) (h:∀ p,H p=none->Q (.ref p) (upd H p (.dK kvs))):aX2 [.ref a] H Q:=⟨a,kvs,rfl,e,h⟩
theorem dXN (h:∀ p,H p=none->Q (.ref p) (upd H p (.dK []))):bZU σ H Q:=h
theorem dJ0 (h:td σ H λx H1=>ty σ H1 λy H2=>dXR x y H2 Q):cJH td ty σ H Q:=h
theorem pL (e:Rd H a (.dK kvs)) (l:bU kvs (Sum.inr z)=some v) (h:Q v H):dXR (.ref a) (.str z) H Q:=⟨a,v,rfl,.inl ⟨kvs,.inr z,e,rfl,l.symm⟩,h⟩
theorem dQN (h:tv σ H λv H1=>td σ H1 λx H2=>ty σ H2 λy H3=>bZL D σ x y v H3):cZ2 td ty tv D σ H:=h
theorem eU (e:H a=some (.dK kvs)) (l:kvs.length < sizeLine) (h:D.nx σ (upd H a (.dK (dH kvs (Sum.inr z) v)))):bZL D σ (.ref a) (.str z) v H:=⟨a,_,rfl,.inl ⟨kvs,.inr z,e,rfl,l,rfl⟩,h⟩
end
end L2
set_option maxHeartbeats 4000000
namespace L2
open PySem PySem.Spec PyProof.Rows
open PySem.AutoSeq1 (wpAny_loadPart')
open PySem.MeetsSeq PySem.MeetsSeq2 PySem.MeetsSeq3
def EqW (P:Program) (w:World) (A:Around) (s:Shared) (u v:Value):Prop:=∀ (E:Value->Shared->Prop) (Q:Bool->Shared->Prop),Q true s->wpAny (model P w) A (eqBool u v) Q E s
theorem aZV {P:Program} {w:World} (l b:Addr) (xs ys:Array Value) (n n2:Nat) (dd dd2:Option Addr) (sl sl2:Array (Option Value)) (hsz:xs.size=ys.size) (k:Nat) :
   ∀ i:Nat,xs.size - i=k->MeetsIn P w (Builtin.«list.__eq__.loop» ⟨[.ref l,.ref b,rawInt i,rawInt 2],[]⟩)
     (λA R s=>s.heap.get? l=some ⟨.type "list",dd,.seq xs n,sl⟩/\s.heap.get? b=some ⟨.type "list",dd2,.seq ys n2,sl2⟩/\(∀ j (h1:j < xs.size) (h2:j < ys.size),EqW P w A.in1 s xs[j] ys[j])/\R (.ok (.ret (.bool true))) s):=by
 induction k with
 | zero=>
   intro i hk A R s h
   obtain ⟨hp,g,d,tk,os⟩:=s
   obtain ⟨ha,hq,he,h⟩:=h
   wp_walk using (Bv ha),(Bv hq)
   have n1:xs[((i:Nat):Int).toNat]?=none:=by simp; omega
   have n2':ys[((i:Nat):Int).toNat]?=none:=by simp; omega
   rw [n1,n2']
   wp_walk using (Bv ha),(Bv hq)
   show R (.ok (.ret (.bool (xs.size == ys.size)))) _
   rw [hsz,beq_self_eq_true]
   exact h
 | succ k ih=>
   intro i hk A R s h
   obtain ⟨hp,g,d,tk,os⟩:=s
   obtain ⟨ha,hq,he,h⟩:=h
   wp_walk using (Bv ha),(Bv hq)
   have l1:i < xs.size:=by omega
   have l2:i < ys.size:=by omega
   have n1:xs[((i:Nat):Int).toNat]?=some xs[i]:=by simp [l1]
   have n2':ys[((i:Nat):Int).toNat]?=some ys[i]:=by simp [l2]
   have hc:((i:Int) + 1)=((i + 1:Nat):Int):=by push_cast; rfl
   rw [n1,n2']
   refine Ac (he i l1 l2 _ _ ?_)
   wp_walk
   rw [hc]
   refine ⟨Gu plain_eq_loop _,Ei entry_eq_loop ?_⟩
   rw [En plain_eq_loop _]
   exact ih (i + 1) (by omega) A R _ ⟨ha,hq,he,h⟩
theorem bQC {P:Program} {w:World} (l b:Addr) (xs ys:Array Value) (n n2:Nat) (dd dd2:Option Addr) (sl sl2:Array (Option Value)) (hsz:xs.size=ys.size) (k:Nat) :
   ∀ i:Nat,xs.size - i=k->MeetsIn P w (Builtin.«list.__eq__.loop» ⟨[.ref l,.ref b,rawInt i,rawInt 3],[]⟩)
     (λA R s=>s.heap.get? l=some ⟨.type "list",dd,.seq xs n,sl⟩/\s.heap.get? b=some ⟨.type "list",dd2,.seq ys n2,sl2⟩/\(∀ j (h1:j < xs.size) (h2:j < ys.size),EqW P w A.in1 s xs[j] ys[j])/\R (.ok (.ret (.bool false))) s):=by
 induction k with
 | zero=>
   intro i hk A R s h
   obtain ⟨hp,g,d,tk,os⟩:=s
   obtain ⟨ha,hq,he,h⟩:=h
   wp_walk using (Bv ha),(Bv hq)
   have n1:xs[((i:Nat):Int).toNat]?=none:=by simp; omega
   have n2':ys[((i:Nat):Int).toNat]?=none:=by simp; omega
   rw [n1,n2']
   wp_walk using (Bv ha),(Bv hq)
   show R (.ok (.ret (.bool (xs.size != ys.size)))) _
   rw [hsz,bne_self_eq_false]
   exact h
 | succ k ih=>
   intro i hk A R s h
   obtain ⟨hp,g,d,tk,os⟩:=s
   obtain ⟨ha,hq,he,h⟩:=h
   wp_walk using (Bv ha),(Bv hq)
   have l1:i < xs.size:=by omega
   have l2:i < ys.size:=by omega
   have n1:xs[((i:Nat):Int).toNat]?=some xs[i]:=by simp [l1]
   have n2':ys[((i:Nat):Int).toNat]?=some ys[i]:=by simp [l2]
   have hc:((i:Int) + 1)=((i + 1:Nat):Int):=by push_cast; rfl
   rw [n1,n2']
   refine Ac (he i l1 l2 _ _ ?_)
   wp_walk
   rw [hc]
   refine ⟨Gu plain_eq_loop _,Ei entry_eq_loop ?_⟩
   rw [En plain_eq_loop _]
   exact ih (i + 1) (by omega) A R _ ⟨ha,hq,he,h⟩
section
variable {P:Program} {w:World} {A:Around} {E:Value->Shared->Prop} {s:Shared} {l b:Addr} {xs ys:Array Value}
theorem bJO {Q:Value->Shared->Prop} (hl:s.heap.IsList l xs) (hb:s.heap.IsList b ys) (hsz:xs.size=ys.size) (hu:A.units < cLine) (he:∀ j (h1:j < xs.size) (h2:j < ys.size),EqW P w A.in1 s xs[j] ys[j]) (h:Q (.bool true) s) :
   wpAny (model P w) A (richCompare .Eq (.ref l) (.ref b)) Q E s:=by
 obtain ⟨⟨cls,dd,data,sl⟩,ho,hc,n,hd⟩:=id hl
 obtain ⟨⟨cls2,dd2,data2,sl2⟩,ho2,hc2,n2,hd2⟩:=id hb
 obtain rfl:cls=.type "list" := hc
 obtain rfl:data=.seq xs n:=hd
 obtain rfl:cls2=.type "list" := hc2
 obtain rfl:data2=.seq ys n2:=hd2
 have g:MeetsIn P w (Builtin.«list.__eq__» ⟨[.ref l,.ref b],[]⟩) (λA R s=>s.heap.get? l=some ⟨.type "list",dd,.seq xs n,sl⟩/\s.heap.get? b=some ⟨.type "list",dd2,.seq ys n2,sl2⟩/\(∀ j (h1:j < xs.size) (h2:j < ys.size),EqW P w A.in1 s xs[j] ys[j])/\R (.ok (.ret (.bool true))) s):=by
   intro A R s h
   obtain ⟨hp,g,d,tk,os⟩:=s
   obtain ⟨ha,hq,he,h⟩:=h
   have f3:=AutoSeq1.sub_list_list
   have hne:¬ (xs.size != ys.size)=true:=by simp [hsz]
   wp_walk using (Bv ha),(Bv hq)
   refine ⟨Gu plain_eq_loop _,Ei entry_eq_loop ?_⟩
   rw [En plain_eq_loop _]
   exact aZV l b xs ys n n2 dd dd2 sl sl2 hsz _ 0 rfl A R _ ⟨ha,hq,he,h⟩
 exact Fi (op:=.Eq) ⟨_,ho,rfl⟩ ⟨_,ho2,rfl⟩ PySem.F.slot_list_eq (Gi PySem.F.slot_list_eq ⟨_,ho,rfl⟩ PySem.F.entry_list_eq (PySem.F.args_list_eq_2 _ _) g ⟨ho,ho2,he,show Value.bool true≠Value.notImplemented/\Q (.bool true) s from ⟨(λx=>nomatch x),h⟩⟩) hu
theorem bXD {Q:Value->Shared->Prop} (hl:s.heap.IsList l xs) (hb:s.heap.IsList b ys) (hsz:xs.size=ys.size) (hu:A.units < cLine) (he:∀ j (h1:j < xs.size) (h2:j < ys.size),EqW P w A.in1 s xs[j] ys[j]) (h:Q (.bool false) s) :
   wpAny (model P w) A (richCompare .NotEq (.ref l) (.ref b)) Q E s:=by
 obtain ⟨⟨cls,dd,data,sl⟩,ho,hc,n,hd⟩:=id hl
 obtain ⟨⟨cls2,dd2,data2,sl2⟩,ho2,hc2,n2,hd2⟩:=id hb
 obtain rfl:cls=.type "list" := hc
 obtain rfl:data=.seq xs n:=hd
 obtain rfl:cls2=.type "list" := hc2
 obtain rfl:data2=.seq ys n2:=hd2
 have g:MeetsIn P w (Builtin.«list.__ne__» ⟨[.ref l,.ref b],[]⟩) (λA R s=>s.heap.get? l=some ⟨.type "list",dd,.seq xs n,sl⟩/\s.heap.get? b=some ⟨.type "list",dd2,.seq ys n2,sl2⟩/\(∀ j (h1:j < xs.size) (h2:j < ys.size),EqW P w A.in1 s xs[j] ys[j])/\R (.ok (.ret (.bool false))) s):=by
   intro A R s h
   obtain ⟨hp,g,d,tk,os⟩:=s
   obtain ⟨ha,hq,he,h⟩:=h
   have f3:=AutoSeq1.sub_list_list
   have hne:¬ (xs.size != ys.size)=true:=by simp [hsz]
   wp_walk using (Bv ha),(Bv hq)
   refine ⟨Gu plain_eq_loop _,Ei entry_eq_loop ?_⟩
   rw [En plain_eq_loop _]
   exact bQC l b xs ys n n2 dd dd2 sl sl2 hsz _ 0 rfl A R _ ⟨ha,hq,he,h⟩
 exact Fi (op:=.NotEq) ⟨_,ho,rfl⟩ ⟨_,ho2,rfl⟩ PySem.F.slot_list_ne (Gi PySem.F.slot_list_ne ⟨_,ho,rfl⟩ PySem.F.entry_list_ne (PySem.F.args_list_ne_2 _ _) g ⟨ho,ho2,he,show Value.bool false≠Value.notImplemented/\Q (.bool false) s from ⟨(λx=>nomatch x),h⟩⟩) hu
theorem EqW.same (u:Value):EqW P w A s u u:=λE Q hq=>SeqAt.EqAt.same u P w E Q hq
theorem EqW.refs (hne:l≠b) (h:∀ (E:Value->Shared->Prop) (Q:Value->Shared->Prop),Q (.bool true) s->wpAny (model P w) A (richCompare .Eq (.ref l) (.ref b)) Q E s):EqW P w A s (.ref l) (.ref b):=λE Q hq=>by
 unfold eqBool
 refine Bs (wpAny_ite_split (λhab=>absurd (by have:=eq_of_beq hab; injection this) hne) (λ_=>?_))
 exact Ac (h E _ (Ej hq))
end
def DEq (kvs kws:List (Key × V)):Prop:=kvs.length=kws.length/\∀ kv∈kvs,bX kv.2=true/\bU kws kv.1=some kv.2
theorem aX1 {A:Around} {s:Shared} {kws:List (Key × V)} {ws:List (Key × Value)} (rw':KV kws ws) {kvs:List (Key × V)} {vs:List (Key × Value)} (r:KV kvs vs) (h:∀ kv∈kvs,bX kv.2=true/\bU kws kv.1=some kv.2):PySem.W.KeqHits A s ws vs true:=by
 unfold KV at r
 induction r with
 | nil=>exact .nil
 | @cons kv vv _ _ hk t ih=>
   obtain ⟨k,v⟩:=kv
   obtain ⟨k',u⟩:=vv
   obtain ⟨e,ru⟩:=hk
   cases e
   obtain ⟨f,hv⟩:=h (k,v) (Aq ..)
   have ro:=rw'.val k
   rw [hv] at ro
   cases ey:valueAt ws k with
   | none=>rw [ey] at ro; exact (show False from ro).elim
   | some y=>
     rw [ey] at ro
     have eq:=lN (A:=A) (s:=s) ru (show RelV v y from ro) f f
     rw [jM f] at eq
     exact .hit (e:=true) (b:=true) ey eq (ih λkv hkv=>h kv (An _ hkv))
theorem aXM {X:Cx} {pins:List (Addr × Obj)} {σ:St} {H:Hp} {s:Shared} (I:Inv X pins σ H s) {A:Around} {p q:Addr} {kvs kws:List (Key × V)} (hp:Rd H p (.dK kvs)) (hq:Rd H q (.dK kws)) (d:DEq kvs kws) (hu:A.units < cLine) (E:Value->Shared->Prop) (Q:Value->Shared->Prop) :
   (Q (.bool true) s->wpAny (model X.prog X.w) A (richCompare .Eq (.ref p) (.ref q)) Q E s)/\(Q (.bool false) s->wpAny (model X.prog X.w) A (richCompare .NotEq (.ref p) (.ref q)) Q E s):=by
 obtain ⟨z1,d1,vs,r1,dd1⟩:=gP I.hok hp
 obtain ⟨z2,d2,ws,r2,dd2⟩:=gP I.hok hq
 have hl:(vs.length == ws.length)=true:=beq_iff_eq.mpr (by rw [<-r1.length,<-r2.length]; exact d.1)
 refine ⟨λh=>PySem.W.keq_eq (r:=true) d1 d2 dd1 dd2 hu (λ_=>aX1 r2 r1 d.2) (by rw [hl]; exact h),λh=>PySem.W.keq_ne (r:=true) d1 d2 dd1 dd2 hu (λ_=>aX1 r2 r1 d.2) (by rw [hl]; exact h)⟩
def Alw (H:Hp):Nat->V->V->Prop
 | 0,x,y=>x=y/\bX x=true
 | n + 1,x,y=>(x=y/\bX x=true)\/∃ p q,x=.ref p/\y=.ref q/\((∃ xs ys,rdL H p=some xs/\rdL H q=some ys/\xs.length=ys.length/\∀ (j:Nat) x' y',xs[j]?=some x'->ys[j]?=some y'->Alw H n x' y')\/∃ kvs kws,Rd H p (.dK kvs)/\Rd H q (.dK kws)/\DEq kvs kws)
theorem Alw.flat {H:Hp} {n:Nat} {x:V} (h:bX x=true):Alw H n x x:=by
 cases n with
 | zero=>exact ⟨rfl,h⟩
 | succ n=>exact .inl ⟨rfl,h⟩
theorem Alw.lst {H:Hp} {n:Nat} {p q:Addr} {xs ys:List V} (hp:rdL H p=some xs) (hq:rdL H q=some ys) (hl:xs.length=ys.length) (h:∀ (j:Nat) x y,xs[j]?=some x->ys[j]?=some y->Alw H n x y):Alw H (n + 1) (.ref p) (.ref q):=.inr ⟨p,q,rfl,rfl,.inl ⟨xs,ys,hp,hq,hl,h⟩⟩
theorem Alw.dic {H:Hp} {n:Nat} {p q:Addr} {kvs kws:List (Key × V)} (hp:Rd H p (.dK kvs)) (hq:Rd H q (.dK kws)) (d:DEq kvs kws):Alw H (n + 1) (.ref p) (.ref q):=.inr ⟨p,q,rfl,rfl,.inr ⟨kvs,kws,hp,hq,d⟩⟩
theorem Alw.flats {H:Hp} {n:Nat} {xs:List V} (f:xs.all bX=true):∀ (j:Nat) x y,xs[j]?=some x->xs[j]?=some y->Alw H n x y:=λj x y hx hy=>by
 rw [hx] at hy
 cases hy
 exact .flat (Dn.mp f x (Ak hx))
theorem zS {X:Cx} {pins:List (Addr × Obj)} {σ:St} {H:Hp} {s:Shared} (I:Inv X pins σ H s) {n:Nat} {A:Around} (ih:∀ x y u v,Alw H n x y->RelV x u->RelV y v->EqW X.prog X.w A.in1 s u v) {p q:Addr} (h:Alw H (n + 1) (.ref p) (.ref q)) (hu:A.units < cLine) (E:Value->Shared->Prop) (Q:Value->Shared->Prop) :
   (Q (.bool true) s->wpAny (model X.prog X.w) A (richCompare .Eq (.ref p) (.ref q)) Q E s)/\(Q (.bool false) s->wpAny (model X.prog X.w) A (richCompare .NotEq (.ref p) (.ref q)) Q E s):=by
 rcases h with ⟨_,f⟩ | ⟨p',q',e1,e2,hpq⟩
 · cases f
 · cases e1
   cases e2
   rcases hpq with ⟨xs,ys,hp,hq,hl,h⟩ | ⟨kvs,kws,hp,hq,d⟩
   · obtain ⟨its,r1,l1,_⟩:=I.list (aU hp)
     obtain ⟨its2,r2,l2,_⟩:=I.list (aU hq)
     have e1:=r1.length
     have e2:=r2.length
     have he:∀ j (h1:j < its.toArray.size) (h2:j < its2.toArray.size),EqW X.prog X.w A.in1 s its.toArray[j] its2.toArray[j]:=λj h1 h2=>by
       have h1':j < its.length:=by simpa using h1
       have h2':j < its2.length:=by simpa using h2
       obtain ⟨u',hu',ru'⟩:=r1.get (Aa (show j < xs.length by omega))
       obtain ⟨v',hv',rv'⟩:=r2.get (Aa (show j < ys.length by omega))
       rw [Aa h1'] at hu'
       rw [Aa h2'] at hv'
       cases hu'
       cases hv'
       simpa using ih _ _ _ _ (h j _ _ (List.getElem?_eq_getElem _) (List.getElem?_eq_getElem _)) ru' rv'
     have hs:its.toArray.size=its2.toArray.size:=by simp only [List.size_toArray]; omega
     exact ⟨λq=>bJO l1.isList l2.isList hs hu he q,λq=>bXD l1.isList l2.isList hs hu he q⟩
   · exact aXM I hp hq d hu E Q
theorem bX7 {X:Cx} {pins:List (Addr × Obj)} {σ:St} {H:Hp} {s:Shared} (I:Inv X pins σ H s):∀ (n:Nat) (A:Around) (x y:V) (u v:Value),Alw H n x y->RelV x u->RelV y v->A.units + n < cLine->EqW X.prog X.w A s u v:=by
 intro n
 induction n with
 | zero=>
   intro A x y u v h ru rv hu
   obtain ⟨rfl,f⟩:=h
   have:=lN (A:=A) (s:=s) ru rv f f
   rw [jM f] at this
   exact λE Q hq=>this X.prog X.w E Q hq
 | succ n ih=>
   intro A x y u v h ru rv hu
   rcases id h with ⟨rfl,f⟩ | ⟨p,q,rfl,rfl,hpq⟩
   · have:=lN (A:=A) (s:=s) ru rv f f
     rw [jM f] at this
     exact λE Q hq=>this X.prog X.w E Q hq
   · cases ru
     cases rv
     by_cases e:p=q
     · subst e
       exact .same _
     exact .refs e λE Q hq=>(zS I (λx y u v hx hu' hv'=>ih A.in1 x y u v hx hu' hv' (by show A.units + 1 + n < cLine; omega)) h (by omega) E Q).1 hq
section
variable {X:Cx}
def dQT (neg:Bool):R2:=λx y H Q=>∃ n p q,n<=50/\x=.ref p/\y=.ref q/\Alw H (n + 1) x y/\Q (.bl (!neg)) H
theorem dJU (hu:X.A.units + 64 < cLine):OpR X (compareOp .Eq) (dQT false):=by
 intro pins s σ H x y v u Q I rx ry h
 obtain ⟨n,p,q,hn,rfl,rfl,al,k⟩:=h
 cases rx
 cases ry
 exact (zS I (λx y u v hx hu' hv'=>bX7 I n X.A.in1 x y u v hx hu' hv' (by show X.A.units + 1 + n < cLine; omega)) al (by omega) _ _).1 ⟨.bl true,H,I,rfl,k⟩
theorem dJ3 (hu:X.A.units + 64 < cLine):OpR X (compareOp .NotEq) (dQT true):=by
 intro pins s σ H x y v u Q I rx ry h
 obtain ⟨n,p,q,hn,rfl,rfl,al,k⟩:=h
 cases rx
 cases ry
 exact (zS I (λx y u v hx hu' hv'=>bX7 I n X.A.in1 x y u v hx hu' hv' (by show X.A.units + 1 + n < cLine; omega)) al (by omega) _ _).2 ⟨.bl false,H,I,rfl,k⟩
theorem cJE {neg:Bool} {p q:Addr} {H:Hp} {Q:VK} (n:Nat) (al:Alw H (n + 1) (.ref p) (.ref q)) (h:Q (.bl (!neg)) H) (hn:n<=50:=by omega):dQT neg (.ref p) (.ref q) H Q:=⟨n,p,q,hn,rfl,rfl,al,h⟩
end
section
variable {X:Cx} {e:Expr} {te:TE} {p2 pos pu pc:Pos} {j:Nat}
end
theorem Room.u1 {k:Nat} {A:Around} (r:Room k A):A.units + 1 < cLine:=by have:=r.un; omega
section
variable {X:Cx} {pu pc:Pos} {j:Nat}
end
end L2
set_option maxHeartbeats 4000000
namespace L2
open PySem PySem.Spec PyProof.Rows
open PySem.AutoSeq1 (wpAny_loadPart')
section
variable {prog:Program} {w:World} {A:Around} {E:Value->Shared->Prop} {s:Shared}
end
section
variable {X:Cx}
def bXY:List V->Hp->VK->Prop:=λxs H Q=>∃ (a:Addr) (kvs:List (Key × V)) (ss:List Str),xs=[.ref a]/\Rd H a (.dK kvs)/\kvs.map (·.1)=ss.map Sum.inr/\kvs.length < 64/\∀ r (ss':List Str),H r=none->ss'.Perm ss->Q (.ref r) (upd H r (.lst (ss'.map V.str)))
theorem aJO:∀ {vs:List Value} {ss:List Str},StrsAre vs ss->Vals (ss.map V.str) vs:=by
 intro vs ss h
 induction h with
 | nil=>exact .nil
 | cons x t _ ih=>exact .cons ⟨t,rfl⟩ ih
theorem aXU:∀ {vs:List Value} {ss:List Str},vs.length=ss.length->(∀ (j:Nat) v x,vs[j]?=some v->ss[j]?=some x->∃ t,v=.str x t)->StrsAre vs ss
 | [],[],_,_=>.nil
 | v :: r,x :: y,hl,h=>by
   obtain ⟨t,e⟩:=h 0 v x rfl rfl
   subst e
   exact .cons x t (aXU (by simpa using hl) λj v' x' a b=>h (j + 1) v' x' (by simpa using a) (by simpa using b))
 | [],_ :: _,hl,_=>absurd hl (by simp)
 | _ :: _,[],hl,_=>absurd hl (by simp)
theorem dZC (hc:X.calm=true):CallR X (.builtin "sorted") bXY:=by
 intro pins s σ H xs us Q I r h
 obtain ⟨a,kvs,ss,rfl,ha,hk,h64,q⟩:=h
 obtain ⟨u,rfl,ru⟩:=eX r
 cases ru
 obtain ⟨z,hd,vs,rel,dd⟩:=gP I.hok ha
 obtain ⟨ep,hat⟩:=dd.dictAt
 have hlv:=rel.length
 refine Calls.call_function_entry kind_sorted plain_sorted entry_sorted (args_sorted1 _) ?_
 unfold Builtin.«sorted»
 refine Ac (m:=checkCount "sorted" 1 1 _) (Ai (Ac (PySem.W.kdu_collect (A:=X.A.in1) (PySem.W.kdl_dict (knd:=bB X.prog X.w) (kvs:=vs) (ep:=ep) hd) (I.ok.hd hc) hat (by omega) λh' tk acc hk' hacc=>?_)))
 have hl:acc.toList.length=vs.length:=by rw [Dx]; exact hacc.1
 have I1:Inv X pins σ H { s with heap:=h',toks:=tk }:=I.kept hk'
 have hsl:ss.length=kvs.length:=by have:=Df List.length hk; rw [Ab,Ab] at this; exact this.symm
 have hS:StrsAre acc.toList ss:=aXU (by omega) λj v x hv hx=>by
   obtain ⟨k,y,e1,e2⟩:=hacc.2 j v (by rw [<-Ef]; exact hv)
   have hk2:(kvs.map (·.1))[j]?=some k:=by rw [rel.keys,Ag,e1]; rfl
   rw [hk,Ag,hx] at hk2
   cases hk2
   exact bZ7 e2
 refine Ac (wpAny_newList ?_ (by rw [hl]; omega))
 have hoL:(h'.push { cls:=.type "list",data:=.seq acc.toList.toArray }).get? h'.objs.size=some (seqObj "list" acc.toList.toArray 0):=Av _ rfl
 refine Ac (Bs (Ea PyProof.Rows.slot_list_sort ⟨_,hoL,rfl⟩ PyProof.Rows.entry_list_sort (list_sort_treeK strKind_oneLt hoL hS.keysOf (λv1 v2 rest e=>keyKind_strs (by rw [<-e]; exact hS)) (by omega) λst' a1 a2=>⟨_,rfl,?_⟩) (PyProof.Rows.args_list_sort _)))
 obtain ⟨ss',b1,b2,_⟩:=sorted_out_str hS a1 a2
 obtain ⟨c,hcc⟩:=sortedHeap_at (vs:=acc.toList) (out:=(arrOf st').map (·.2)) hoL
 refine Ai ⟨_,rfl,.ref h'.objs.size,upd H h'.objs.size (.lst (ss'.map V.str)),I1.laid (a:=h'.objs.size) (o:=.lst (ss'.map V.str)) (t':=tk) (λb o e=>?_) (Ah _) ?_,rfl,q _ ss' (I1.hok.fresh (Ah _)) b2⟩
 · have hlt:=Ao e
   refine (sortedHeap_old (Be hlt) (Ao (Af _ e))).trans (Af _ e)
 · have:=b2.length_eq
   refine ⟨by rw [Ab]; exact Fb (aY (by omega)),_,c,aJO b1,?_⟩
   rw [hcc]
def bZ8:List V->Hp->VK->Prop:=λxs H Q=>∃ (a:Addr) (kvs:List (Key × V)),xs=[.ref a]/\Rd H a (.dK kvs)/\∀ r,H r=none->Q (.ref r) (upd H r (.lst (kvs.map λkv=>kV kv.1)))
theorem aXS:∀ {xs:List V} {us:List Value},us.length=xs.length->(∀ (j:Nat) x u,xs[j]?=some x->us[j]?=some u->RelV x u)->Vals xs us
 | [],[],_,_=>.nil
 | x :: r,u :: t,hl,h=>.cons (h 0 x u rfl rfl) (aXS (by simpa using hl) λj x' u' a b=>h (j + 1) x' u' (by simpa using a) (by simpa using b))
 | [],_ :: _,hl,_=>absurd hl (by simp)
 | _ :: _,[],hl,_=>absurd hl (by simp)
theorem cQ8 (hc:X.calm=true):CallR X (.type "list") bZ8:=by
 intro pins s σ H xs us Q I r h
 obtain ⟨a,kvs,rfl,ha,q⟩:=h
 obtain ⟨u,rfl,ru⟩:=eX r
 cases ru
 obtain ⟨z,hd,vs,rel,dd⟩:=gP I.hok ha
 obtain ⟨ep,hat⟩:=dd.dictAt
 have hlv:=rel.length
 refine PySem.W.kdl_call (A:=X.A) (PySem.W.kdl_dict (knd:=bB X.prog X.w) (kvs:=vs) (ep:=ep) hd) (I.ok.hd hc) hat (by omega) λh' tk acc c hk hD hacc=>?_
 refine ⟨.ref s.heap.objs.size,_,I.laid (a:=s.heap.objs.size) (o:=.lst (kvs.map λkv=>kV kv.1)) (t':=tk) hk (Ah _) ⟨by rw [Ab]; exact z,acc.toList,c,?_,by rw [hD]⟩,rfl,q _ (I.hok.fresh (Ah _))⟩
 refine aXS (by rw [Ab,Dx,hacc.1]; omega) λj x u hx hu=>?_
 obtain ⟨k,y,e1,e2⟩:=hacc.2 j u (by rw [<-Ef]; exact hu)
 have hk2:(kvs.map (·.1))[j]?=some k:=by rw [rel.keys,Ag,e1]; rfl
 rw [Ag] at hx hk2
 cases e3:kvs[j]? with
 | none=>rw [e3] at hx; cases hx
 | some kv=>
   rw [e3] at hx hk2
   cases hx
   cases hk2
   exact bZ7 e2
theorem cXP {a:Addr} {kvs:List (Key × V)} {H:Hp} {Q:VK} (ha:Rd H a (.dK kvs)) (h:∀ r,H r=none->Q (.ref r) (upd H r (.lst (kvs.map λkv=>kV kv.1)))):bZ8 [.ref a] H Q:=⟨a,kvs,rfl,ha,h⟩
end
end L2
set_option maxHeartbeats 4000000
namespace L2
open PySem PySem.Spec PyProof.Rows PySem.W
section
variable {prog:Program} {w:World} {A:Around} {E:Value->Shared->Prop} {s:Shared} {K:Frag} {x D:Addr} {ox:Obj} {od:Option Obj}
theorem cXY {name:Str} {v:Value} {expr:Bool} {Q:Value->Shared->Prop} (Z:ExK K D) (X:K.In s.heap) (I:InstAt s.heap x ox D od) (hf:findObj K D od name=some (.value v)) (hh:handedIn v=true) (h:Q v { s with toks:=s.toks + 1 }) :
   wpAny (model prog w) A (getAttr (.ref x) name expr) Q E s:=by
 obtain ⟨hp,g,d,t,os⟩:=s
 have L0:=I.type (M:=model prog w)
 have L1:=looks_findIn (M:=model prog w) X Z.ga
 have L2:=looks_findIn (M:=model prog w) X Z.gh
 have L3:=looks_find (M:=model prog w) X I hf
 unfold getAttr getAttrBy
 refine Ac (wpAny_mkText (Bs (Ac (L0.at (Ac (L1.at ?_))))))
 have ne:(Value.builtin "BaseException.__getattribute__" == Value.builtin "object.__getattribute__")=false:=by decide +kernel
 have fb:=F.excAttr_ValueError.ga.bind (.ref x)
 dsimp only
 rw [ne,Gf,if_neg Am]
 unfold getAttrByItsOwn hookBefore
 rw [if_pos (show onTheHeap (Value.ref D)=true from rfl)]
 refine Ac (L2.at (Ac (Gr (Bs ?_))))
 unfold callGetattribute boundAndCalled
 rw [if_neg (by rw [show onTheHeap (Value.builtin "BaseException.__getattribute__")=false from rfl,Gf]; exact Am)]
 refine Ac (wpAny_of_eq fb ?_)
 refine Fc (Dg F.excAttr_ValueError.ga.plain F.entry_bexc_ga (rX Z X I ?_))
 unfold Builtin.«object.__getattribute__»
 refine Ac (Ai (Ac (Ai (Ac (L0.at (Ac (L3.at ?_)))))))
 refine Ai ?_
 exact handed_on hh h
theorem bJE {e t0:Addr} {oe:Obj} {vs:Array Value} {rest:List Value} {Q:Value->Shared->Prop} (Z:ExK K D) (X:K.In s.heap) (I:InstAt s.heap e oe D od) (hb:PySem.W.subIn K (.ref D) (.type "ValueError")=some true) (hd:oe.data=.fields vs) (h0:vs[0]?=some (.ref t0)) (hr:rest.length<=sizeLine)
   (h:Q .none { s with heap:=(s.heap.push { cls:=.type "tuple",data:=.seq rest.toArray }).update e (Obj.mapFields (·.setIfInBounds 0 (.ref s.heap.objs.size))) }) :
   wpAny (model prog w) A (call (.builtin "ValueError.__init__") (.ref e :: rest)) Q E s:=by
 have he:=I.at_
 obtain ⟨cd,hc,_⟩:=any_some Z.cls
 have FB:=Fo
 have L0:=I.type (M:=model prog w)
 have L1:=looks_subIn (M:=model prog w) X hb
 refine Fc (Dg FB.init.plain FB.initEntry ?_)
 have ck:∀ (Q:Unit->Shared->Prop) (E:Value->Shared->Prop) (B:Around),Q () s->wpAny (model prog w) B (checkBuiltinCall "ValueError.__init__" ⟨.ref e :: rest,[]⟩) Q E s:=λQ E B hq=>by
   simp only [checkBuiltinCall,FB.initKind,FB.initSplit,FB.initRow]
   refine Ac ((L0.andThen L1).at ?_)
   have hst:=FB.noStar
   have sg:∀ (a b:String) (n:Nat),Bind.check ⟨.positional, "*", "ValueError",.self,[⟨"args",.varPos,false⟩]⟩ a b n (List.map (λx=>x.fst) ({ pos:=Value.ref e :: rest }:Args).kw)=pure ():=λa b n=>check_star_args _ _ _ _ _ _
   repeat (first | wp_step)
   rw [I.cls]
   refine Ac ((looks_clsIn X hc).at (Ai ?_))
   repeat (first | wp_step)
   refine wpAny_onRaise ?_
   rw [sg]
   exact Ai hq
 refine ck _ _ _ ?_
 have hs0:0 < vs.size:=(Cj.mp h0).1
 have hg:=Af (h:=s.heap) { cls:=.type "tuple",data:=.seq rest.toArray } he
 unfold Builtin.«BaseException.__init__» newTuple Builtin.BaseException.bexcPut
 dsimp only
 rw [if_neg (by simp)]
 refine Ac (Gg (Ac (Ac (Em hg hd h0 (Ac (Gh hg hd hs0 (wpAny_letGo (Ai h))))))) (by show rest.toArray.size<=sizeLine; rw [Bm]; exact hr))
def zQ (K:Frag) (D:Addr):Option (List Value):=(clsIn K D).map (·.mro)
theorem xB {T dx:Addr} {name:Str} {v:Value} {h1:Heap} {m:Str->Option Value} {ns:List Str} {Q:Unit->Shared->Prop} (Z:ExK K D) (X:K.In s.heap) (I:InstAt s.heap x ox D od)
   (hs:findIn K (.ref D) "__setattr__"=some (some (.builtin "object.__setattr__"))) (hm:zQ K D=some [.ref D,.ref T,.type "ValueError",.type "Exception",.type "BaseException",.type "object"]) (hna:findIn K (.ref D) name=some none)
   (hi:∀ (B:Around) (Q':Option Addr->Shared->Prop) (E':Value->Shared->Prop),Q' (some dx) { s with heap:=h1,toks:=s.toks + 1 }->wpAny (model prog w) B (instanceDict x true) Q' E' { s with toks:=s.toks + 1 })
   (hn:h1.Ns1 dx m) (hw:Within m ns) (hz:ns.length < sizeLine)
   (h:∀ h' tk',h'.Ns1 dx (λy=>if y=name then some v else m y)->Heap.SameBut dx h1 h'->Q () { s with heap:=h',toks:=tk' }) :
   wpAny (model prog w) A (setAttr (.ref x) name v) Q E s:=by
 obtain ⟨cd,hc,hd'⟩:=any_some Z.cls
 have hmr:cd.mro=[.ref D,.ref T,.type "ValueError",.type "Exception",.type "BaseException",.type "object"]:=by
   unfold zQ at hm
   rw [hc] at hm
   exact Br hm
 have SF:=PySem.F.store_ValueError
 have sub:Looks (model prog w) s.heap (isInstance (.ref x) (.type "object")) true:=I.type.andThen (looks_mroIn X Z.mo)
 have hmm:Looks (model prog w) s.heap (mroOf (.ref D)) cd.mro:=(looks_clsIn X hc).andThen .now
 have hx:=I.at_
 refine set_plain X I hs ?_
 refine Dg SF.slot.plain SF.entry (@check_slot (model prog w) _ _ { s with toks:=s.toks + 1 } "object.__setattr__" "object" "__setattr__" (.ref x) [.str name s.toks,v] [] _ SF.kind SF.split sub (SF.args (.ref x) (.str name s.toks) v) ?_)
 rw [osa_eq,refuse_eq]
 refine Ac (Ac (I.type.here (s:={ s with toks:=s.toks + 1 }) (Ac (hmm.here (s:={ s with toks:=s.toks + 1 }) ?_))))
 rw [hmr,refuseLoop_ref,refuseLoop_ref,SF.passes]
 refine Ai (Ac (I.type.here (s:={ s with toks:=s.toks + 1 }) (Ac ((looks_findIn X hna).here (s:={ s with toks:=s.toks + 1 }) (Ac (Ai ?_))))))
 show wpAny (model prog w) A.in1 (Builtin.ObjectAttr.storeInOwnDict (Value.ref x) (Value.ref D) (Value.str name s.toks) name v false) _ _ _
 unfold Builtin.ObjectAttr.storeInOwnDict
 refine Ac (Ai ?_)
 rw [if_neg (show ¬ ((Value.ref D == Value.type "module")=true) by simp)]
 unfold Builtin.ObjectAttr.ownDictForStores
 refine Ac (hi _ _ _ ?_)
 show wpAny (model prog w) A.in1 (Builtin.ObjectAttr.storeInDict dx (Value.str name s.toks) name v) _ _ _
 unfold Builtin.ObjectAttr.storeInDict Builtin.ObjectAttr.newKeyGuard
 refine Ac (Ai (Ac (wpAny_nsSet1 hn λh' hn' sb=>?_)))
 obtain ⟨oD,esD,epD,hoD,hdD,hcD⟩:=hn'.count (Within.cons name v hw)
 refine Ac (wpAny_lookBehind hoD (by rw [hdD]; exact pastItsLine_dict (Bb hcD (by rw [Ay]; omega))) ?_)
 exact Ai (h h' _ hn' sb)
theorem bJR {T:Addr} {name:Str} {v:Value} {vs:Array Value} {Q:Unit->Shared->Prop} (Z:ExK K D) (X:K.In s.heap) (I:InstAt s.heap x ox D none) (hda:ox.data=.fields vs) (hdn:ox.dict=none)
   (hs:findIn K (.ref D) "__setattr__"=some (some (.builtin "object.__setattr__"))) (hm:zQ K D=some [.ref D,.ref T,.type "ValueError",.type "Exception",.type "BaseException",.type "object"]) (hna:findIn K (.ref D) name=some none)
   (h:∀ h' tk',h'.get? x=some { ox with dict:=some s.heap.objs.size }->h'.Ns1 s.heap.objs.size (λy=>if y=name then some v else none)->(∀ b o,b≠x->s.heap.get? b=some o->h'.get? b=some o)->Q () { s with heap:=h',toks:=tk' }) :
   wpAny (model prog w) A (setAttr (.ref x) name v) Q E s:=by
 obtain ⟨cd,hc,hd'⟩:=any_some Z.cls
 have hx:=I.at_
 have hx1:(s.heap.push { cls:=.type "dict",data:=.dict #[] }).get? x=some ox:=Af _ hx
 have hxs:x≠s.heap.objs.size:=Be (Ao hx)
 have hgd:((s.heap.push { cls:=.type "dict",data:=.dict #[] }).update x λo=>{ o with dict:=some s.heap.objs.size }).get? s.heap.objs.size=some { cls:=.type "dict",data:=.dict #[] } :=
   (Heap.get?_update_ne _ _ _ _ hxs.symm).trans (Heap.get?_push_at rfl rfl)
 have hnd:((s.heap.push { cls:=.type "dict",data:=.dict #[] }).update x λo=>{ o with dict:=some s.heap.objs.size }).Ns s.heap.objs.size (λ_=>none) :=
   ⟨_,#[],_,hgd,rfl,λe he=>absurd he (by simp),λ_=>rfl⟩
 have hxu:((s.heap.push { cls:=.type "dict",data:=.dict #[] }).update x λo=>{ o with dict:=some s.heap.objs.size }).get? x=some { ox with dict:=some s.heap.objs.size }:=by
   refine Heap.get?_update_self _ hx1 ?_
   obtain ⟨a,b,c,d⟩:=ox
   cases hda
   rfl
 refine xB Z X I hs hm hna (λB Q' E' q=>?_) (Heap.Ns1.of_empty hnd) Within.nil (by rw [List.length_nil,sizeLine_eq]; omega) λh' tk' n sb=>h h' tk' ((sb.2 x hxs).trans hxu) n λb o hb e=>
   (sb.2 b (Be (Ao e))).trans ((Heap.get?_update_ne _ _ _ _ hb).trans (Af _ e))
 unfold instanceDict
 refine Ac (wpAny_loadPart hx ?_)
 rw [I.cls]
 refine Ac ((looks_clsIn X hc).here (s:={ s with toks:=s.toks + 1 }) ?_)
 rw [hd',hdn,hda,if_neg (show ¬ ((!true)=true) by decide)]
 dsimp only
 rw [if_neg (show ¬ ((!true || !typeHasDict (Value.ref D))=true) by simp [typeHasDict])]
 exact Ac (wpAny_alloc' (Ac (wpAny_update' hx1 (Ai q))))
theorem bXX {T dx:Addr} {name:Str} {v:Value} {m:Str->Option Value} {ns:List Str} {odx:Obj} {Q:Unit->Shared->Prop} (Z:ExK K D) (X:K.In s.heap) (I:InstAt s.heap x ox D (some odx)) (hdn:ox.dict=some dx)
   (hs:findIn K (.ref D) "__setattr__"=some (some (.builtin "object.__setattr__"))) (hm:zQ K D=some [.ref D,.ref T,.type "ValueError",.type "Exception",.type "BaseException",.type "object"]) (hna:findIn K (.ref D) name=some none)
   (hn:s.heap.Ns1 dx m) (hw:Within m ns) (hz:ns.length < sizeLine)
   (h:∀ h' tk',h'.Ns1 dx (λy=>if y=name then some v else m y)->Heap.SameBut dx s.heap h'->Q () { s with heap:=h',toks:=tk' }) :
   wpAny (model prog w) A (setAttr (.ref x) name v) Q E s:=by
 obtain ⟨cd,hc,hd'⟩:=any_some Z.cls
 refine xB Z X I hs hm hna (λB Q' E' q=>?_) hn hw hz h
 unfold instanceDict
 refine Ac (wpAny_loadPart I.at_ ?_)
 rw [I.cls]
 refine Ac ((looks_clsIn X hc).here (s:={ s with toks:=s.toks + 1 }) ?_)
 rw [hd',hdn,if_neg (show ¬ ((!true)=true) by decide)]
 exact Ai q
end
end L2
set_option maxHeartbeats 4000000
namespace L2
open PySem PySem.Spec PyProof.Rows PySem.W
def eK (ea C:Addr) (d:Option Addr):HO:=.ext λh=>∃ oe vs t0,h.get? ea=some oe/\oe.cls=.ref C/\oe.dict=d/\oe.data=.fields vs/\vs[1]?=some .none/\vs[0]?=some (.ref t0)/\vs[2]?=some .none
def xdO (dx:Addr) (fs:List (Str × V)):HO:=.ext λh=>∃ mA,h.Ns1 dx mA/\(∀ f,RelO (fs.lookup f) (mA f))/\Within mA (fs.map (·.1))
theorem uW {P:Program} {w:World} {H:Hp} {h:Heap} {ea C:Addr} {d:Option Addr} {oe:Obj} {vs:Array Value} {t0:Addr} (g:h.get? ea=some oe) (c:oe.cls=.ref C) (di:oe.dict=d) (da:oe.data=.fields vs) (h1:vs[1]?=some .none) (h0:vs[0]?=some (.ref t0)) (c2:vs[2]?=some .none) :
   ObjOk P w H h ea (eK ea C d):=⟨⟨oe,vs,t0,g,c,di,da,h1,h0,c2⟩,⟨oe,g⟩,λ_ _ ⟨o,ws,t,g,q⟩ k=>⟨o,ws,t,k o g,q⟩⟩
theorem bX3 {P:Program} {w:World} {H:Hp} {h:Heap} {dx:Addr} {fs:List (Str × V)} {mA:Str->Option Value} (n:h.Ns1 dx mA) (r:∀ f,RelO (fs.lookup f) (mA f)) (wi:Within mA (fs.map (·.1))):ObjOk P w H h dx (xdO dx fs):=by
 refine ⟨⟨mA,n,r,wi⟩,?_,λ_ _ ⟨m,⟨o,es,ep,g,q⟩,r⟩ k=>⟨m,⟨o,es,ep,k o g,q⟩,r⟩⟩
 obtain ⟨o,es,ep,g,_⟩:=n
 exact ⟨o,g⟩
structure XcK (K:Frag) (C T:Addr):Prop where
 ex:ExK K C
 sa:findIn K (.ref C) "__setattr__"=some (some (.builtin "object.__setattr__"))
 mro:zQ K C=some [.ref C,.ref T,.type "ValueError",.type "Exception",.type "BaseException",.type "object"]
 vb:PySem.W.subIn K (.ref C) (.type "ValueError")=some true
def bJA (K:Frag) (C T:Addr):Bool:=(clsIn K C).any λc=>match c.mro with
 | [.ref a,.ref b,.type x,.type y,.type z,.type u]=>a == C && b == T && x == "ValueError" && y == "Exception" && z == "BaseException" && u == "object"
 | _=>false
theorem aXK {K:Frag} {C T:Addr} (h:bJA K C T=true):zQ K C=some [.ref C,.ref T,.type "ValueError",.type "Exception",.type "BaseException",.type "object"]:=by
 obtain ⟨c,hc,h⟩:=any_some h
 unfold zQ
 rw [hc]
 split at h
 · rename_i hm
   simp only [Bool.and_eq_true,beq_iff_eq] at h
   obtain ⟨⟨⟨⟨⟨rfl,rfl⟩,rfl⟩,rfl⟩,rfl⟩,rfl⟩:=h
   exact Df some hm
 · cases h
theorem kA {P:Program} {w:World} {H:Hp} {h:Heap} {ea D:Addr} {d:Option Addr} {oe:Obj} {vs:Array Value} (hok:HOk P w H h) (g:h.get? ea=some oe) (hc:oe.cls=.ref D) (hdi:oe.dict=d) (hda:oe.data=.fields vs) (hd:∀ dx,d=some dx->∃ o,H dx=some o) :
   ∃ od,InstAt h ea oe D od:=by
 have no:notCls oe=true:=by
   obtain ⟨c,di,da,sl⟩:=oe
   cases hda
   rfl
 cases d with
 | none=>exact ⟨none,g,hc,no,by rw [hdi]; trivial⟩
 | some dx=>
   obtain ⟨o,z⟩:=hd dx rfl
   obtain ⟨ob,g2⟩:=(hok dx o z).get
   exact ⟨some ob,g,hc,no,by rw [hdi]; exact g2⟩
theorem dQ0 {H:Hp} {a:Addr} {o:HO} (e:H a=some o):upd H a o=H:=by
 funext b
 unfold upd
 split
 · rename_i z; rw [z,e]
 · rfl
def aQP (K:Frag):List V->Hp->VK->Prop:=λvs H Q=>∃ ea rest C T d,vs=.ref ea :: rest/\rest.length<=sizeLine/\H ea=some (eK ea C d)/\(∀ dx,d=some dx->∃ o,H dx=some o)/\XcK K C T/\Q .non H
def bX4 (K:Frag) (t:TA):TE:=λσ H Q=>t σ H λvs H1=>aQP K vs H1 Q
theorem cQR {X:Cx}:CallR X (.builtin "ValueError.__init__") (aQP X.K):=by
 intro pins s σ H xs us Q I r h
 obtain ⟨ea,rest,C,T,d,rfl,hl,he,hd,Z,q⟩:=h
 cases r with
 | @cons _ _ _ l2 r0 rr=>
   cases r0
   obtain ⟨oe,vs,t0,g,hc,hdi,hda,h1,h0,c2⟩:=(I.hok ea _ he).1
   obtain ⟨od,hI⟩:=kA I.hok g hc hdi hda hd
   refine bJE Z.ex I.kIn hI Z.vb hda h0 (by rw [<-rr.length]; exact hl) ?_
   have g2:=Af (h:=s.heap) { cls:=.type "tuple",data:=.seq l2.toArray } g
   have hs0:0 < vs.size:=(Cj.mp h0).1
   have dm:=Gb hda (·.setIfInBounds 0 (Value.ref s.heap.objs.size))
   refine ⟨.non,H,?_,rfl,q⟩
   have I2:=I.write (x:=ea) (e:=ea) (o:=eK ea C d) (t':=s.toks) (by rw [he]; exact True.intro) (.inl rfl) (λb u hb z=>(Bz _ (Obj.mapFields (·.setIfInBounds 0 (Value.ref s.heap.objs.size))) (Ne.symm hb)).trans (Af _ z))
     ⟨_,Heap.get?_update_self _ g2 (Obj.isFreed_of_fields dm)⟩ (uW (Heap.get?_update_self _ g2 (Obj.isFreed_of_fields dm)) (by rw [Obj.cls_mapFields]; exact hc) (by rw [vV]; exact hdi) dm (by rw [Array.getElem?_setIfInBounds]; simp [h1]) (t0:=s.heap.objs.size) (by simp [hs0]) ((Array.getElem?_setIfInBounds_ne (by decide)).trans c2))
   rw [dQ0 he] at I2
   exact I2
section
variable {X:Cx} {x:Str} {T:Addr} {mc:Value} {e:Expr} {es:List Expr} {t:TA} {np apos pos:Pos}
theorem xV {pl:Sem Bool} (hg:Gl X x) (hm:X.mg x=some (.ref T)) (h1:specialIn X.K (.ref T) "__getattribute__"=some (some (.builtin "type.__getattribute__"))) (h2:readsIn X.K T mc=true)
   (h3:findCls X.K (.ref T) mc "__init__"=some (.val (.builtin "ValueError.__init__"))) (ha:PA X (e :: es) t) (hdb:(x == ("__debug__" : Str))=false:=by decide)
   (hst:starEach (e :: es) X.env=(false,eval e X.env) :: starEach es X.env:=by rfl) (hpl:(backTo pos (starEach es X.env)).any (·.1)=false:=by rfl)
   (ht:eval (.Call (.Attribute (.Name x np) "__init__" apos) (e :: es) [] pos) X.env=(do
     let ov <-eval (.Name x np) X.env
     standAt apos.atName
     let (f,first) <-holding [ov] (getMethod ov "__init__" pl)
     callWith pos f first (backTo pos (starEach (e :: es) X.env)) (backToKw pos (keywordEach [] X.env))):=by rfl) :
   PE X (.Call (.Attribute (.Name x np) "__init__" apos) (e :: es) [] pos) (bX4 X.K t):=by
 intro pins s σ H Q I h
 refine PySem.W.methodCall_KW (pl:=pl) (iK I hg hm ?_ hdb) ht
 refine method_cls I.kIn h1 (cls_value I.kIn h2 h3 rfl ?_)
 exact PyProof.Rows.callWith_builtin1 (thn (ha pos pins _ σ H _ (I.tok _) h) λus s1 ⟨vs,H1,I1,r1,q1⟩=>cQR pins s1 σ H1 vs us Q I1 r1 q1) hst hpl
end
theorem Inv.freAt {X:Cx} {pins:List (Addr × Obj)} {σ:St} {H:Hp} {s:Shared} {a:Addr} (I:Inv X pins σ H s) (h:s.heap.objs.size<=a):Fre X pins a where
 s0:=Fm (Bb I.sz h)
 loc:=λz=>absurd (Bd I.lt h) (by rw [z]; exact Dp _)
 cell:=λx c e z=>by
   obtain ⟨_,o,g,_⟩:=I.cell x c e
   exact absurd (Bd (Ao g) h) (by rw [z]; exact Dp _)
 pin:=λp hp z=>absurd (Bd (Ao (I.pin p hp).1) h) (by rw [z]; exact Dp _)
def cJG (K:Frag) (ta tv:TE) (f:Str):TS:=λD σ H=>tv σ H λy H1=>ta σ H1 λx H2=>∃ ea C T,x=.ref ea/\XcK K C T/\findIn K (.ref C) f=some none/\
 ((H2 ea=some (eK ea C none)/\∀ dx,H2 dx=none->D.nx σ (upd (upd H2 ea (eK ea C (some dx))) dx (xdO dx [(f,y)])))\/
  (∃ dx fs,H2 ea=some (eK ea C (some dx))/\H2 dx=some (xdO dx fs)/\fs.length < 100/\D.nx σ (upd H2 dx (xdO dx ((f,y) :: fs)))))
theorem sB {f g:Str} {y:V} {fs:List (Str × V)}:List.lookup g ((f,y) :: fs)=if g=f then some y else fs.lookup g:=by
 rw [Do]
 by_cases z:g=f
 · rw [if_pos z,z]; simp
 · rw [if_neg z]
   have:(g == f)=false:=by simpa using z
   rw [this]
theorem uA {X:Cx} {o value:Expr} {f:Str} {pos pos':Pos} {ta tv:TE} (ha:PE X o ta) (hv:PE X value tv) (hs:swapsWith value (some (.Attribute o f pos')) pos.line X.env=pure false):PS X (.Assign [.Attribute o f pos'] value pos) (cJG X.K ta tv f):=by
 intro pins s σ H D I h
 refine plainObj_wpAny_Assign_Attribute (thn (hv pins s σ H _ I h) λu s1 ⟨y,H1,I1,ry,q⟩=>thn (ha pins s1 σ H1 _ I1 q) λov s2 ⟨x,H2,I2,rx,ea,C,T,ex,Z,hn,q2⟩=>?_) hs
 subst ex
 obtain rfl:ov=Value.ref ea:=rx
 rcases q2 with ⟨he,q3⟩ | ⟨dx,fs,he,hdx,hl,q3⟩
 · obtain ⟨oe,vs,t0,g,hc,hdi,hda,h1,h0,c2⟩:=(I2.hok ea _ he).1
   obtain ⟨od,hI⟩:=kA I2.hok g hc hdi hda (λ_ z=>nomatch z)
   have hod:od=none:=by
     have z:=hI.dict
     rw [hdi] at z
     cases od with
     | none=>rfl
     | some o=>exact z.elim
   subst hod
   refine bJR Z.ex I2.kIn hI hda hdi Z.sa Z.mro hn λh' tk' gx ns kp=>?_
   have fr:=I2.freAt (Ah _)
   have hfree:H2 s2.heap.objs.size=none:=I2.hok.fresh (Ah _)
   have ne:s2.heap.objs.size≠ea:=λz=>by rw [z,he] at hfree; cases hfree
   have I3:=I2.write (x:=ea) (e:=ea) (o:=eK ea C (some s2.heap.objs.size)) (h':=h') (t':=tk') (by rw [he]; exact True.intro) (.inl rfl) kp ⟨_,gx⟩ (uW gx hc rfl hda h1 h0 c2)
   have I4:=I3.adopt (a:=s2.heap.objs.size) (o:=xdO s2.heap.objs.size [(f,y)]) fr (by rw [aK ne]; exact hfree) (bX3 ns (λg=>by
     rw [sB]
     split
     · exact ry
     · exact True.intro) (λg hg=>by
     by_cases z:g=f
     · rw [z]; exact Aw.mpr rfl
     · exact absurd (show (if g=f then some u else none)=none by rw [if_neg z]) hg))
   exact ⟨σ,_,I4,q3 _ hfree⟩
 · obtain ⟨oe,vs,t0,g,hc,hdi,hda,h1,h0,c2⟩:=(I2.hok ea _ he).1
   obtain ⟨mA,n,r,wi⟩:=(I2.hok dx _ hdx).1
   obtain ⟨od,hI⟩:=kA I2.hok g hc hdi hda (λz e=>by cases e; exact ⟨_,hdx⟩)
   have hod:∃ o,od=some o:=by
     have z:=hI.dict
     rw [hdi] at z
     cases od with
     | none=>exact z.elim
     | some o=>exact ⟨o,rfl⟩
   obtain ⟨o,rfl⟩:=hod
   refine bXX Z.ex I2.kIn hI hdi Z.sa Z.mro hn n wi (by rw [Ab,sizeLine_eq]; omega) λh' tk' ns sb=>?_
   have hd':∃ o,h'.get? dx=some o:=let ⟨o,_,_,e',_⟩:=ns; ⟨o,e'⟩
   have I3:=I2.write (x:=dx) (e:=dx) (o:=xdO dx ((f,y) :: fs)) (h':=h') (t':=tk') (by rw [hdx]; exact True.intro) (.inl rfl) (λb q hb z=>(sb.2 b hb).trans z) hd' (bX3 ns (λg=>by
     rw [sB]
     split
     · exact ry
     · exact r g) (λg hg=>by
     by_cases z:g=f
     · rw [z]; exact Aq
     · refine An _ (wi g λz2=>hg ?_)
       show (if g=f then some u else mA g)=none
       rw [if_neg z]; exact z2))
   exact ⟨σ,_,I3,q3⟩
def bZ0 (K:Frag) (ta:TE) (f:Str):TE:=λσ H Q=>ta σ H λx H1=>∃ ea C dx fs v,x=.ref ea/\(H1 ea=some (jS ea (.ref C) (some dx))\/H1 ea=some (eK ea C (some dx)))/\H1 dx=some (xdO dx fs)/\ExK K C/\findIn K (.ref C) f=some none/\fs.lookup f=some v/\Q v H1
theorem bJW {v:V} {u:Value} (r:RelV v u):handedIn u=true:=by
 cases v <;> first | (obtain ⟨_,rfl⟩:=(show ∃ t,u=_ from r); rfl) | (cases r; rfl)
theorem cXL {X:Cx} {e:Expr} {f:Str} {pos:Pos} {ta:TE} (he:PE X e ta) (hb:attributeBase e f X.env (eval e X.env)=eval e X.env):PE X (.Attribute e f pos) (bZ0 X.K ta f):=by
 intro pins s σ H Q I h
 refine cQL hb (thn (he pins s σ H _ I h) λu s1 ⟨x,H1,I1,rx,ea,C,dx,fs,v,ex,e1,e2,Z,n,l,q⟩=>?_)
 subst ex
 obtain rfl:u=Value.ref ea:=rx
 obtain ⟨oe,vs,g,hc,hdi,hda⟩:∃ oe vs,s1.heap.get? ea=some oe/\oe.cls=.ref C/\oe.dict=some dx/\oe.data=.fields vs:=by
   rcases e1 with e1 | e1
   · exact (I1.hok ea _ e1).1
   · obtain ⟨oe,vs,t0,g,hc,hdi,hda,_⟩:=(I1.hok ea _ e1).1
     exact ⟨oe,vs,g,hc,hdi,hda⟩
 obtain ⟨⟨mA,ns,r,wi⟩,_⟩:=I1.hok dx _ e2
 obtain ⟨od,hI⟩:=kA I1.hok g hc hdi hda (λz e=>by cases e; exact ⟨_,e2⟩)
 obtain ⟨o,go,lo⟩:=rO ns
 have hod:od=some o:=by
   have z:=hI.dict
   rw [hdi] at z
   cases od with
   | none=>exact z.elim
   | some o'=>
     have z:s1.heap.get? dx=some o':=z
     rw [go] at z
     exact z.symm
 subst hod
 have rl:=r f
 rw [l] at rl
 cases hu:mA f with
 | none=>rw [hu] at rl; exact rl.elim
 | some u=>
   rw [hu] at rl
   exact cXY Z I1.kIn hI (findObj_own Z.cls n rfl (by rw [lo,hu])) (bJW rl) ⟨v,H1,I1.tok _,rl,q⟩
end L2
set_option maxHeartbeats 4000000
namespace L2
open PySem PySem.Spec PyProof.Rows PySem.W
def tW (K:Frag) (C:Addr) (bmB:List Value) (newId:String):Bool :=
 match K.lookup C with
 | some ⟨.type t,_,.cls c,sl⟩=>t == "type" && !c.hasDel && nsOkIn K c.ns &&
   (match c.mro with | .ref C1 :: bm=>C1 == C && tailIn K bmB bm | _=>false) && (match sl.toList with | [_,_,_,_,some (.builtin n),_]=>n == newId | _=>false)
 | _=>false
theorem dX9 {K:Frag} {h:Heap} {C:Addr} {bmB:List Value} {newId:String} (X:K.In h) (q:tW K C bmB newId=true) :
   ∃ bm N nm qn bs hd sn sub ab col dd k0 k1 k2 k3 k5,h.get? C=some (excClassObj nm qn C N bs bm hd sn sub ab col dd k0 k1 k2 k3 k5 newId)/\OwnTail h bmB bm:=by
 unfold tW at q
 split at q
 · rename_i t dd c sl ho
   simp only [Bool.and_eq_true,beq_iff_eq,Bool.not_eq_true'] at q
   obtain ⟨⟨⟨⟨rfl,q1⟩,q2⟩,q3⟩,q4⟩:=q
   split at q3
   · rename_i C1 bm hm
     obtain ⟨rfl,q5⟩:C1=C/\tailIn K bmB bm=true:=by simpa only [Bool.and_eq_true,beq_iff_eq] using q3
     split at q4
     · rename_i k0 k1 k2 k3 n k5 hs
       obtain rfl:n=newId:=by simpa using q4
       obtain ⟨nm,bs,mro,ns,qn,hd,sn,sub,ab,col,del⟩:=c
       dsimp only at hm q1 q2
       subst hm q1
       obtain ⟨l⟩:=sl
       cases (show l=_ from hs)
       exact ⟨bm,ns,nm,qn,bs,hd,sn,sub,ab,col,dd,k0,k1,k2,k3,k5,X _ _ ho,tail_of_in X q5⟩
     · cases q4
   · cases q3
 · cases q
section
variable {prog:Program} {w:World} {A:Around} {E:Value->Shared->Prop} {s:Shared} {K:Frag} {C f:Addr} {bmB:List Value} {B newId initId:String}
theorem aZA {rest:List Value} {Q:Fin->Shared->Prop} (FB:ExcBaseFacts B newId initId bmB) (X:K.In s.heap) (hx:tW K C bmB newId=true) (hi:findIn K (.ref C) "__init__"=some (some (.ref f))) (hf:typeIn K (.ref f)=some (.type "function")) (hr:rest.length<=sizeLine)
   (hq:∀ h' e,Heap.MadeExcOf s.heap h' e (.ref C) rest->wpAny (model prog w) A (call (.ref f) (.ref e :: rest)) (λr s'=>r=.none/\Q (.done (.ret (.ref e))) s') E { s with heap:=h' }) :
   wpAny (model prog w) A (Builtin.«type.__call__» ⟨.ref C :: rest,[]⟩) Q E s:=by
 obtain ⟨h,g,d,t,os⟩:=s
 obtain ⟨bm,N,nm,qn,bs,hd,sn,sub,ab,col,dd,k0,k1,k2,k3,k5,hC,Tl⟩:=dX9 X hx
 repeat (first | with_reducible refine wpAny_madeBy_exc hC ?_ | with_reducible refine Fj hC ?_ | wp_step)
 refine codeAny_call_builtin_code (Ga _ FB.quiet) (wpAny_check_new_subT FB Tl hC (codeAny_exc_new_subT FB Tl hC ?_ hr))
 show wpAny _ _ _ _ _ _
 generalize hh1:(h.push { cls:=.type "tuple",data:=.seq rest.toArray }).push { cls:=.ref C,data:=.fields #[.ref h.objs.size,.none,.none,.none,.bool false,.none] }=h1
 have kp:∀ b o,h.get? b=some o->h1.get? b=some o:=λb o e=>by rw [<-hh1]; exact Af _ (Af _ e)
 have dN:h1.get? (h.objs.size + 1)=some { cls:=.ref C,data:=.fields #[.ref h.objs.size,.none,.none,.none,.bool false,.none] }:=by rw [<-hh1]; heap_get
 have X1:=X.keeps kp
 have hC1:=kp _ _ hC
 have hcC:(Value.ref C :: bm).contains (.ref C)=true:=by simp
 unfold isInstance
 repeat (first | (with_reducible refine wpAny_isSubtype_exc hC1 ?_; rw [hcC]) | with_reducible refine Fj dN ?_ | wp_step)
 show wpAny _ _ (typeLookup (.ref C) _) _ _ _
 refine (looks_findIn X1 hi).here (s:=⟨h1,g,d,t,os⟩) (Bs (Ac ?_))
 unfold bindSpecial
 refine Ac ((looks_typeIn X1 hf).here (s:=⟨h1,g,d,t,os⟩) ?_)
 rw [if_pos (by decide)]
 refine Ai (Ac (Cb (hq h1 (h.objs.size + 1) ⟨kp,Fm (Nat.le_succ _),h.objs.size,dN,Fm (Ah _),?_⟩) (λr s' hr=>?_) λ_ _ z=>z))
 · rw [<-hh1]
   exact Af _ (Heap.get?_push_at rfl rfl)
 · obtain ⟨rfl,z⟩:=hr
   wp_walk
   exact z
theorem bZG {rest:List Value} {Q:Value->Shared->Prop} (FB:ExcBaseFacts B newId initId bmB) (X:K.In s.heap) (hx:tW K C bmB newId=true) (hi:findIn K (.ref C) "__init__"=some (some (.ref f))) (hf:typeIn K (.ref f)=some (.type "function")) (hr:rest.length<=sizeLine)
   (hq:∀ h' e,Heap.MadeExcOf s.heap h' e (.ref C) rest->wpAny (model prog w) (A.under (.builtin "type.__call__" ⟨.ref C :: rest,[]⟩)) (call (.ref f) (.ref e :: rest)) (λr s'=>r=.none/\Q (.ref e) s') E { s with heap:=h' }) :
   wpAny (model prog w) A (call (.ref C) rest) Q E s:=by
 have X0:=X
 obtain ⟨h,g,d,t,os⟩:=s
 obtain ⟨bm,N,nm,qn,bs,hd,sn,sub,ab,col,dd,k0,k1,k2,k3,k5,hC,Tl⟩:=dX9 X hx
 have c1:=tc_lookup
 have c2:=tc_bind (.ref C)
 have c3:(⟨h,g,d,t,os⟩:Shared).TypeIs (.ref C) "type" := ⟨_,hC,rfl⟩
 refine Fc (codeAny_of_tree ?_)
 show wpAny _ _ (callAny (.ref C) _) _ _ _
 repeat (any_goals (first | with_reducible refine Fj hC ?_ | assumption | wp_step))
 exact ⟨rfl,codeAny_call_builtin_at (Ga _ (by decide +kernel)) entry_typeCall (wpAny_check_type_call_sub hC (aZA FB X0 hx hi hf hr λh' e hm=>hq h' e hm))⟩
theorem aJK {env:Env} {x:Sem Value} {Q:Flow->Shared->Prop} (hh:A.handled=none)
   (h:wpAny (model prog w) A x (λv s1=>∃ e oe vs bm N nm qn bs hd sn sub ab col dd k0 k1 k2 k3 k5,v=.ref e/\s1.heap.get? C=some (excClassObj nm qn C N bs bm hd sn sub ab col dd k0 k1 k2 k3 k5 newId)/\bm.contains (.type "BaseException")=true/\
     s1.heap.get? e=some oe/\oe.cls=.ref C/\oe.data=.fields vs/\vs[1]?=some .none/\E (.ref e) s1) E s):wpAny (model prog w) A (raiseStmt env (some x) none) Q E s:=by
 unfold raiseStmt
 refine Ac (Cb h (λv s1 q=>?_) λ_ _ z=>z)
 obtain ⟨e,oe,vs,bm,N,nm,qn,bs,hd,sn,sub,ab,col,dd,k0,k1,k2,k3,k5,rfl,hC,hb,he,hc,hda,h1,hE⟩:=q
 obtain ⟨hp,g,d,tk,os⟩:=s1
 obtain ⟨oc,odi,oda,osl⟩:=oe
 dsimp only at hc hda
 subst hc hda
 have hcB:(Value.ref C :: bm).contains (.type "BaseException")=true:=by rw [List.contains_cons,hb,Bool.or_true]
 repeat (first | with_reducible refine Fj hC ?_ | with_reducible refine Fj he ?_ | (with_reducible refine wpAny_isSubtype_exc hC ?_; rw [hcB]) | wp_step)
 rw [h1]
 refine Ai ?_
 rw [if_neg (show ¬ ((Value.none != Value.none)=true) by decide)]
 exact Ai (wpAny_raiseNew_none hh hE)
end
def del (H:Hp) (a:Addr):Hp:=λb=>if b=a then none else H b
theorem dO {H:Hp} {a b:Addr} (h:b≠a):del H a b=H b:=if_neg h
theorem wJ {H:Hp} {a:Addr}:del H a a=none:=if_pos rfl
section
variable {X:Cx} {pins:List (Addr × Obj)} {σ:St} {H:Hp} {s:Shared}
theorem Inv.drop {ea:Addr} {φ:Heap->Prop} (I:Inv X pins σ H s) (e:H ea=some (.ext φ)):Inv X pins σ (del H ea) s:=by
 have ne:∀ b u,H b=some u->(∀ ψ,u≠.ext ψ)->b≠ea:=λb u q n z=>by
   rw [z,e] at q
   cases q
   exact n φ rfl
 refine I.re (λb n=>?_) (λb xs q=>?_) (λb o u q=>?_) (λb ps q=>?_) λb o q=>?_
 · unfold del
   split
   · rfl
   · exact n
 · have q1:=I.base.tups b xs q
   rw [dO (ne b _ q1 λ_ z=>nomatch z)]
   exact q1
 · have q1:=I.base.frzs b o u q
   rw [dO (ne b _ q1 λ_ z=>nomatch z)]
   exact q1
 · obtain ⟨m,q1⟩:=I.base.tbls b ps q
   exact ⟨m,by rw [dO (ne b _ q1 λ_ z=>nomatch z)]; exact q1⟩
 · have hb:b≠ea:=λz=>by rw [z,wJ] at q; cases q
   rw [dO hb] at q
   exact (I.hok b o q).stay (λ_ _ _ z=>z) (λc z=>by rw [dO (ne c _ z λ_ z=>nomatch z)]; exact z) λc xs z=>by rw [dO (ne c _ z λ_ z=>nomatch z)]; exact z
theorem Inv.freNew {a:Addr} (I:Inv X pins σ H s) (hex:X.ex=[]) (h:s.heap.get? a=none):Fre X pins a where
 s0:=by
   cases z:X.s₀.heap.get? a with
   | none=>rfl
   | some o=>
     obtain ⟨o',z'⟩:=I.base.there a o z (by rw [hex]; simp)
     rw [h] at z'
     cases z'
 loc:=λz=>by
   obtain ⟨m,⟨o,_,_,g,_⟩,_⟩:=I.loc
   rw [<-z,h] at g
   cases g
 cell:=λx c e z=>by
   obtain ⟨_,o,g,_⟩:=I.cell x c e
   rw [z,h] at g
   cases g
 pin:=λp hp z=>by
   have g:=(I.pin p hp).1
   rw [z,h] at g
   cases g
end
def aQA (P:Program) (w:World) (K:PySem.W.Frag) (mg:Str->Option Value) (base:Heap) (k:Nat) (C:Addr) (ps:List Str) (sp:Sp):Prop :=
 ∃ (f:Addr) (fd:FuncData),FnOk P w K mg base CX0 k f fd ps sp/\findIn K (.ref C) "__init__"=some (some (.ref f))/\typeIn K (.ref f)=some (.type "function")/\Binds K fd ps []
structure XmK (K:Frag) (C:Addr):Prop where
 obj:tW K C [.type "ValueError",.type "Exception",.type "BaseException",.type "object"] "ValueError.__new__"=true
 kp:keepIn K (.ref C)=true
def aX7 (C:Addr) (sp:Sp) (E:XK) (ta:TA):TS:=λ_ σ H=>ta σ H λvs H1=>vs.length<=sizeLine/\∀ ea,H1 ea=none->sp (.ref ea :: vs) (upd H1 ea (eK ea C none)) (λv H2=>v=.non/\∃ d,H2 ea=some (eK ea C d)/\E (.ref C) d (del H2 ea)) E0
section
variable {X:Cx} {E:XK} {x:Str} {C:Addr} {e:Expr} {es:List Expr} {ta:TA} {np cpos pos:Pos} {k:Nat} {ps:List Str} {sp:Sp}
theorem bQB {pins:List (Addr × Obj)} {σ:St} {H1:Hp} {s1:Shared} {vs:List V} {us:List Value} {G:Addr->VK} {R:Value->Shared->Prop} (hex:X.ex=[]) (M:XmK X.K C) (c:aQA X.prog X.w X.K X.mg X.base k C ps sp) (hr:Room (k + 1) X.A) (I1:Inv X pins σ H1 s1) (r:Vals vs us)
   (hl:vs.length<=sizeLine) (q:∀ ea,H1 ea=none->sp (.ref ea :: vs) (upd H1 ea (eK ea C none)) (G ea) E0)
   (hR:∀ ea H2 s2,X.s₀.heap.get? ea=none->Inv X pins σ H2 s2->(G ea) .non H2->R (.ref ea) s2) (hG:∀ ea v H2,G ea v H2->v=.non):wpAny (model X.prog X.w) X.A (call (.ref C) us) R X.xe s1:=by
 obtain ⟨f,fd,F,hi,hf,hb⟩:=c
 refine bZG Fo I1.kIn M.obj hi hf (by rw [<-r.length]; exact hl) λh' ea hm=>?_
 obtain ⟨t,g,_,_⟩:=hm.there
 have hole:H1 ea=none:=I1.hok.hole hm.new
 have fr:=I1.freNew hex hm.new
 have I2:=(I1.kept (t':=s1.toks) hm.keeps).adopt (o:=eK ea C none) fr hole (uW g rfl rfl rfl rfl rfl rfl)
 have r2:Vals (V.ref ea :: vs) (Value.ref ea :: us):=.cons rfl r
 have hq:=q ea hole
 have hl2:((Value.ref ea :: us) ++ []).length=ps.length:=by rw [Bu,<-r2.length]; exact F.len _ _ _ _ hq
 have hbb:=hb { s1 with heap:=h' } (Value.ref ea :: us) I2.kIn hl2
 rw [Bu] at hbb
 refine Fc (Ek (F.run _ X.stack { s1 with heap:=h' } _ ⟨Value.ref ea :: us,[]⟩ (Value.ref ea :: us) (V.ref ea :: vs) _ E0 (hr.make C us []) (I2.env0.make C us []) hbb r2 hq) λrr s' hq'=>?_)
 cases rr with
 | error e=>exact False.elim hq'
 | ok fl=>
   cases fl with
   | ret u=>
     obtain ⟨v,H',I3,rv,q3⟩:=I2.after hq'
     have ev:=hG ea v H' q3
     subst ev
     exact ⟨rv,hR ea H' s' fr.s0 I3 q3⟩
   | next=>exact False.elim hq'
   | brk=>exact False.elim hq'
   | cont=>exact False.elim hq'
theorem mV {k':Nat} (hR:dXV X E) (hex:X.ex=[]) (hc:X.calm=true) (hg:Gl X x) (hm:X.mg x=some (.ref C)) (M:XmK X.K C) (c:aQA X.prog X.w X.K X.mg X.base k C ps sp) (hr:Room k' X.A) (hkk:k + 1<=k') (ha:PA X (e :: es) ta)
   (hd:(x == ("__debug__" : Str))=false:=by decide) (he:starEach (e :: es) X.env=(false,eval e X.env) :: starEach es X.env:=by rfl) (hpl:(backTo cpos (starEach es X.env)).any (·.1)=false:=by rfl) :
   PS X (.Raise (some (.Call (.Name x np) (e :: es) [] cpos)) none pos) (aX7 C sp E ta):=by
 intro pins s σ H D I h
 rw [arm_exec_Raise]
 simp only [evalOpt,Option.map]
 refine Ac (Fg (aJK (C:=C) (newId := "ValueError.__new__") (I.ok.hd hc) ?_))
 refine Ac (Cb (Q:=λv s1=>∃ e oe vs bm N nm qn bs hd sn sub ab col dd k0 k1 k2 k3 k5,v=.ref e/\s1.heap.get? C=some (excClassObj nm qn C N bs bm hd sn sub ab col dd k0 k1 k2 k3 k5 "ValueError.__new__")/\bm.contains (.type "BaseException")=true/\
     s1.heap.get? e=some oe/\oe.cls=.ref C/\oe.data=.fields vs/\vs[1]?=some .none/\X.xe (.ref e) s1) ?_ (λv s3 h3=>Ac (Fg (Ai h3))) λ_ _ z=>z)
 refine Eb (iK I hg hm ?_ hd)
 refine PySem.W.callWith_K (h₀:=X.base) I.ok.mod.kin M.kp (thn (ha cpos pins s σ H _ I h) λus s1 ⟨vs,H1,I1,r,hl,q⟩=>⟨I1.kIn,?_⟩) he hpl
 refine bQB hex M c (hr.mono hkk) I1 r hl q (λea H' s' s0 I3 q3=>?_) λea v H2 z=>z.1
 obtain ⟨_,d,e2,q3⟩:=q3
 obtain ⟨oe,ws,t0,g2,hc2,hdi,hda,h1,h0,c2⟩:=(I3.hok ea _ e2).1
 obtain ⟨bm,N,nm,qn,bs,hdct,sn,sub,ab,col,dd,k0,k1,k2,k3,k5,hC,Tl⟩:=dX9 I3.kIn M.obj
 refine ⟨ea,oe,ws,bm,N,nm,qn,bs,hdct,sn,sub,ab,col,dd,k0,k1,k2,k3,k5,rfl,hC,Tl.hasType PySem.F.excBase_ValueError.hasBase,g2,hc2,hda,h1,?_⟩
 exact hR pins σ (del H' ea) s' ea oe ws (I3.drop e2) g2 hda h1 c2 wJ s0 (by rw [hc2,hdi]; exact q3)
end
def cZ4 (st:Stmt) (j:Nat):Stmt :=
 match st with
 | .ClassDef _ _ _ body _ _ _ _ _ _ _=>body.getD j (.Pass ⟨0,0,0,0⟩)
 | s=>s
section
variable {g:TG} {tests:TT} {te:TE} {σ0:St} {Q:VK} {H1:Hp}
end
section
variable {K:PySem.W.Frag} {H:Hp} {Q:VK} {ea C D T dx tp:Addr} {c:V} {cs:List V} {cv:Value} {cvs:List Value} {b:Bool} {d:Option Addr} {σ:St} {D':Ends} {sp:Sp} {E:XK} {ta:TA} {te tv:TE} {f:Str}
theorem bJ1 (h:ta σ H λvs H1=>aQP K vs H1 Q):bX4 K ta σ H Q:=h
theorem bX6 (h:ta σ H λvs H1=>vs.length<=sizeLine/\∀ ea,H1 ea=none->sp (.ref ea :: vs) (upd H1 ea (eK ea C none)) (λv H2=>v=.non/\∃ d,H2 ea=some (eK ea C d)/\E (.ref C) d (del H2 ea)) E0):aX7 C sp E ta D' σ H:=h
theorem dXE (h:te σ H λx H1=>∃ ea C dx fs v,x=.ref ea/\(H1 ea=some (jS ea (.ref C) (some dx))\/H1 ea=some (eK ea C (some dx)))/\H1 dx=some (xdO dx fs)/\ExK K C/\PySem.W.findIn K (.ref C) f=some none/\fs.lookup f=some v/\Q v H1):bZ0 K te f σ H Q:=h
theorem dQU (h:tv σ H λy H1=>te σ H1 λx H2=>∃ ea C T,x=.ref ea/\XcK K C T/\PySem.W.findIn K (.ref C) f=some none/\
 ((H2 ea=some (eK ea C none)/\∀ dx,H2 dx=none->D'.nx σ (upd (upd H2 ea (eK ea C (some dx))) dx (xdO dx [(f,y)])))\/
  (∃ dx fs,H2 ea=some (eK ea C (some dx))/\H2 dx=some (xdO dx fs)/\fs.length < 100/\D'.nx σ (upd H2 dx (xdO dx ((f,y) :: fs)))))):cJG K te tv f D' σ H:=h
theorem bQ3 (e:H ea=some (jS ea (.ref D) (some dx))) {o:HO} (hd:H dx=some o) (Z:ExK K D) (h1:cXQ c=some cv) (h2:PySem.W.kitOne K (.ref D) cv=some b) (h:Q (.bl b) H):cQG K [.ref ea,c] H Q :=
 ⟨ea,D,some dx,c,b,rfl,e,(λ_ z=>by cases z; exact ⟨o,hd⟩),Z,.inl ⟨cv,h1,h2⟩,h⟩
theorem cJ9 (e:H ea=some (jS ea (.ref D) (some dx))) {o:HO} (hd:H dx=some o) (Z:ExK K D) (ht:H tp=some (.tup cs)) (h1:wX cs=some cvs) (h2:PySem.W.kitAny K (.ref D) cvs=some b) (h:Q (.bl b) H):cQG K [.ref ea,.ref tp] H Q :=
 ⟨ea,D,some dx,_,b,rfl,e,(λ_ z=>by cases z; exact ⟨o,hd⟩),Z,.inr ⟨tp,cs,cvs,rfl,ht,h1,h2⟩,h⟩
end
end L2
set_option maxHeartbeats 4000000
namespace L2
open PySem PySem.Spec PyProof.Rows
section
variable {P:Program} {w:World} {K:PySem.W.Frag} {mg:Str->Option Value} {base:Heap}
end
section
variable {X:Cx} {pn:List (Addr × Obj)} {ea:Addr} {k k':Nat} {ps:List Str} {sp:Sp} {x:Str} {p pos:Pos} {e:Expr} {es:List Expr} {t:TA}
end
theorem mE {X:Cx} {K:PySem.W.Frag} {e:Expr} {f:Str} {pos:Pos} {ta:TE} (h:X.K=K) (he:PE X e ta) (hb:attributeBase e f X.env (eval e X.env)=eval e X.env):PE X (.Attribute e f pos) (bZ0 K ta f):=by
 subst h
 exact cXL he hb
end L2
set_option maxHeartbeats 4000000
namespace L2
open PySem PySem.Spec PyProof.Rows
section
variable {prog:Program} {w:World} {A:Around} {E:Value->Shared->Prop}
theorem vG {it l:Addr} {items:Array Value} (hne:l≠it):∀ (n i:Nat) (s:Shared) (Q:List Value->Shared->Prop),s.heap.IsListIter it l i->s.heap.IsList l items->i + n<=items.size->
   (∀ h',h'.IsListIter it l (i + n)->Heap.SameBut it s.heap h'->Q ((items.toList.drop i).take n) { s with heap:=h' })->wpAny (model prog w) A (draw (.ref it) n) Q E s
 | 0,i,s,Q,hit,_,_,k=>by
   refine Ai (M:=model prog w) ?_
   simpa using k s.heap hit (Heap.SameBut.refl ..)
 | n + 1,i,s,Q,hit,hl,hle,k=>by
   have lt:i < items.size:=by omega
   show wpAny _ _ (pyNext (.ref it) >>= _) Q E s
   refine wpAny_bind (wpAny_pyNext_list_item hit hl (x:=items[i]) (by simp [lt]) λg1 it1 sb1=>?_)
   refine Ac (Bs (vG hne n (i + 1) _ _ it1 (hl.extBut sb1.extBut hne) (by omega) λg2 it2 sb2=>Ai ?_))
   have e:items.toList.drop i=items[i] :: items.toList.drop (i + 1):=by simp [List.drop_eq_getElem_cons,lt]
   have z:=k g2 (by rw [show i + (n + 1)=i + 1 + n by omega]; exact it2) (sb1.trans sb2)
   rw [e,Ft] at z
   exact z
theorem yT {s:Shared} {l:Addr} {items:Array Value} {targets:List (Bool × (Value->Sem Unit))} {Q:Unit->Shared->Prop} (hh:A.handled=none) (hl:s.heap.IsList l items)
   (hn:targets.length=items.size) (hs:targets.findIdx? (·.1)=none)
   (k:∀ h',Heap.ExtBut s.heap.objs.size s.heap h'->wpAny (model prog w) A (assignInOrder (targets.map (·.2)) items.toList) Q E { s with heap:=h' }) :
   wpAny (model prog w) A (unpack (.ref l) targets) Q E s:=by
 have hlt:l≠s.heap.objs.size:=by obtain ⟨o,ho,_⟩:=hl; exact Be (Ao ho)
 unfold unpack
 rw [hn,hs]
 refine Ac (Bs ?_)
 unfold unpackItems notIterableAtAll
 refine Ac (Ac (Fx hl.typeIs slot_list_iter.lookup (Ai ?_)))
 rw [if_neg (by simp)]
 refine Ac (Bs (El hl ?_))
 refine Ac (Bs (vG hlt items.size 0 _ _ ⟨_,Av _ rfl,rfl,rfl⟩ (hl.push _) (by omega) λg1 it1 sb1=>?_))
 have al:List.take items.size (List.drop 0 items.toList)=items.toList:=by rw [List.drop_zero]; exact List.take_of_length_le (by simp)
 rw [al,if_neg (by simp)]
 refine wpAny_bind (wpAny_holding (wpAny_pyNext_list_end hh it1 ((hl.push _).extBut sb1.extBut hlt) (by simp) λg2 eb=>?_))
 simp only [Option.isSome_none,Bool.false_eq_true,if_false]
 exact Ai (k g2 λb o hb e=>eb b o hb (sb1.extBut b o hb (Af _ e)))
end
def dJE (n:Nat) (t:TGs):TG:=λv σ H Q=>∃ a xs,v=.ref a/\rdL H a=some xs/\xs.length=n/\t xs σ H Q
theorem bZA {X:Cx} {es:List Expr} {k:Nat} {t:TGs} {n:Nat} {pos:Pos} (hc:X.calm=true) (h:PGs X es t)
   (hn:(assignEach es X.env).length=n:=by rfl) (hst:(assignEach es X.env).findIdx? (·.1)=none:=by rfl):PG X (.Tuple es k pos) (dJE n t):=by
 intro pins s σ H v u Q I r hw
 obtain ⟨a,xs,e1,hq,hl,hw⟩:=hw
 subst e1
 cases r
 obtain ⟨its,rv,⟨o,nn,ho,hcl,_,hda⟩,hz⟩:=I.list (aU hq)
 rw [assign_Tuple]
 refine wpAny_bind (wpAny_standAt (yT (I.ok.hd hc) ⟨o,ho,hcl,nn,hda⟩ (by simp [hn,<-hl,rv.length]) hst λh' hx=>?_))
 have I1:Inv X pins σ H { s with heap:=h' }:=I.kept (t':=s.toks) λb o e=>hx b o (Be (Ao e)) e
 exact h pins _ σ H xs _ Q I1 (by simpa using rv) hw
theorem dQ4 {n:Nat} {t:TGs} {a:Addr} {xs:List V} {σ:St} {H:Hp} {Q:St->Hp->Prop} (e:rdL H a=some xs) (hn:xs.length=n) (h:t xs σ H Q):dJE n t (.ref a) σ H Q:=⟨a,xs,rfl,e,hn,h⟩
def hid (H:Hp) (ps:List Addr):Hp:=λb=>if b∈ps then none else H b
end L2
set_option maxHeartbeats 4000000
namespace L2
open PySem PySem.Spec PyProof.Rows
open PySem.AutoSeq1 (wpAny_loadPart')
section
variable {prog:Program} {w:World} {A:Around} {E:Value->Shared->Prop} {s:Shared}
end
section
variable {X:Cx} {l:Expr} {ta tk:TA} {kws:List Keyword} {elts:List Expr} {x1:Nat} {tp p pos kp:Pos}
end
section
variable {K:PySem.W.Frag} {a:Addr} {k:Nat} {xs:List V} {g:TG} {tb:TS} {D:Ends} {σ σ0:St} {H H1:Hp} {tests:TT} {te:TE} {Q:VK} {z:Str} {ta tk:TA}
theorem dZ1 {i:Int} (h:Q (.int (-i)) H):dX8 (.int i) H Q:=h
end
end L2
set_option maxHeartbeats 4000000
namespace L2
open PySem PySem.Spec PyProof.Rows
section
variable {X:Cx} {a b:Expr} {ta tb:TE} {pos:Pos} {rest:List Expr}
section
variable {σ:St} {H:Hp} {Q:VK} {p:Addr} {xs:List V} {z:Str} {j:Nat}
theorem aXR {g:TG} {tests:TT} {te:TE} {σ0:St} {H1:Hp} (f:Nat->Option V) (hl:z.length < sizeLine)
   (hs:∀ (i:Nat) c Hc (A:VK) (B:Hp->Prop),z.cps.toList[i]?=some c->Same H1 Hc->(∀ Hd,Same Hc Hd->match f c with | some y=>A y Hd | none=>B Hd)->
     g (.str ⟨#[c]⟩) σ0 Hc λσ2 H2=>Wk σ0 σ2/\tests σ2 H2 λb H3=>if b=true then te σ2 H3 A else B H3)
   (fin:∀ D Hd,H1 D=none->Same H1 Hd->Hd D=some (.lst (z.cps.toList.filterMap f))->Q (.ref D) Hd):dZ g tests te σ0 Q (Its z) H1:=by
 intro D hD
 have hzz:z.cps.size=z.length:=rfl
 have hz2:z.cps.toList.length=z.length:=by simp [Str.length]
 refine ⟨λi m Hc=>m=z.length - i/\i<=z.length/\Same H1 Hc/\Hc D=some (.lst ((z.cps.toList.take i).filterMap f)),⟨z.length,by simp,Nat.zero_le _,aE hD _,by rw [aD]; rfl⟩,?_⟩
 rintro i m Hc ⟨rfl,hi,sm,hDc⟩
 by_cases hlt:i < z.length
 · refine .inr ⟨hlt,λv H' y=>?_⟩
   obtain ⟨rfl,c,hz,rfl⟩:=y
   have hx:z.cps.toList[i]?=some c:=by rw [Ef]; exact hz
   refine hs i c H' _ _ hx sm λHd sd=>?_
   have hDd:Hd D=some (.lst ((z.cps.toList.take i).filterMap f)):=sd _ _ hDc
   have sH:Same H1 Hd:=sm.trans sd
   cases e:f c with
   | some y=>
     refine ⟨_,hDd,?_,z.length - (i + 1),by omega,rfl,hlt,λb o hb=>?_,?_⟩
     · have:=Da f (z.cps.toList.take i)
       rw [Bo] at this
       omega
     · rw [aK (bJ hb hD)]; exact sH b o hb
     · rw [aD,Az,hx,Cd]
       show some (HO.lst (_ ++ [y]))=some (HO.lst (_ ++ [c].filterMap f))
       rw [Dc e,De]
   | none=>
     refine ⟨z.length - (i + 1),by omega,rfl,hlt,sH,?_⟩
     rw [hDd,Az,hx,Cd]
     show some (HO.lst _)=some (HO.lst (_ ++ [c].filterMap f))
     rw [Dq e,De,Bu]
 · have e:i=z.length:=by omega
   subst e
   refine .inl ⟨Ah _,fin D Hc hD sm ?_⟩
   rw [hDc,Bh (by omega)]
end
end
end L2
set_option maxHeartbeats 4000000
namespace L2
open PySem PySem.Spec PyProof.Rows
section
variable {X:Cx}
def cQN (neg:Bool):R2:=λx y H Q=>∃ a ov,y=.ref a/\DGet H a x ov/\Q (.bl (if neg then !ov.isSome else ov.isSome)) H
theorem cJF (hu:X.A.units + 1 < cLine):OpR X (compareOp .In) (cQN false):=by
 intro pins s σ H x y v u Q I rx ry h
 obtain ⟨a,ov,rfl,g,q⟩:=h
 cases ry
 exact dZS hu I g rx λs3 I3=>⟨.bl ov.isSome,H,I3,rfl,q⟩
theorem bZN (hu:X.A.units + 1 < cLine):OpR X (compareOp .NotIn) (cQN true):=by
 intro pins s σ H x y v u Q I rx ry h
 obtain ⟨a,ov,rfl,g,q⟩:=h
 cases ry
 exact cQS hu I g rx λs3 I3=>⟨.bl (!ov.isSome),H,I3,rfl,q⟩
section
variable {H:Hp} {Q:VK} {a:Addr} {kvs:List (Key × V)} {z:Str}
theorem cZR {neg:Bool} (e:Rd H a (.dK kvs)) (h:Q (.bl (if neg then !(bU kvs (Sum.inr z)).isSome else (bU kvs (Sum.inr z)).isSome)) H):cQN neg (.str z) (.ref a) H Q:=⟨a,_,rfl,.inl ⟨kvs,.inr z,e,rfl,rfl⟩,h⟩
end
end
end L2
set_option maxHeartbeats 4000000
namespace L2
open PySem PySem.Spec PyProof.Rows PySem.Builtin PySem.Builtin.Str
section
variable {X:Cx}
end
end L2
set_option maxHeartbeats 1000000
namespace L2
open PySem PySem.Spec PyProof.Rows
section
variable {X:Cx}
end
end L2
namespace L2
open PySem PySem.Spec PyProof.Rows
section
variable {prog:Program} {w:World} {A:Around} {R:Result->Shared->Prop} {J:Addr} {us ws:List Addr} {n:Nat} {P:Nat->Value->Prop} {St:Nat->Heap->Prop} {d:Value}
end
section
variable {prog:Program} {w:World} {A:Around} {E:Value->Shared->Prop} {s:Shared}
end
section
variable {X:Cx} {l:Expr} {ta:TA} {tk:TA} {p pos kp:Pos}
end
end L2
namespace L2
open PySem PySem.Spec PyProof.Rows
section
variable {X:Cx} {tg a b c:Expr} {p pos:Pos}
end
end L2
set_option maxHeartbeats 4000000
namespace L2
open PySem PySem.Spec PyProof.Rows
section
variable {g:TG} {tests:TT} {te:TE} {σ0:St} {Q:VK} {H1:Hp}
theorem dQ {f:Nat->Option V} {i:Nat} {y:V} (h:f i=some y):(List.range (i + 1)).filterMap f=(List.range i).filterMap f ++ [y]:=by
 rw [Cf,Cd,Dc h,De]
theorem gR {f:Nat->Option V} {i:Nat} (h:f i=none):(List.range (i + 1)).filterMap f=(List.range i).filterMap f:=by
 rw [Cf,Cd,Dq h,De,Bu]
theorem pK {K:PySem.W.Frag} {a:Addr} {xs:List V} (f:Nat->Option V) (ha:rdL H1 a=some xs) (hl:xs.length < sizeLine)
   (hs:∀ (i:Nat) x Hc (A:VK) (B:Hp->Prop),xs[i]?=some x->Same H1 Hc->(∀ y,f i=some y->∀ Hd,Same Hc Hd->A y Hd)->(f i=none->∀ Hd,Same Hc Hd->B Hd)->
     g x σ0 Hc λσ2 H2=>Wk σ0 σ2/\tests σ2 H2 λb H3=>if b=true then te σ2 H3 A else B H3)
   (fin:∀ D Hd,H1 D=none->Same H1 Hd->Hd D=some (.lst ((List.range xs.length).filterMap f))->Q (.ref D) Hd):dZ g tests te σ0 Q (Itl K a) H1:=by
 refine gA (n:=xs.length) (λD i ys Hc=>Same H1 Hc/\ys=(List.range i).filterMap f) hl (λD hD=>⟨aE hD _,rfl⟩)
   (λD i ys Hc _ r h=>⟨xs,xs[i],aU (aH r.1 ha),by simp [h]⟩) (λD ys Hc _ r=>⟨xs,aU (aH r.1 ha),Nat.le_refl _⟩) ?_ ?_
 · rintro D i ys Hc x H' A B hD hi ⟨sm,rfl⟩ hDc ⟨rfl,hz⟩ ha' hb
   refine hs i x H' A B (hz xs (aU (aH sm ha))) sm (λy hy Hd sd=>?_) (λhn Hd sd=>?_)
   · exact ha' _ _ (sd _ _ hDc) ⟨aW hD (sm.trans sd),(dQ hy).symm⟩
   · exact hb _ (sd _ _ hDc) ⟨sm.trans sd,(gR hn).symm⟩
 · rintro D ys Hc hD ⟨sm,rfl⟩ hDc _
   exact fin D Hc hD sm hDc
theorem bXJ {K:PySem.W.Frag} {a:Addr} {k:Nat} {xs:List V} (f:Nat->Option V) (ha:rdL H1 a=some xs) (hl:xs.length < sizeLine)
   (hs:∀ (i:Nat) x Hc p (A:VK) (B:Hp->Prop),xs[i]?=some x->Same H1 Hc->Hc p=none->(∀ y,f i=some y->∀ Hd,Same (upd Hc p (.tup [.int ((k + i:Nat):Int),x])) Hd->A y Hd)->(f i=none->∀ Hd,Same (upd Hc p (.tup [.int ((k + i:Nat):Int),x])) Hd->B Hd)->
     g (.ref p) σ0 (upd Hc p (.tup [.int ((k + i:Nat):Int),x])) λσ2 H2=>Wk σ0 σ2/\tests σ2 H2 λb H3=>if b=true then te σ2 H3 A else B H3)
   (fin:∀ D Hd,H1 D=none->Same H1 Hd->Hd D=some (.lst ((List.range xs.length).filterMap f))->Q (.ref D) Hd):dZ g tests te σ0 Q (Ite K a k) H1:=by
 refine gA (n:=xs.length) (λD i ys Hc=>Same H1 Hc/\ys=(List.range i).filterMap f) hl (λD hD=>⟨aE hD _,rfl⟩)
   (λD i ys Hc _ r h=>⟨xs,xs[i],aU (aH r.1 ha),by simp [h]⟩) (λD ys Hc _ r=>⟨xs,aU (aH r.1 ha),rfl⟩) ?_ ?_
 · rintro D i ys Hc x H' A B hD hi ⟨sm,rfl⟩ hDc ⟨q,z,hq,rfl,rfl,hz⟩ ha' hb
   refine hs i z Hc q A B (hz xs (aU (aH sm ha))) sm hq (λy hy Hd sd=>?_) (λhn Hd sd=>?_)
   · exact ha' _ _ (sd _ _ (aE hq _ _ _ hDc)) ⟨aW hD (sm.trans ((aE hq _).trans sd)),(dQ hy).symm⟩
   · exact hb _ (sd _ _ (aE hq _ _ _ hDc)) ⟨sm.trans ((aE hq _).trans sd),(gR hn).symm⟩
 · rintro D ys Hc hD ⟨sm,rfl⟩ hDc _
   exact fin D Hc hD sm hDc
end
section
variable {X:Cx} {e:Expr} {te:TE} {p2 pos pu pc:Pos} {j:Nat}
end
end L2
set_option maxHeartbeats 4000000
namespace L2
open PySem PySem.Spec PyProof.Rows
section
variable {X:Cx}
end
end L2
set_option maxHeartbeats 4000000
namespace L2
open PySem PySem.Spec PyProof.Rows PySem.Builtin PySem.Builtin.Str
section
variable {X:Cx}
end
end L2
set_option maxHeartbeats 4000000
namespace L2
open PySem PySem.Spec PyProof.Rows
section
variable {prog:Program} {w:World} {A:Around} {E:Value->Shared->Prop} {s:Shared} {jt dq:Addr} {n0 ep:Nat} {en:Array DictEntry} {od:Obj}
theorem bQL {Q:Option Value->Shared->Prop} (hit:s.heap.IsKeyIter jt dq n0 en.size ep) (hod:s.heap.get? dq=some od) (hdd:od.data=.dict en ep) (hi:n0 < en.size)
   (hq:∀ h',h'.IsKeyIter jt dq (n0 + 1) en.size ep->Heap.SameBut jt s.heap h'->Q (some en[n0].key) { s with heap:=h' }):wpAny (model prog w) A (pyNext (.ref jt)) Q E s:=by
 obtain ⟨oi,hoi,ci,di⟩:=id hit
 have ow:Builtin.Dict_items.ownsTuple "dict_keyiterator"=false:=by decide
 have tI:=hit.typeIs
 unfold pyNext
 refine Ac (Gr (wpAny_callSpecial?_slot (name:=Str.ofString "__next__") tI Dw (Ea Dw tI F.entry_dict_keyiterator_next ?_ (F.args_dict_keyiterator_next_1 _))))
 refine Ac (Ai (Ac (Ac ?_)))
 refine Ac (Du tI (Ai (Ac (wpAny_fieldsOf hoi di ?_))))
 simp only [ow,Bool.false_eq_true,if_false]
 show wpAny _ _ (if (Value.ref dq == Value.none)=true then _ else _) _ _ s
 rw [if_neg (by exact Am)]
 refine Ac (Ai (Ac (wpAny_dictEntries hod hdd ?_)))
 rw [if_neg (by simp)]
 refine Ac (Ai (Ac (wpAny_dictEpoch hod hdd ?_)))
 rw [if_neg (by simp)]
 refine Ai ?_
 simp only [show ¬ ((n0:Int) < 0) by omega,if_false,Int.toNat_natCast,Array.getElem?_eq_getElem hi]
 refine Ac (Ac (Du tI (Ai ?_)))
 refine Ac (wpAny_isOneOf_keyiter tI ?_)
 show wpAny _ _ (setField (.ref jt) 1 (rawInt ((n0:Int) + 1)) >>= _) _ _ s
 have nx:(s.heap.update jt (Obj.mapFields (·.setIfInBounds 1 (rawInt ((n0:Int) + 1))))).IsKeyIter jt dq (n0 + 1) en.size ep :=
   ⟨_,Heap.get?_update_self _ hoi (Obj.isFreed_of_fields (Obj.data_mapFields di _)),(Obj.cls_mapFields ..).trans ci,by rw [Obj.data_mapFields di]; simp [rawInt]⟩
 refine wpAny_bind (wpAny_setField hoi di (by simp) (wpAny_bind (wpAny_holding (wpAny_bind (wpAny_isOneOf_keyiter (s:={ s with heap:=s.heap.update jt (Obj.mapFields (·.setIfInBounds 1 (rawInt ((n0:Int) + 1)))) }) nx.typeIs ?_)))))
 show wpAny _ _ (pure en[n0].key) _ _ _
 exact Ai (Ai ⟨_,rfl,Ai (hq _ nx (Fu ..))⟩)
theorem aJI {Q:Option Value->Shared->Prop} (hh:A.handled=none) (hit:s.heap.IsKeyIter jt dq en.size en.size ep) (hod:s.heap.get? dq=some od) (hdd:od.data=.dict en ep)
   (hq:∀ h',Heap.ExtBut jt s.heap h'->Q none { s with heap:=h' }):wpAny (model prog w) A (pyNext (.ref jt)) Q E s:=by
 obtain ⟨oi,hoi,ci,di⟩:=id hit
 have ow:Builtin.Dict_items.ownsTuple "dict_keyiterator"=false:=by decide
 have tI:=hit.typeIs
 unfold pyNext
 refine Ac (Gr (wpAny_callSpecial?_slot (name:=Str.ofString "__next__") tI Dw (Ea Dw tI F.entry_dict_keyiterator_next ?_ (F.args_dict_keyiterator_next_1 _))))
 refine Ac (Ai (Ac (Ac ?_)))
 refine Ac (Du tI (Ai (Ac (wpAny_fieldsOf hoi di ?_))))
 simp only [ow,Bool.false_eq_true,if_false]
 show wpAny _ _ (if (Value.ref dq == Value.none)=true then _ else _) _ _ s
 rw [if_neg (by exact Am)]
 refine Ac (Ai (Ac (wpAny_dictEntries hod hdd ?_)))
 rw [if_neg (by simp)]
 refine Ac (Ai (Ac (wpAny_dictEpoch hod hdd ?_)))
 rw [if_neg (by simp)]
 refine Ai ?_
 simp only [show ¬ ((en.size:Int) < 0) by omega,if_false,Int.toNat_natCast,Array.getElem?_eq_none (Nat.le_refl en.size)]
 refine Ac (Ac (Du tI (Ai ?_)))
 show wpAny _ _ (setField (.ref jt) 0 .none >>= _) _ _ s
 refine wpAny_bind (wpAny_setField hoi di (by simp) ?_)
 show wpAny _ _ (newExc (Value.type "StopIteration") [] >>= _) _ _ _
 refine Ac ?_
 simp only [newTuple,newExc]
 refine wpAny_bind (wpAny_newObj_type (wpAny_bind (m:=firstArgMember _ _) (wpAny_of_eq (a:=Value.none) (by first | rfl | (simp only [firstArgMember]; rfl)) (wpAny_newObj_type ?_ (by size_fits)))) (by size_fits))
 simp only [raiseNew]
 refine Ac (wpAny_handled (?_:_))
 rw [show A.in1.handled=none by exact hh]
 refine Ac (Ai (wpAny_throw ?thr))
 case thr=>
  refine Ac (wpAny_isInstance (b:=true) (T := "StopIteration") ⟨_,Av _ rfl,rfl⟩ isSubtype_stop ?_)
  exact Ai (hq _ (((Fu ..).extBut.push _).push _))
end
def ItT (a:Addr) (o:Obj) (kvs:List (List Key × V)):It:=⟨λi H=>H a=some (.frz o (.dT kvs))/\i < kvs.length,λi H x H'=>H'=H/\∃ kv b,kvs[i]?=some kv/\x=.ref b/\H b=some (.tup (kv.1.map kV)),λi H=>H a=some (.frz o (.dT kvs))/\kvs.length=i⟩
theorem tZ {X:Cx} {pins:List (Addr × Obj)} {σ:St} {H:Hp} {s:Shared} {a:Addr} {o:Obj} {kvs:List (List Key × V)} {ep:Nat} (I:Inv X pins σ H s) (ha:H a=some (.frz o (.dT kvs))) (hep:∃ es,o.data=.dict es ep) :
   kvs.length<=sizeLine/\(a == sysModules)=false/\∃ xs es,KT H kvs xs/\s.heap.get? a=some o/\o.data=.dict es ep/\o.ExactDict/\es.toList=xs.map (entryOfKey (tupleKind (bB X.prog X.w))):=by
 have ok:s.heap.get? a=some o/\ObjOk X.prog X.w H s.heap a (.dT kvs):=I.hok a _ ha
 obtain ⟨e,z,hd,xs,rel,o',es',ep',ho',hx,hdat,he,_⟩:=ok
 rw [e] at ho'
 cases ho'
 obtain ⟨es,hes⟩:=hep
 have q:=hdat
 rw [hes] at q
 cases q
 exact ⟨z,hd,xs,_,rel,e,hdat,hx,he⟩
theorem yS {P:Program} {w:World} {K:PySem.W.Frag} {tg:Expr} (a it:Addr) (o:Obj) (kvs:List (List Key × V)) (ep:Nat) (hep:∃ es,o.data=.dict es ep):Turn P w K tg (ItT a o kvs) [it] it (λi h=>h.IsKeyIter it a i kvs.length ep) where
 mem:=by simp
 obj:=λi h st b hb=>by
   obtain ⟨o,e,c,d⟩:=st
   rw [Aw.mp hb]
   exact ⟨o,e,λv z=>by rw [d] at z; cases z⟩
 keep:=λi h h' st k=>let ⟨o,ho,r⟩:=st; ⟨o,k it (by simp) o ho,r⟩
 item:=by
   intro X hP hw hK hc i pins s σ H E I hf st hg
   subst hP hw hK
   obtain ⟨ha,hi⟩:=hg
   obtain ⟨z,hd,xs,es,rel,ho,hdat,hx,he⟩:=tZ I ha hep
   have hlv:=rel.length
   have hsz:es.size=xs.length:=by rw [<-Dx,he,Ab]
   obtain ⟨f0,f1,f2,f3,f4,f5⟩:=hf it (by simp)
   obtain ⟨⟨k,b,v⟩,hxi,hk1,hk2,_⟩:=oX rel (Aa hi)
   have hie:i < es.size:=by omega
   have hkey:es[i].key=.ref b:=by
     have q:es[i]?=some (entryOfKey (tupleKind (bB X.prog X.w)) (k,b,v)):=by rw [<-Ef,he,Ag,hxi]; rfl
     rw [Fs hie] at q
     rw [Br q]
     rfl
   refine bQL (en:=es) (by rw [hsz,<-hlv]; exact st) ho hdat hie λh' st' sb=>?_
   rw [hkey]
   have I1:Inv X pins σ H { s with heap:=h' }:=I.turned (t':=s.toks) (λb o hb e=>(sb.2 b hb).trans e) f0 f1 f3 f4 f5
   obtain ⟨oi,e,c,d⟩:=id st'
   refine ⟨.ref b,rfl,pW (s:={ s with heap:=h' }) e c d (by decide) ⟨.ref b,H,I1,rfl,⟨rfl,kvs[i],b,Aa hi,rfl,hk2⟩,?_,λb hb=>(hf b hb).1⟩⟩
   rw [hlv,<-hsz]
   exact st'
 done:=by
   intro X hP hw hK hc i pins s σ H E I hf st hg
   subst hP hw hK
   obtain ⟨ha,hi⟩:=hg
   obtain ⟨z,hd,xs,es,rel,ho,hdat,hx,he⟩:=tZ I ha hep
   have hlv:=rel.length
   have hsz:es.size=xs.length:=by rw [<-Dx,he,Ab]
   obtain ⟨f0,f1,f2,f3,f4,f5⟩:=hf it (by simp)
   exact aJI (en:=es) (I.ok.hd hc) (by rw [hsz,<-hlv]; rw [<-hi] at st; exact st) ho hdat λh' eb=>⟨rfl,I.turned (t':=s.toks) (λb o hb e=>eb b o hb e) f0 f1 f3 f4 f5⟩
 self:=λ_ _ _ _ _ st h=>wpAny_pyIter_keyiter st h
section
variable {prog:Program} {w:World} {A:Around} {E:Value->Shared->Prop} {s:Shared} {dq:Addr} {en:Array DictEntry} {ep:Nat} {od:Obj}
theorem bQD {Q:Value->Shared->Prop} (hs:(dq == sysModules)=false) (hod:s.heap.get? dq=some od) (hx:od.ExactDict) (hdd:od.data=.dict en ep)
   (hq:Q (.ref s.heap.objs.size) { s with heap:=s.heap.push { cls:=.type "dict_keyiterator",data:=.fields #[.ref dq,.int 0 0,.int en.size 0,.int ep 0] } }):wpAny (model prog w) A (pyIter (.ref dq)) Q E s:=by
 have tD:s.TypeIs (.ref dq) "dict" := ⟨od,hod,hx.1⟩
 refine wpAny_pyIter_slot tD F.slot_dict_iter (Ea F.slot_dict_iter tD F.entry_dict_iter ?_ (F.args_dict_iter_1 _))
 unfold Builtin.«dict.__iter__» ; refine Ac ?_
 unfold Builtin.Dict.dictSlotNone ; refine Ac (wpAny_notOrdered_dict tD ?_)
 show wpAny _ _ (pure (Value.ref dq)) _ _ s
 refine Ai ?_
 show wpAny _ _ (Builtin.Dict.showsAll dq >>= _) _ _ s
 unfold Builtin.Dict.showsAll
 rw [if_neg (by rw [hs]; decide)]
 refine Ac (Ai (Ac (wpAny_dictEntries hod hdd (Ac (wpAny_dictEpoch hod hdd ?_)))))
 refine Ac (Gg (Ai ⟨_,rfl, "dict_keyiterator",_,⟨_,Av _ rfl,rfl⟩,F.slot_dict_keyiterator_next.lookup,(?_:_)⟩))
 simpa [rawInt] using hq
end
section
variable {X:Cx} {tg:Expr} {pins:List (Addr × Obj)} {σ:St} {H:Hp} {s:Shared} {a:Addr}
theorem aJW {kvs:List (List Key × V)} (I:Inv X pins σ H s) (ha:H a=some (.dT kvs)):∃ o es ep,s.heap.get? a=some o/\o.data=.dict es ep:=by
 obtain ⟨_,_,xs,_,o,es,ep,ho,_,hd,_⟩:=cZ0 I.hok ha
 exact ⟨o,es,ep,ho,hd⟩
theorem bQZ {o:Obj} {kvs:List (List Key × V)} (I:Inv X pins σ H s) (ha:H a=some (.frz o (.dT kvs))):∃ ep,∃ es,o.data=.dict es ep:=by
 have ok:s.heap.get? a=some o/\ObjOk X.prog X.w H s.heap a (.dT kvs):=I.hok a _ ha
 obtain ⟨e,_,_,xs,_,o',es,ep,ho,_,hd,_⟩:=ok
 rw [e] at ho
 cases ho
 exact ⟨ep,es,hd⟩
def mG (H:Hp) (a:Addr) (R:Obj->List (List Key × V)->Hp->Prop):Prop:=(∃ kvs,H a=some (.dT kvs)/\∀ o,R o kvs (upd H a (.frz o (.dT kvs))))\/∃ o kvs,H a=some (.frz o (.dT kvs))/\R o kvs H
theorem bJK {R:Obj->List (List Key × V)->Hp->Prop} (I:Inv X pins σ H s) (h:mG H a R) :
   ∃ o kvs H' ep,Inv X pins σ H' s/\H' a=some (.frz o (.dT kvs))/\(∃ es,o.data=.dict es ep)/\R o kvs H':=by
 rcases h with ⟨kvs,ha,q⟩ | ⟨o,kvs,ha,q⟩
 · obtain ⟨o,es,ep,ho,hd⟩:=aJW I ha
   exact ⟨o,kvs,_,ep,I.freeze ha rfl ho,aD,⟨es,hd⟩,q o⟩
 · obtain ⟨ep,es,hd⟩:=bQZ I ha
   exact ⟨o,kvs,H,ep,I,ha,⟨es,hd⟩,q⟩
def bX1 (tl:TE):TI:=λσ H R=>tl σ H (gM λa H1=>mG H1 a λo kvs H2=>R (ItT a o kvs) H2)
theorem mM {l:Expr} {tl:TE} (hl:PE X l tl):PI X tg l (bX1 tl):=by
 intro pins s σ H R I h
 refine thn (hl pins s σ H _ I h) λv s1 ⟨x,H1,I1,r1,q1⟩=>?_
 unfold gM at q1
 split at q1
 · cases r1
   rename_i a0 _
   obtain ⟨o,kvs,H2,ep,I2,ha,hep,q⟩:=bJK I1 q1
   obtain ⟨z,hd,xs,es,rel,ho,hdat,hx,he⟩:=tZ I2 ha hep
   have hsz:es.size=kvs.length:=by rw [<-Dx,he,Ab,rel.length]
   refine bQD hd ho hx hdat ?_
   refine ⟨s1.heap.objs.size,[s1.heap.objs.size],_,_,H2,rfl,I2.kept (t':=s1.toks) λb o e=>Af _ e,yS a0 _ o kvs ep hep,⟨_,Av _ rfl,rfl,by rw [hsz]; rfl⟩,λb hb=>?_,q⟩
   rw [Aw.mp hb]
   exact I2.fpOk (Ah _) (I2.hok.fresh (Ah _))
 · exact q1.elim
def cZV:V->List V->Hp->VK->Prop:=λx vs H Q=>∃ a y ov,x=.ref a/\vs=[y]/\DGet H a y ov/\Q (ov.getD .non) H
end
section
variable {σ:St} {H:Hp} {Q:VK} {D:Ends} {a b:Addr} {kvs:List (List Key × V)} {k:List Key} {v w:V} {tl:TE} {R:It->Hp->Prop} {g:TG} {tb:TS} {o:Obj}
theorem bXH (Pv:Nat->St->Hp->Prop) (h0:Pv 0 σ H) (hl:∀ i σ H,i<=kvs.length->Pv i σ H->H a=some (.frz o (.dT kvs)))
   (hs:∀ i kv b σ H,kvs[i]?=some kv->H b=some (.tup (kv.1.map kV))->Pv i σ H->g (.ref b) σ H λσ2 H2=>tb { D with nx:=Pv (i + 1),ct:=Pv (i + 1),bk:=D.nx } σ2 H2) (hd:∀ σ H,Pv kvs.length σ H->D.nx σ H):vC (ItT a o kvs) g tb D σ H:=by
 refine ⟨λi m σ H=>m=kvs.length - i/\i<=kvs.length/\Pv i σ H,⟨kvs.length,by simp,Nat.zero_le _,h0⟩,?_⟩
 rintro i m σ H ⟨rfl,hi,p⟩
 have hr:=hl i σ H hi p
 by_cases hlt:i < kvs.length
 · refine .inr ⟨⟨hr,hlt⟩,Pv (i + 1),λσ' H' p'=>⟨kvs.length - (i + 1),by omega,rfl,hlt,p'⟩,λx H' y=>?_⟩
   obtain ⟨rfl,kv,b,hx,rfl,hb⟩:=y
   exact hs i kv b σ _ hx hb p
 · have e:i=kvs.length:=by omega
   subst e
   exact .inl ⟨⟨hr,rfl⟩,hd σ H p⟩
theorem bZK (h:tl σ H (gM λa H1=>mG H1 a λo kvs H2=>R (ItT a o kvs) H2)):bX1 tl σ H R:=h
theorem uF {Rw:Obj->List (List Key × V)->Hp->Prop} (e:H a=some (.dT kvs)) (h:∀ o,Rw o kvs (upd H a (.frz o (.dT kvs)))):mG H a Rw:=.inl ⟨kvs,e,h⟩
theorem bQK {Rw:Obj->List (List Key × V)->Hp->Prop} (e:H a=some (.frz o (.dT kvs))) (h:Rw o kvs H):mG H a Rw:=.inr ⟨o,kvs,e,h⟩
theorem cQT (h:∀ p,H p=none->Q (.ref p) (upd H p (.dT []))):bJB σ H Q:=h
theorem aQC (e:Rd H a (.dT kvs)) (eb:H b=some (.tup (k.map kV))) (l:bU kvs k=some v) (h:Q v H):dXR (.ref a) (.ref b) H Q:=⟨a,v,rfl,.inr ⟨kvs,k,b,e,rfl,eb,l.symm⟩,h⟩
theorem oH (e:H a=some (.dT kvs)) (eb:H b=some (.tup (k.map kV))) (l:kvs.length < sizeLine) (h:D.nx σ (upd H a (.dT (dH kvs k v)))):bZL D σ (.ref a) (.ref b) v H:=⟨a,_,rfl,.inr ⟨kvs,k,b,e,rfl,eb,l,rfl⟩,h⟩
theorem dXS {neg:Bool} (e:Rd H a (.dT kvs)) (eb:H b=some (.tup (k.map kV))) (h:Q (.bl (if neg then !(bU kvs k).isSome else (bU kvs k).isSome)) H):cQN neg (.ref b) (.ref a) H Q:=⟨a,_,rfl,.inr ⟨kvs,k,b,e,rfl,eb,rfl⟩,h⟩
theorem aQW (e:Rd H a (.dT kvs)) (eb:H b=some (.tup (k.map kV))) (h:Q ((bU kvs k).getD .non) H):cZV (.ref a) [.ref b] H Q:=⟨a,_,_,rfl,rfl,.inr ⟨kvs,k,b,e,rfl,eb,rfl⟩,h⟩
end
theorem aJ6 {prog:Program} {w:World} {A:Around} {E:Value->Shared->Prop} {s:Shared} {Q:Int->Shared->Prop} (h:Q 0xFCA86420 { s with toks:=s.toks + 1 }):wpAny (model prog w) A (pyHash .none) Q E s:=by
 have tN:s.TypeIs .none "NoneType" := rfl
 unfold pyHash pyHashByItsType
 refine Ac ?_
 rw [cRoomFor,if_neg (by decide)]
 refine Ai (Ac (Fx tN F.slot_NoneType_hash.lookup ?_))
 show wpAny _ _ (if (some (Value.builtin "NoneType.__hash__") == some Value.none)=true then _ else _) Q E s
 rw [if_neg (by rw [beq_builtin_none]; decide)]
 refine Ac (Fx tN F.slot_NoneType_hash.lookup ?_)
 show wpAny _ _ (callSpecialIfBoundUnlessNone? .none "__hash__" _ >>= _) Q E s
 refine Ac (wpAny_callSpecialIfBoundUnlessNone?_slot tN F.slot_NoneType_hash (Ea F.slot_NoneType_hash tN F.entry_NoneType_hash (show wpAny _ _ (do ret (<-mkInt 0xFCA86420)) _ _ s from wpAny_ret_mkInt ?_) (F.args_NoneType_hash_1 _)))
 show wpAny _ _ (if (decide (-(2:Int) ^ 63<=0xFCA86420) && decide ((0xFCA86420:Int) < 2 ^ 63))=true then _ else _) Q E _
 rw [if_pos (by decide)]
 exact Ai h
def bX8:Option Key->Value->Bool
 | none,.none=>true
 | none,_=>false
 | some k,v=>kP k v
theorem cY {v:Value} (h:bX8 none v=true):v=.none:=by
 cases v <;> first | rfl | (exact absurd h (by decide)) | cases h
theorem kZ {k:Key} {v:Value} (h:kP k v=true):v≠.none:=λz=>by
 rcases bR h with ⟨i,t,_,e⟩ | ⟨x,t,_,e⟩ <;> rw [z] at e <;> cases e
def eQW (w:World):Option Key->Int
 | none=>0xFCA86420
 | some k=>dZY w k
def aQX (prog:Program) (w:World):PySem.KeyKind prog w (Option Key) where
 is:=bX8
 hash:=eQW w
 inj:=λv a b ha hb=>by
   cases a with
   | none=>
     cases b with
     | none=>rfl
     | some b=>exact absurd (cY ha) (kZ hb)
   | some a=>
     cases b with
     | none=>exact absurd (cY hb) (kZ ha)
     | some b=>exact Df some ((bB prog w).inj v a b ha hb)
 byValue:=λk v h=>by
   cases k with
   | none=>rw [cY h]; rfl
   | some k=>exact (bB prog w).byValue k v h
 pyHash:=fun {A E s k v Q} hv h=>by
   cases k with
   | none=>rw [cY hv]; exact aJ6 h
   | some k=>exact (bB prog w).pyHash hv h
 eqBool:=fun {A E s a b u v Q} hu hv h=>by
   cases a with
   | none=>
     rw [cY hu]
     cases b with
     | none=>rw [cY hv]; exact SeqAt.EqAt.same _ _ _ _ _ (by simpa using h)
     | some b=>
       have h2:Q false s:=by simpa using h
       rcases bR (show kP b v=true from hv) with ⟨j,t,_,rfl⟩ | ⟨y,t,_,rfl⟩
       · exact SeqAt.EqAt.none_int _ _ _ _ _ _ h2
       · exact SeqAt.EqAt.none_str _ _ _ _ _ _ h2
   | some a=>
     cases b with
     | none=>
       rw [cY hv]
       have h2:Q false s:=by simpa using h
       rcases bR (show kP a u=true from hu) with ⟨j,t,_,rfl⟩ | ⟨y,t,_,rfl⟩
       · exact SeqAt.EqAt.int_none _ _ _ _ _ _ h2
       · exact SeqAt.EqAt.str_none _ _ _ _ _ _ h2
     | some b=>
       refine (bB prog w).eqBool hu hv ?_
       have e:decide (some a=some b)=decide (a=b):=Dh.mpr ⟨Br,λz=>by rw [z]⟩
       rw [e] at h
       exact h
 «strs» := λk x t v h=>by
   cases k with
   | none=>exact absurd (cY h) (λz=>nomatch z)
   | some k=>exact (bB prog w).strs k x t v h
theorem dXI {prog:Program} {w:World} {h:Heap} {a:Addr} {f:Key->Option Value} (hm:h.MapOf (bB prog w) a f):h.MapOf (aQX prog w) a (λk=>k.bind f):=by
 obtain ⟨o,es,ep,ho,hx,hd,hk,hf⟩:=hm
 refine ⟨o,es,ep,ho,hx,hd,λe he=>?_,λk=>?_⟩
 · obtain ⟨k,h1,h2⟩:=hk e he
   exact ⟨some k,h1,h2⟩
 · cases k with
   | some k=>exact hf k
   | none=>
     show findBy bX8 es none=none
     unfold findBy
     rw [Option.map_eq_none_iff,Array.find?_eq_none]
     intro e he z
     obtain ⟨k,h1,_⟩:=hk e he
     exact kZ h1 (cY z)
section
variable {X:Cx}
def bJL:R2:=λx y H Q=>∃ a,y=.ref a/\((∃ ov,DGet H a x ov/\Q (.bl ov.isSome) H)\/(x=.non/\∃ kvs,Rd H a (.dK kvs)/\Q (.bl false) H))
theorem dQH (hu:X.A.units + 1 < cLine):OpR X (compareOp .In) bJL:=by
 intro pins s σ H x y v u Q I rx ry h
 obtain ⟨a,rfl,h⟩:=h
 cases ry
 rcases h with ⟨ov,g,q⟩ | ⟨rfl,kvs,e,q⟩
 · exact dZS hu I g rx λs3 I3=>⟨.bl ov.isSome,H,I3,rfl,q⟩
 · cases rx
   obtain ⟨z,hd,vs,rel,dd⟩:=gP I.hok e
   exact wpAny_in_of (knd:=aQX X.prog X.w) (k:=none) (key:=Value.none) rfl hd (dXI dd.mapOf) ⟨.bl false,H,I.tok _,rfl,q⟩
theorem bZ1 (hu:X.A.units + 1 < cLine):MtR X "dict.get" cZV:=by
 intro pins s σ H x vs v us Q I rx rv h
 obtain ⟨a,y,ov,rfl,rfl,g,q⟩:=h
 cases rx
 obtain ⟨u,rfl,ru⟩:=rv.one
 exact dXM hu I g ru λw1 s1 I1 r1=>⟨_,H,I1,r1,q⟩
end
section
variable {H:Hp} {Q:VK} {a:Addr} {kvs:List (Key × V)} {z:Str}
theorem dXC (e:Rd H a (.dK kvs)) (h:Q (.bl false) H):bJL .non (.ref a) H Q:=⟨a,rfl,.inr ⟨rfl,kvs,e,h⟩⟩
theorem cXD (e:Rd H a (.dK kvs)) (h:Q (.bl (bU kvs (Sum.inr z)).isSome) H):bJL (.str z) (.ref a) H Q:=⟨a,rfl,.inl ⟨_,.inl ⟨kvs,.inr z,e,rfl,rfl⟩,h⟩⟩
end
section
variable {X:Cx}
def dJ6:R2:=λx y H Q=>∃ (p q:Addr) (a b c d:Int),x=.ref p/\y=.ref q/\H p=some (.tup [.int a,.int b])/\H q=some (.tup [.int c,.int d])/\Q (.bl (decide (a=c/\b=d))) H
theorem dJS (hu:X.A.units < cLine):OpR X (compareOp .Eq) dJ6:=by
 intro pins s σ H x y v u Q I rx ry h
 obtain ⟨p,q,a,b,c,d,rfl,rfl,hp,hq,k⟩:=h
 cases rx
 cases ry
 obtain ⟨its,r1,l1,_⟩:=I.tuple (SqT.of (K:=X.K) hp)
 obtain ⟨its2,r2,l2,_⟩:=I.tuple (SqT.of (K:=X.K) hq)
 obtain ⟨u1,u2,rfl,⟨t1,rfl⟩,⟨t2,rfl⟩⟩:=r1.two
 obtain ⟨w1,w2,rfl,⟨t3,rfl⟩,⟨t4,rfl⟩⟩:=r2.two
 refine SeqAt.eq_tupleAt (e:=λj=>if j=0 then a == c else b == d) (show s.heap.IsTuple p _ from l1) (show s.heap.IsTuple q _ from l2) hu (λj h1 h2=>?_) ?_
 · match j,h1,h2 with
   | 0,_,_=>exact SeqAt.EqAt.int_int a t1 c t3
   | 1,_,_=>exact SeqAt.EqAt.int_int b t2 d t4
   | j + 2,h1,_=>exact absurd h1 (by show ¬ j + 2 < 2; omega)
 · refine ⟨.bl (decide (a=c/\b=d)),H,I,?_,k⟩
   show Value.bool _=Value.bool _
   congr 1
   show (((if (0:Nat)=0 then a == c else b == d) && ((if (1:Nat)=0 then a == c else b == d) && true)) && true)=_
   rw [if_pos rfl,if_neg (by decide),Bool.and_true,Bool.and_true]
   by_cases e1:a=c
   · by_cases e2:b=d
     · simp [e1,e2]
     · simp [e1,e2]
   · simp [e1]
theorem dZX {H:Hp} {Q:VK} {p q:Addr} {a b c d:Int} (hp:H p=some (.tup [.int a,.int b])) (hq:H q=some (.tup [.int c,.int d])) (h:Q (.bl (decide (a=c/\b=d))) H):dJ6 (.ref p) (.ref q) H Q:=⟨p,q,a,b,c,d,rfl,rfl,hp,hq,h⟩
end
end L2
set_option maxHeartbeats 4000000
namespace L2
open PySem PySem.Spec PyProof.Rows
open PySem.AutoSeq1 (wpAny_loadPart')
open PySem.MeetsSeq PySem.MeetsSeq2 PySem.MeetsSeq3
def EqB (P:Program) (w:World) (A:Around) (s:Shared) (u v:Value):Prop:=∃ b:Bool,∀ (E:Value->Shared->Prop) (Q:Bool->Shared->Prop),Q b s->wpAny (model P w) A (eqBool u v) Q E s
section
variable {P:Program} {w:World} {A:Around} {E:Value->Shared->Prop} {s:Shared} {l:Addr} {xs:Array Value}
theorem EqB.same (u:Value):EqB P w A s u u:=⟨true,λE Q hq=>SeqAt.EqAt.same u P w E Q hq⟩
end
section
variable {X:Cx}
end
section
variable {X:Cx} {l:Expr} {ta:TA} {elts:List Expr} {x1:Nat} {tp p pos:Pos}
end
end L2
set_option maxHeartbeats 4000000
namespace L2
open PySem PySem.Spec PyProof.Rows
section
variable {prog:Program} {w:World} {A:Around} {E:Value->Shared->Prop} {s:Shared}
def CtxNone (h:Heap) (ea:Addr):Prop:=∃ o fs,h.get? ea=some o/\o.data=.fields fs/\fs[2]?=some .none
theorem CtxNone.ext {h h':Heap} {ea:Addr} (c:CtxNone h ea) (k:∀ o,h.get? ea=some o->h'.get? ea=some o):CtxNone h' ea:=by
 obtain ⟨o,fs,h1,h2,h3⟩:=c
 exact ⟨o,fs,k o h1,h2,h3⟩
end
end L2
set_option maxHeartbeats 4000000
namespace L2
open PySem PySem.Spec PyProof.Rows
section
variable {X:Cx} {pins:List (Addr × Obj)} {σ:St} {H:Hp} {s:Shared} {ea:Addr}
end
section
variable {prog:Program} {w:World} {A:Around} {E:Value->Shared->Prop} {s:Shared}
theorem CtxNone.some {h:Heap} {ea:Addr} (c:CtxNone h ea):∃ o,h.get? ea=Option.some o:=by
 obtain ⟨o,_,e,_⟩:=c
 exact ⟨o,e⟩
end
end L2
set_option maxHeartbeats 4000000
namespace L2
open PySem PySem.Spec PyProof.Rows
section
variable {X:Cx} {tg:Expr}
end
section
variable {X:Cx} {tg l a b:Expr} {tl ta tb:TE} {p pos:Pos}
end
end L2
set_option maxHeartbeats 4000000
namespace L2
open PySem PySem.Spec PyProof.Rows
section
variable {P:Program} {w:World} {K:PySem.W.Frag} {mg:Str->Option Value} {base:Heap}
end
section
variable {X:Cx} {pn:List (Addr × Obj)} {ea:Addr} {k k':Nat} {ps:List Str} {sp:Sp} {x:Str} {p pos:Pos} {e:Expr} {es:List Expr} {t:TA}
end
section
variable {X:Cx} {pins:List (Addr × Obj)}
end
end L2
set_option maxHeartbeats 4000000
namespace L2
open PySem PySem.Spec PyProof.Rows
section
variable {M:Model} {A:Around} {E:Value->Shared->Prop} {s:Shared} {B:Heap} {env:Env} {outer l:List Env} {L e:Addr} {cls fl:Value} {d:Option Addr} {Q:Unit->Shared->Prop}
theorem yE {o:Option Addr} (F:Fly B l e cls d fl s.heap) (hQ:∀ h' fl',Fly B l e cls d fl' h'->s.heap.UpToSlots h'->Q () { s with heap:=h' }):wpAny M A (setFlight (.ref e) o) Q E s:=by
 obtain ⟨hB,hn,hl,oe,vs,T,oT,ts,he,hc,hd,h1,hT,hTe,gT,dT,t3,c2⟩:=F
 have z3:3 < ts.size:=(Cj.mp t3).1
 unfold setFlight
 refine Ac (Em he hd h1 ?_)
 rw [if_pos (show (Value.ref T != Value.none)=true by simp)]
 refine Gh gT dT z3 (hQ _ (o.elim .none λf=>rawInt f) ?_ λb o q nf=>⟨o.slots,nT gT dT b o q nf⟩)
 have dm:=Gb dT (·.setIfInBounds 3 (o.elim Value.none λf=>rawInt f))
 refine ⟨λb u q=>?_,hn,hl.of_keeps λb u q nf=>⟨u,nT gT dT b u q nf,rfl⟩,oe,vs,T,_,_,?_,hc,hd,h1,hT,hTe,Heap.get?_update_self _ gT (Obj.isFreed_of_fields dm),dm,by simp [z3],c2⟩
 · rw [Bz _ _ (λz:T=b=>by rw [<-z,hT] at q; cases q)]
   exact hB b u q
 · rw [Bz _ _ hTe]
   exact he
theorem zI {α:Type} {what:String} {cenv:Env} {Q:α->Shared->Prop} (F:Fly B l e cls d fl s.heap) (hE:∀ h' fl',Fly B l e cls d fl' h'->s.heap.UpToSlots h'->E (.ref e) { s with heap:=h' }) :
   wpAny M A (passOn what (.ref e) cenv:Sem α) Q E s:=by
 obtain ⟨oe,vs,T,oT,ts,he,hc,hd,h1,_⟩:=id F.on
 unfold PySem.passOn
 refine Ac (Em he hd h1 ?_)
 rw [if_neg (show ¬ ((Value.ref T == Value.none)=true) by simp)]
 exact Ac (yE F λh' fl' F' up=>wpAny_throw (hE h' fl' F' up))
theorem Fly.hid {h h':Heap} {C:Addr} {oC:Obj} (F:Fly B l e cls d fl h) (hC:B.get? C=some oC) (sb:Heap.SameBut C h h'):Fly (PySem.W.hideAll B [C]) l e cls d fl h':=by
 have nC:∀ b,B.get? b=none->b≠C:=λb hb z=>by rw [z,hC] at hb; cases hb
 have gone:∀ b,B.get? b=none->(PySem.W.hideAll B [C]).get? b=none:=λb hb=>by
   cases q:(PySem.W.hideAll B [C]).get? b with
   | none=>rfl
   | some o=>
     have:=Fz _ q
     rw [hb] at this
     cases this
 obtain ⟨hB,hn,hl,oe,vs,T,oT,ts,he,hc,hd,h1,hT,hTe,gT,r⟩:=F
 refine ⟨λb o q=>?_,gone e hn,?_,oe,vs,T,oT,ts,(sb.2 e (nC e hn)).trans he,hc,hd,h1,gone T hT,hTe,(sb.2 T (nC T hT)).trans gT,r⟩
 · have hb:b≠C:=λz=>by
     rw [z,PySem.W.hideAll_none _ Aq] at q
     cases q
   exact (sb.2 b hb).trans (hB b o (Fz _ q))
 · have all:∀ l:List Env,h.FunFrames B l->h'.FunFrames (PySem.W.hideAll B [C]) l:=λl=>by
     induction l with
     | nil=>exact λ_=>trivial
     | cons env r ih=>exact λ⟨hk,⟨L,o,hf,hn,ho,hd⟩,hr⟩=>⟨hk,⟨L,o,hf,gone L hn,(sb.2 L (nC L hn)).trans ho,hd⟩,ih hr⟩
   exact all l hl
end
def LX (X:Cx) (Ex:XK):Value->Shared->Prop:=λe s'=>∃ ea cls d B H' fl,e=.ref ea/\s'.os=X.s₀.os/\AllBare s'.gens/\Fly B X.stack ea cls d fl s'.heap/\HOk X.prog X.w H' B/\UnB X.fs X.H₀ H' X.s₀.heap B s'.heap/\Ex cls d H'
def eQV (X:Cx) (Ex:XK):Prop:=∀ e s',X.Ok->LX X Ex e s'->X.xe e s'
def CErr (X:Cx) (Ex:XK) (C:Addr) (e:Value) (s':Shared):Prop:=∃ ea cls d B H' fl m,e=.ref ea/\s'.os=X.s₀.os/\AllBare s'.gens/\Fly B X.stack ea cls d fl s'.heap/\B.Ns C m/\HOk X.prog X.w H' B/\H' C=none/\UnB X.fs X.H₀ H' X.s₀.heap B s'.heap/\X.s₀.heap.objs.size<=C/\Ex cls d H'
theorem CErr.post {X:Cx} {Ex:XK} {C:Addr} {e:Value} {s':Shared} (h:CErr X Ex C e s') (ok:X.Ok) (hL:eQV X Ex):∃ m,s'.heap.Ns C m/\∀ h',Heap.SameBut C s'.heap h'->∀ cenv:Env,cenv.locals=C->
   wpAny (model X.prog X.w) X.A (passOn "comprehension.variables-let-go" e cenv:Sem Value) (λ_ _=>False) X.xe { s' with heap:=h' }:=by
 obtain ⟨ea,cls,d,B,H',fl,m,rfl,os,bare,F,nB,hok,hC,un,hz,q⟩:=h
 refine ⟨m,nB.keeps λb o e=>F.stays b o e,λh' sb cenv _=>?_⟩
 obtain ⟨oC,_,_,gC,_⟩:=id nB
 refine zI (s:={ s' with heap:=h' }) (F.hid gC sb) λh2 fl2 F2 up=>hL _ _ ok ?_
 have neC:∀ b o,X.s₀.heap.get? b=some o->b≠C:=λb o e z=>absurd (Ao e) (Nat.not_lt.mpr (by rw [z]; exact hz))
 have hid:∀ b o,B.get? b=some o->b≠C->(PySem.W.hideAll B [C]).get? b=some o:=λb o e n=>PySem.W.hideAll_get _ e λhm=>n (Aw.mp hm)
 refine ⟨ea,cls,d,_,H',fl2,rfl,os,bare,F2,hok.down λb o u e g=>hid b o g λz=>?_,⟨λb o e n hb=>hid b o (un.keep b o e n hb) (neC b o e),λb o e n hb=>?_,un.free,λb o e hb=>?_,un.tups,un.frzs,un.tbls⟩,q⟩
 · rw [z,hC] at e
   cases e
 · obtain ⟨sl,q1⟩:=un.slot b o e n hb
   obtain ⟨_,o2,g2,nf⟩:=ok.funs.mem hb
   rw [e] at g2
   cases g2
   obtain ⟨sl2,q2⟩:=up b _ ((sb.2 b (neC b o e)).trans q1) nf
   exact ⟨sl2,q2⟩
 · obtain ⟨o',q1⟩:=un.there b o e hb
   exact ⟨o',hid b o' q1 (neC b o e)⟩
section
variable {X:Cx} {Ex:XK} {N:List Str} {scope:Scope} {cl:List (Str × Addr)} {vals:St->St} {tg elt iter:Expr} {ifs:List Expr} {pos spos py:Pos} {wi:TI} {g:TG} {tests:TT} {te:TE}
end
end L2
set_option maxHeartbeats 4000000
namespace L2
open PySem PySem.Spec PyProof.Rows
end L2
set_option maxHeartbeats 4000000
namespace L2
open PySem PySem.Spec PyProof.Rows
def bJD (prog:Program) (w:World) (A:Around) (old:Heap) (S:Addr) (vs:List Value) (J:Nat->Obj->Prop):Prop :=
 ∀ (i:Nat) (v:Value) (s:Shared) (o:Obj) (E:Value->Shared->Prop) (Q:Bool->Shared->Prop),vs[i]?=some v->(∀ b u,old.get? b=some u->s.heap.get? b=some u)->s.heap.get? S=some o->J i o->
   (∀ (c:Bool) (h':Heap) (tk:Nat) (o':Obj),Heap.SameBut S s.heap h'->h'.get? S=some o'->J (i + 1) o'->Q c { s with heap:=h',toks:=tk })->wpAny (model prog w) A (setAdd S v) Q E s
section
variable {prog:Program} {w:World} {A:Around} {E:Value->Shared->Prop} {R:Result->Shared->Prop} {old:Heap} {S l it:Addr} {vs:List Value} {J:Nat->Obj->Prop}
theorem rL {s:Shared} (h:wpAny (model prog w) A.in1 (Builtin.«set.update.loop» ⟨[.ref S,.ref it],[]⟩) (λfin s'=>match fin with | .done f=>R (.ok f) s' | .again c=>c.quiet=true/\codeAny (model prog w) A c R s') (λe s'=>R (.error e) s') s) :
   codeAny (model prog w) A (.builtin "set.update.loop" ⟨[.ref S,.ref it],[]⟩) R s:=by
 refine Ei PyProof.Rows.F.entry_set_update_loop (by rw [En PyProof.Rows.F.plain_set_update_loop]; exact h)
theorem rW (F:bJD prog w A.in1 old S vs J) (hh:A.in1.handled=none) (nSl:l≠S) (nSi:it≠S) (nli:l≠it) (oS:old.get? S=none) (oI:old.get? it=none):∀ (k i:Nat) (s:Shared) (o:Obj),k + i=vs.length->s.heap.IsListIter it l i->s.heap.IsList l vs.toArray->(∀ b u,old.get? b=some u->s.heap.get? b=some u)->
   s.heap.get? S=some o->J i o->(∀ (h':Heap) (tk:Nat) (o':Obj),(∀ b u,old.get? b=some u->h'.get? b=some u)->h'.get? S=some o'->J vs.length o'->R (.ok (.ret .none)) { s with heap:=h',toks:=tk })->
   codeAny (model prog w) A (.builtin "set.update.loop" ⟨[.ref S,.ref it],[]⟩) R s
 | 0,i,s,o,hk,hi,hl,ho,hS,hJ,q=>by
   obtain rfl:i=vs.length:=by omega
   refine rL ?_
   unfold Builtin.«set.update.loop»
   dsimp only
   refine wpAny_bind (wpAny_pyNext_list_end hh hi hl (by simp) λh' x=>wpAny_pure ?_)
   exact q h' s.toks o (λb u e=>x b u (λz=>by rw [z,oI] at e; cases e) (ho b u e)) (x S o nSi.symm hS) hJ
 | k + 1,i,s,o,hk,hi,hl,ho,hS,hJ,q=>by
   have hlt:i < vs.length:=by omega
   refine rL ?_
   unfold Builtin.«set.update.loop»
   dsimp only
   refine wpAny_bind (wpAny_pyNext_list_item hi hl (x:=vs[i]) (by simp [hlt]) λh1 i1 x1=>?_)
   dsimp only
   have S1:h1.get? S=some o:=(x1.2 S nSi.symm).trans hS
   have l1:h1.IsList l vs.toArray:=hl.extBut x1.extBut nli
   have o1:∀ b u,old.get? b=some u->h1.get? b=some u:=λb u e=>(x1.2 b λz=>by rw [z,oI] at e; cases e).trans (ho b u e)
   refine Ac (Bs (F i vs[i] { s with heap:=h1 } o _ _ (Aa hlt) o1 S1 hJ λc h2 tk o2 x2 S2 j2=>?_))
   have o2':∀ b u,old.get? b=some u->h2.get? b=some u:=λb u e=>(x2.2 b λz=>by rw [z,oS] at e; cases e).trans (o1 b u e)
   refine Ai ⟨Gu PyProof.Rows.F.plain_set_update_loop _,rW F hh nSl nSi nli oS oI k (i + 1) { s with heap:=h2,toks:=tk } o2 (by omega) ?_ (l1.extBut x2.extBut nSl) o2' S2 j2 q⟩
   obtain ⟨u,hu,r⟩:=i1
   exact ⟨u,(x2.2 it nSi).trans hu,r⟩
end
section
variable {prog:Program} {w:World} {A:Around} {E:Value->Shared->Prop} {s:Shared}
def bare (led:Bool):Obj:={ cls:=.type "set",dict:=none,data:=.set #[] 0 (.fresh 0 0 led) }
theorem bQ1 {x:Value} {Q:Value->Shared->Prop}
   (h:∀ led:Bool,wpAny (model prog w) A.in1.in1 (Builtin.«set.__init__» ⟨[.ref s.heap.objs.size,x],[]⟩)
     (λfin s'=>match fin with | .done f=>wants (λr s₂=>r=.none/\Q (.ref s.heap.objs.size) s₂) E (.ok f) s' | .again c'=>c'.quiet=true/\codeAny (model prog w) A.in1 c' (wants (λr s₂=>r=.none/\Q (.ref s.heap.objs.size) s₂) E) s')
     (λe s'=>wants (λr s₂=>r=.none/\Q (.ref s.heap.objs.size) s₂) E (.error e) s') { s with heap:=s.heap.push (bare led) }) :
   wpAny (model prog w) A (call (.type "set") [x]) Q E s:=by
 have ft:=PySem.F.called_set
 have hct:=PySem.F.typeCall_set_1 x
 obtain ⟨_,_,f1⟩:=ft.mro
 have f2:=ft.made
 have f3:=ft.sub
 have f4:=ft.notType
 have f5:=ft.canCreate
 refine Fc (codeAny_of_tree (show wpAny _ _ (callAny (.type "set") _) _ _ _ from Ai ⟨Ga _ (by decide +kernel),Ei PySem.F.entry_type_call (by
   rw [Around.under_plain (weight_type_call_type "set" [x] []) rfl]
   repeat any_goals first | assumption | wp_step
   refine Ek (code_set_new_1 x (E:=E) (Q₁:=λobj s₁=>∃ led:Bool,obj=.ref s.heap.objs.size/\s₁={ s with heap:=s.heap.push (bare led) }) λled=>⟨led,rfl,rfl⟩) λr s₁ hr=>?_
   rcases r with e | fl
   · exact hr
   · cases fl with
     | ret obj=>
       obtain ⟨led,rfl,rfl⟩:=hr
       have hT:Shared.TypeIs { s with heap:=s.heap.push (bare led) } (.ref s.heap.objs.size) "set" := ⟨_,Av _ rfl,rfl⟩
       have f6:=ft.init.lookup
       have f7:=ft.init.bind (.ref s.heap.objs.size)
       repeat any_goals first | assumption | wp_step
       refine Ek (Dg ft.init.plain PySem.F.entry_set_init (check_set_init_1 hT (h led))) λr₂ s₂ hr₂=>?_
       rcases r₂ with e | fl₂
       · exact hr₂
       · cases fl₂ with
         | ret r=>
           obtain ⟨rfl,hq⟩:=hr₂
           repeat any_goals first | assumption | wp_step
         | _=>exact hr₂.elim
     | _=>exact hr.elim)⟩))
theorem wI {l:Addr} {vs:List Value} {J:Nat->Obj->Prop} {Q:Value->Shared->Prop} (hh:A.handled=none) (hl:s.heap.IsList l vs.toArray) (j0:∀ led:Bool,J 0 (bare led))
   (F:∀ A':Around,A'.units<=A.units + 8->bJD prog w A' s.heap s.heap.objs.size vs J)
   (h:∀ (h':Heap) (tk:Nat) (o:Obj),(∀ b u,s.heap.get? b=some u->h'.get? b=some u)->h'.get? s.heap.objs.size=some o->J vs.length o->Q (.ref s.heap.objs.size) { s with heap:=h',toks:=tk }) :
   wpAny (model prog w) A (call (.type "set") [.ref l]) Q E s:=by
 refine bQ1 λled=>?_
 obtain ⟨⟨ocls,odict,odata,oslots⟩,hol,hcl,nl,hdl⟩:=id hl
 obtain rfl:ocls=.type "list" := hcl
 obtain rfl:odata=.seq vs.toArray nl:=hdl
 have hb:(s.heap.push (bare led)).get? s.heap.objs.size=some (bare led):=Av _ rfl
 have hol':(s.heap.push (bare led)).get? l=some { cls:=.type "list",dict:=odict,data:=.seq vs.toArray nl,slots:=oslots }:=Af _ hol
 have hl1:(s.heap.push (bare led)).IsList l vs.toArray:=⟨_,hol',rfl,nl,rfl⟩
 have g1:=PySem.F.sub_list_set
 have g2:=PySem.F.sub_list_frozenset
 have g3:(Value.type "list" == Value.type "dict")=false:=by decide
 unfold bare at hb hol' hl1
 unfold bare Builtin.«set.__init__» noKeywords Builtin.Frozenset.updateFrom
 generalize hPI:pyIter=PI
 wp_walk
 subst hPI
 refine El hl1 (Ac (wpAny_runValue ?_))
 have hlS:l < s.heap.objs.size:=Ao hol
 have none_at:∀ b,s.heap.objs.size<=b->s.heap.get? b=none:=λb hb'=>by
   cases e:s.heap.get? b with
   | none=>rfl
   | some u=>exact absurd (Ao e) (Nat.not_lt.mpr hb')
 refine rW (A:=A.in1.in1) (old:=s.heap) (l:=l) (vs:=vs) (J:=J) (F _ (by show A.units + 1 + 1 + 1<=A.units + 8; omega)) hh (Be hlS) ?_ ?_ (none_at _ (Ah _)) (none_at _ ?_) vs.length 0 _ (bare led) rfl ⟨_,Av _ rfl,rfl,rfl⟩ (hl1.push _)
   (λb u e=>Af _ (Af _ e)) (Af _ hb) (j0 led) λh' tk o' k1 k2 k3=>?_
 · rw [Ew]; exact Gd (Nat.lt_succ_self _)
 · rw [Ew]; exact Be (Nat.lt_succ_of_lt hlS)
 · rw [Ew]; exact Nat.le_succ _
 · exact Ai (Ai ⟨rfl,h h' tk o' k1 k2 k3⟩)
end
theorem qR {acc:List Str} {z:Str}:(step_dedup acc z).length=if acc.any (· == z) then acc.length else acc.length + 1:=by
 unfold step_dedup
 split <;> simp
theorem aJM (acc:List Str) (z k:Str):(step_dedup acc z).any (· == k)=(acc.any (· == k) || decide (k=z)):=by
 unfold step_dedup
 split
 · rename_i h
   by_cases e:k=z
   · rw [e,h,Ap rfl]; rfl
   · rw [Au e,Bool.or_false]
 · rw [List.any_append]
   by_cases e:k=z
   · rw [e,decide_eq_true rfl]; simp
   · rw [decide_eq_false e,show [z].any (· == k)=false by simp [Ne.symm e]]
theorem bJ2 {vs:List Value} {zs:List Str} (h:StrsAre vs zs):∀ {i:Nat} {v:Value},vs[i]?=some v->∃ z t,zs[i]?=some z/\v=.str z t:=by
 induction h with
 | nil=>intro i v e; cases e
 | cons z t _ ih=>
   intro i v e
   cases i with
   | zero=>cases e; exact ⟨z,t,rfl,rfl⟩
   | succ i=>exact ih e
def yZ (prog:Program) (w:World) (S:Addr) (zs:List Str) (i:Nat) (o:Obj):Prop:=∀ h:Heap,h.get? S=some o->h.SetOf (PySem.strKind prog w) S (λk=>((zs.take i).foldl step_dedup []).any (· == k)) ((zs.take i).foldl step_dedup []).length
theorem bQ0 (zs:List Str):(zs.foldl step_dedup []).length<=zs.length:=by
 have g:∀ (zs acc:List Str),(zs.foldl step_dedup acc).length<=acc.length + zs.length:=λzs=>by
   induction zs with
   | nil=>intro acc; exact Ah _
   | cons z r ih=>
     intro acc
     have h1:=ih (step_dedup acc z)
     have h2:=qR (acc:=acc) (z:=z)
     rw [List.foldl_cons,Ay]
     split at h2 <;> omega
 have:=g zs []
 simpa using this
theorem zN {prog:Program} {w:World} {A:Around} {old:Heap} {S:Addr} {vs:List Value} {zs:List Str} (hz:StrsAre vs zs) (hl:zs.length<=1000):bJD prog w A old S vs (yZ prog w S zs):=by
 intro i v s o E Q hv _ hS hJ q
 obtain ⟨z,t,ez,rfl⟩:=bJ2 hz hv
 have hroom:((zs.take i).foldl step_dedup []).length + 1 < scanBound:=by
   have h1:=bQ0 (zs.take i)
   rw [Bo] at h1
   unfold scanBound
   omega
 unfold setAdd
 refine Bs (Ac ((PySem.strKind prog w).pyHash (k:=z) (strKind_is _ _ _ _) ?_))
 refine wpAny_setAddHashed_of (knd:=PySem.strKind prog w) (s:={ s with toks:=s.toks + 1 }) (strKind_is _ _ _ _) rfl (hJ s.heap hS) hroom λh' sb hS2=>?_
 obtain ⟨o',es,ep,tb,ho',rest⟩:=hS2
 refine q _ h' _ o' sb ho' λh hh=>PyProof.Rows.SetOf_congr ⟨o',es,ep,tb,hh,rest⟩ (λk=>?_) ?_
 · rw [Az,ez,Gj]
   exact (aJM _ z k).symm
 · rw [Az,ez,Gj]
   exact (qR (acc:=(zs.take i).foldl step_dedup []) (z:=z)).symm
theorem aJZ {prog:Program} {w:World} {S:Addr} {zs:List Str} (led:Bool):yZ prog w S zs 0 (bare led):=λh hh=>(setObjOf_fresh (knd:=PySem.strKind prog w) led).setOf hh (by unfold scanBound; omega)
end L2
set_option maxHeartbeats 4000000
namespace L2
open PySem PySem.Spec PyProof.Rows
def pO (a:Addr) (n:Nat):HO:=.ext λh=>∃ o es ep t,h.get? a=some o/\o.ExactSet/\o.data=.set es ep t/\t.fits es.size=true/\es.size=n
def sC (zs:List Str):Nat:=(zs.foldl step_dedup []).length
theorem yG {zs:List Str} (h:zs.Nodup):sC zs=zs.length:=by
 have g:∀ (zs acc:List Str),zs.Nodup->(∀ z ∈ zs,z ∉ acc)->zs.foldl step_dedup acc=acc ++ zs:=by
   intro zs
   induction zs with
   | nil=>intro acc _ _; simp
   | cons z r ih=>
     intro acc nd ha
     have n1:=By.mp nd
     have e:step_dedup acc z=acc ++ [z]:=by
       unfold step_dedup
       rw [if_neg]
       rw [Gk]
       rintro ⟨x,hx,hxz⟩
       exact ha z Aq (by rw [<-eq_of_beq hxz]; exact hx)
     rw [List.foldl_cons,e,ih _ n1.2 λy hy hm=>?_,List.append_assoc]
     · rfl
     · rcases Bi.mp hm with m | m
       · exact ha y (An _ hy) m
       · rw [Aw.mp m] at hy
         exact n1.1 hy
 unfold sC
 rw [g zs [] h λz _=>(λm=>nomatch m)]
 rfl
def cZK:List V->Hp->VK->Prop:=λxs H Q=>∃ (p:Addr) (zs:List Str),xs=[.ref p]/\rdL H p=some (zs.map V.str)/\zs.length<=1000/\∀ r,H r=none->Q (.ref r) (upd H r (pO r (sC zs)))
theorem cJK {X:Cx} (hc:X.calm=true):CallR X (.type "set") cZK:=by
 intro pins s σ H xs us Q I r h
 obtain ⟨p,zs,rfl,hp,hl,q⟩:=h
 obtain ⟨u,rfl,ru⟩:=eX r
 cases ru
 obtain ⟨its,rv,pl,hz⟩:=I.list (aU hp)
 have hlen:=rv.length
 rw [Ab] at hlen
 refine wI (I.ok.hd hc) pl.isList (J:=yZ X.prog X.w s.heap.objs.size zs) aJZ (λA' _=>zN (zB rv) hl) λh' tk o hk ho hJ=>?_
 obtain ⟨o,es,ep,t,ho,hex,hd,_,_,_,hf,hn⟩:=hJ h' ho
 rw [show zs.take its.length=zs by rw [<-hlen]; exact Bp ..] at hn
 have hfresh:H s.heap.objs.size=none:=I.hok.fresh (Ah _)
 have I1:Inv X pins σ H { s with heap:=h',toks:=tk }:=I.kept hk
 refine ⟨.ref s.heap.objs.size,_,I1.adopt (o:=pO s.heap.objs.size (sC zs)) (I.freAt (Ah _)) hfresh ?_,rfl,q _ hfresh⟩
 exact ⟨⟨o,es,ep,t,ho,hex,hd,hf,hn⟩,⟨o,ho⟩,λh1 h2 ⟨o,es,ep,t,g,r⟩ k=>⟨o,es,ep,t,k o g,r⟩⟩
def aXT:List V->Hp->VK->Prop:=λxs H Q=>∃ (p:Addr) (n:Nat),xs=[.ref p]/\H p=some (pO p n)/\n<=1000/\Q (.int (n:Int)) H
theorem bZC {X:Cx}:CallR X (.builtin "len") aXT:=by
 intro pins s σ H xs us Q I r h
 obtain ⟨p,n,rfl,hp,hn,q⟩:=h
 obtain ⟨u,rfl,ru⟩:=eX r
 cases ru
 obtain ⟨o,es,ep,t,ho,hex,hd,hf,he⟩:=(I.hok p _ hp).1
 refine call_len_set ho hex hd hf (by rw [he]; omega) ?_
 rw [he]
 exact ⟨.int (n:Int),H,I.tok _,⟨_,rfl⟩,q⟩
theorem cJL {H:Hp} {Q:VK} {p:Addr} {zs:List Str} (e:rdL H p=some (zs.map V.str)) (hl:zs.length<=1000) (h:∀ r,H r=none->Q (.ref r) (upd H r (pO r (sC zs)))):cZK [.ref p] H Q:=⟨p,zs,rfl,e,hl,h⟩
theorem bQ7 {H:Hp} {Q:VK} {p:Addr} {n:Nat} (e:H p=some (pO p n)) (hn:n<=1000) (h:Q (.int (n:Int)) H):aXT [.ref p] H Q:=⟨p,n,rfl,e,hn,h⟩
def bJH:List V->Hp->VK->Prop:=λxs H Q=>(∃ j:Int,xs=[.int j]/\∀ r,H r=none->Q (.ref r) (upd H r (.rng 0 j)))\/(∃ i j:Int,xs=[.int i,.int j]/\∀ r,H r=none->Q (.ref r) (upd H r (.rng i j)))
theorem Inv.rngNew {X:Cx} {pins:List (Addr × Obj)} {σ:St} {H:Hp} {s:Shared} {lo hi:Int} {t u v:Tok} {tk:Nat} (I:Inv X pins σ H s) :
   Inv X pins σ (upd H s.heap.objs.size (.rng lo hi)) { s with heap:=s.heap.push { cls:=.type "range",data:=.fields #[.int lo t,.int hi u,.int 1 v] },toks:=tk } :=
 (I.kept (t':=tk) λb o e=>Af _ e).adopt (I.freAt (Ah _)) (I.hok.fresh (Ah _)) ⟨t,u,v,Av _ rfl⟩
theorem bJY {X:Cx}:CallR X (.type "range") bJH:=by
 intro pins s σ H xs us Q I r h
 rcases h with ⟨j,rfl,q⟩ | ⟨i,j,rfl,q⟩
 · obtain ⟨u,rfl,⟨t,rfl⟩⟩:=eX r
   exact call_range_1 ⟨.ref _,_,I.rngNew,rfl,q _ (I.hok.fresh (Ah _))⟩
 · obtain ⟨u,w',rfl,⟨t,rfl⟩,⟨t',rfl⟩⟩:=pJ r
   exact call_range_2 ⟨.ref _,_,I.rngNew,rfl,q _ (I.hok.fresh (Ah _))⟩
theorem cXG {H:Hp} {Q:VK} {j:Int} (h:∀ r,H r=none->Q (.ref r) (upd H r (.rng 0 j))):bJH [.int j] H Q:=.inl ⟨j,rfl,h⟩
theorem cXW {H:Hp} {Q:VK} {i j:Int} (h:∀ r,H r=none->Q (.ref r) (upd H r (.rng i j))):bJH [.int i,.int j] H Q:=.inr ⟨i,j,rfl,h⟩
theorem aJ7 (lo hi i:Int):(Builtin.Range.rangePlace? lo hi 1 i).isSome=decide (lo<=i/\i < hi):=by
 unfold Builtin.Range.rangePlace?
 simp only [show (1:Int) > 0 by decide,if_true,Int.emod_one]
 by_cases h:lo<=i/\i < hi
 · rw [Ap h]
   simp [h.1,h.2]
 · rw [Au h]
   have:(decide (lo<=i) && decide (i < hi))=false:=by
     rw [Bool.and_eq_false_iff]
     by_cases h1:lo<=i
     · exact .inr (Au λh2=>h ⟨h1,h2⟩)
     · exact .inl (Au h1)
   simp [this]
def aXY:V->V->Hp->VK->Prop:=λx y H Q=>∃ (i:Int) (p:Addr) (lo hi:Int),x=.int i/\y=.ref p/\H p=some (.rng lo hi)/\Q (.bl (!decide (lo<=i/\i < hi))) H
theorem vF {X:Cx}:OpR X (compareOp .NotIn) aXY:=by
 intro pins s σ H x y v u Q I rx ry h
 obtain ⟨i,p,lo,hi,rfl,rfl,hp,q⟩:=h
 obtain ⟨t,rfl⟩:=rx
 cases ry
 obtain ⟨t0,t1,t2,ho⟩:=I.hok p _ hp
 have hT:s.TypeIs (.ref p) "range" := ⟨_,ho,rfl⟩
 show wpAny _ _ (do return Value.bool (!(<-contains (.ref p) (.int i t)))) _ _ s
 refine Ac ?_
 unfold contains
 try with_reducible refine Bs ?_
 refine Ac (Fx hT F.slot_range_contains.lookup ?_)
 show wpAny _ _ (if (some (Value.builtin "range.__contains__") == some Value.none)=true then _ else _) _ _ s
 rw [if_neg (by rw [beq_builtin_none]; exact Am)]
 refine Ac (wpAny_callSpecialUnlessNone?_slot (name:=Str.ofString "__contains__") hT F.slot_range_contains
   (Ea F.slot_range_contains hT F.entry_range_contains ?_ (F.args_range_contains_2 _ _)))
 unfold Builtin.«range.__contains__»
 show wpAny _ _ (rule _ >>= _) _ _ s
 refine Ac (wpAny_rule (Ac ?_))
 unfold Builtin.Range.rangeFields
 refine Ac (Em (x:=.int lo t0) ho rfl rfl ?_)
 refine Ac (Ai (Ac (Em (x:=.int hi t1) ho rfl rfl ?_)))
 refine Ac (Ai (Ac (Em (x:=.int 1 t2) ho rfl rfl ?_)))
 refine Ac (Ai (Ai ?_))
 show wpAny _ _ (ret (Value.bool (Builtin.Range.rangePlace? lo hi 1 i).isSome)) _ _ s
 rw [aJ7]
 exact Ai ⟨_,rfl,Ej (Ai ⟨.bl _,H,I,rfl,q⟩)⟩
theorem wO {H:Hp} {Q:VK} {i lo hi:Int} {p:Addr} (e:H p=some (.rng lo hi)) (h:Q (.bl (!decide (lo<=i/\i < hi))) H):aXY (.int i) (.ref p) H Q:=⟨i,p,lo,hi,rfl,rfl,e,h⟩
end L2
set_option maxHeartbeats 4000000
namespace L2
open PySem PySem.Spec PyProof.Rows
theorem bQ6 {P:Program} {w:World} {K:PySem.W.Frag} {mg:Str->Option Value} {base:Heap} {f:Addr} {fd:FuncData} {ps:List Str} {x:Str} (sp:Nat->Sp) (h0:∀ vs H Q E,¬ sp 0 vs H Q E) (hm:mg x=some (.ref f)) (hk:PySem.W.keepIn K (.ref f)=true) (hb:Binds K fd ps [])
   (st:∀ d n,Cal P w K mg base (d + 1) x ps (sp n)->FnOk P w K mg base CX0 (d + 2) f fd ps (sp (n + 1))):∀ n,FnOk P w K mg base CX0 (n + 1) f fd ps (sp n)
 | 0=>⟨λvs H Q E h=>(h0 _ _ _ _ h).elim,λA outer s H args us vs Q E _ _ _ _ h=>(h0 _ _ _ _ h).elim⟩
 | n + 1=>st n n ⟨f,fd,bQ6 sp h0 hm hk hb st n,hm,hk,hb⟩
theorem Lsts.app {H1 Hc:Hp} {ps qs:List Addr} {fs gs:List (List V)} (t:Lsts H1 Hc ps fs) (u:Lsts H1 Hc qs gs):Lsts H1 Hc (ps ++ qs) (fs ++ gs):=by
 refine ⟨by rw [Aj,Aj,t.1,u.1],λj p v hp hv=>?_⟩
 by_cases h:j < ps.length
 · rw [As h] at hp
   rw [As (by rw [<-t.1]; exact h)] at hv
   exact t.2 j p v hp hv
 · rw [Ax (by omega)] at hp
   rw [Ax (by rw [<-t.1]; omega),<-t.1] at hv
   exact u.2 _ p v hp hv
section
variable {g:TG} {tests:TT} {te:TE} {σ0:St} {Q:VK} {H1:Hp}
theorem cQJ {K:PySem.W.Frag} {a:Addr} {xs:List V} (f:Nat->List V) (ha:rdL H1 a=some xs) (hl:xs.length < sizeLine)
   (hs:∀ (i:Nat) x Hc (A:VK) (B:Hp->Prop),xs[i]?=some x->Same H1 Hc->(∀ q Hd,Hc q=none->Same Hc Hd->Hd q=some (.lst (f i))->A (.ref q) Hd)->
     g x σ0 Hc λσ2 H2=>Wk σ0 σ2/\tests σ2 H2 λb H3=>if b=true then te σ2 H3 A else B H3)
   (fin:∀ D Hd ps,H1 D=none->Same H1 Hd->Hd D=some (.lst (ps.map V.ref))->ps.length=xs.length->Lsts H1 Hd ps ((List.range xs.length).map f)->(∀ p∈ps,p≠D)->Q (.ref D) Hd):dZ g tests te σ0 Q (Itl K a) H1:=by
 refine gA (n:=xs.length) (λD i ys Hc=>Same H1 Hc/\∃ ps,ys=ps.map V.ref/\ps.length=i/\Lsts H1 Hc ps ((List.range i).map f)/\∀ p∈ps,p≠D) hl (λD hD=>⟨aE hD _,[],rfl,rfl,.nil,λp hp=>nomatch hp⟩)
   (λD i ys Hc _ r h=>⟨xs,xs[i],aU (aH r.1 ha),by simp [h]⟩) (λD ys Hc _ r=>⟨xs,aU (aH r.1 ha),Nat.le_refl _⟩) ?_ ?_
 · rintro D i ys Hc x H' A B hD hi ⟨sm,ps,rfl,hn,ls,nd⟩ hDc ⟨rfl,hz⟩ ha' hb
   refine hs i x H' A B (hz xs (aU (aH sm ha))) sm (λq Hd hq sd hd=>?_)
   have nq:q≠D:=λz=>by rw [z,hDc] at hq; cases hq
   have nd2:∀ p∈ps ++ [q],p≠D:=λp hp=>by
     rcases Bi.mp hp with e | e
     · exact nd p e
     · rw [Aw.mp e]; exact nq
   refine ha' _ _ (sd _ _ hDc) ⟨aW hD (sm.trans sd),ps ++ [q],by rw [Al]; rfl,by rw [Aj,hn]; rfl,?_,nd2⟩
   rw [Cf,Al]
   exact ((ls.keep sd).snoc (none_of sm hq) hd).put nd2
 · rintro D ys Hc hD ⟨sm,ps,rfl,hn,ls,nd⟩ hDc _
   exact fin D Hc ps hD sm hDc hn ls nd
theorem bQF {n:Nat} {lo:Int} (f:Nat->Option V) (hl:n < sizeLine)
   (hs:∀ (i:Nat) Hc (A:VK) (B:Hp->Prop),i < n->Same H1 Hc->(∀ y,f i=some y->∀ Hd,Same Hc Hd->A y Hd)->(f i=none->∀ Hd,Same Hc Hd->B Hd)->
     g (.int (lo + i)) σ0 Hc λσ2 H2=>Wk σ0 σ2/\tests σ2 H2 λb H3=>if b=true then te σ2 H3 A else B H3)
   (fin:∀ D Hd,H1 D=none->Same H1 Hd->Hd D=some (.lst ((List.range n).filterMap f))->Q (.ref D) Hd):dZ g tests te σ0 Q (Itr lo n) H1:=by
 refine gA (n:=n) (λD i ys Hc=>Same H1 Hc/\ys=(List.range i).filterMap f) hl (λD hD=>⟨aE hD _,rfl⟩) (λD i ys Hc _ r h=>h) (λD ys Hc _ r=>Ah n) ?_ ?_
 · rintro D i ys Hc x H' A B hD hi ⟨sm,rfl⟩ hDc ⟨rfl,rfl⟩ ha' hb
   refine hs i H' A B hi sm (λy hy Hd sd=>?_) (λhn Hd sd=>?_)
   · exact ha' _ _ (sd _ _ hDc) ⟨aW hD (sm.trans sd),(dQ hy).symm⟩
   · exact hb _ (sd _ _ hDc) ⟨sm.trans sd,(gR hn).symm⟩
 · rintro D ys Hc hD ⟨sm,rfl⟩ hDc _
   exact fin D Hc hD sm hDc
end
end L2
set_option maxHeartbeats 1000000
namespace L2
open PySem
def gE (mask:Nat) (x:Nat × Nat):Nat->Nat × Nat
 | 0=>x
 | n + 1=>gE mask (SetTable.leap mask x.1 x.2) n
theorem sS (mask m:Nat):∀ (n:Nat) (x:Nat × Nat),gE mask x (n + m)=gE mask (gE mask x n) m
 | 0,x=>by rw [Nat.zero_add]; rfl
 | n + 1,x=>by rw [Nat.succ_add]; exact sS mask m n _
theorem sU (mask:Nat):∀ (n:Nat) (x:Nat × Nat),(gE mask x n).2=x.2 / 32 ^ n
 | 0,x=>by show x.2=x.2 / 1; rw [Nat.div_one]
 | n + 1,x=>by
   show (gE mask (SetTable.leap mask x.1 x.2) n).2=_
   rw [sU mask n]
   show x.2 / 32 / 32 ^ n=_
   rw [Nat.div_div_eq_div_mul,Nat.pow_succ,Nat.mul_comm]
def cyc (M:Nat):Nat->Nat
 | 0=>0
 | n + 1=>(cyc M n * 5 + 1) % M
theorem nE (mask:Nat):∀ (n a:Nat),(gE mask (cyc (mask + 1) a,0) n)=(cyc (mask + 1) (a + n),0)
 | 0,a=>rfl
 | n + 1,a=>by
   show gE mask (SetTable.leap mask (cyc (mask + 1) a) 0) n=_
   have e:SetTable.leap mask (cyc (mask + 1) a) 0=(cyc (mask + 1) (a + 1),0):=by
     show ((cyc (mask + 1) a * 5 + 1 + 0 / 32) % (mask + 1),0 / 32)=_
     rw [Nat.zero_div,Nat.add_zero]
     rfl
   rw [e,nE mask n (a + 1),Nat.add_right_comm,Nat.add_assoc]
def Full (M:Nat):Prop:=cyc M M=0/\∀ e,e < M->∃ n,n < M/\cyc M n=e
theorem aXW (M:Nat) (h:cyc M M=0):∀ n,cyc M (M + n)=cyc M n
 | 0=>h
 | n + 1=>by
   show (cyc M (M + n) * 5 + 1) % M=_
   rw [aXW M h n]
   rfl
theorem Full.reach {mask:Nat} (F:Full (mask + 1)) {x e:Nat} (hx:x < mask + 1) (he:e < mask + 1):∃ m,m<=mask/\(gE mask (x,0) m).1=e:=by
 obtain ⟨a,ha,rfl⟩:=F.2 x hx
 obtain ⟨b,hb,rfl⟩:=F.2 e he
 by_cases h:a<=b
 · exact ⟨b - a,by omega,by rw [nE,Nat.add_sub_cancel' h]⟩
 · exact ⟨mask + 1 + b - a,by omega,by rw [nE,show a + (mask + 1 + b - a)=mask + 1 + b by omega,aXW _ F.1]⟩
theorem aXG {mask:Nat}:∀ (n:Nat) {x:Nat × Nat},x.1 < mask + 1->(gE mask x n).1 < mask + 1
 | 0,x,h=>h
 | n + 1,x,h=>aXG n (x:=SetTable.leap mask x.1 x.2) (Nat.mod_lt _ (Nat.succ_pos _))
theorem eXI {mask:Nat} (F:Full (mask + 1)) {i per e:Nat} (hi:i < mask + 1) (hp:per < 2 ^ 64) (he:e < mask + 1):∃ m,m<=mask + 13/\(gE mask (i,per) m).1=e:=by
 obtain ⟨m,hm,e1⟩:=F.reach (x:=(gE mask (i,per) 13).1) (aXG 13 hi) he
 refine ⟨13 + m,by omega,?_⟩
 rw [sS]
 have hz:(gE mask (i,per) 13).2=0:=by
   rw [sU]
   exact Nat.div_eq_of_lt (Bd hp (by decide))
 rw [show gE mask (i,per) 13=((gE mask (i,per) 13).1,0) from Prod.ext rfl hz]
 exact e1
section
variable {prog:Program} {w:World} {A:Around} {E:Value->Shared->Prop} {s:Shared}
end
end L2
set_option maxHeartbeats 4000000
namespace L2
open PySem PySem.Spec PyProof.Rows
section
variable {X:Cx} {a b:Expr} {rest:List Expr} {pos:Pos} {ta tb:TE}
end
end L2
set_option maxHeartbeats 4000000
namespace L2
open PySem PySem.Spec PyProof.Rows
open PySem.AutoSeq1 (wpAny_loadPart')
open PySem.MeetsSeq PySem.MeetsSeq2 PySem.MeetsSeq3
theorem cJ4 {P:Program} {w:World} {A:Around} {E:Value->Shared->Prop} {s:Shared} {a b:Int} {t u:Tok} {Q:Value->Shared->Prop} (hu:A.units < cLine) (h:Q (.bool (decide (a < b))) s):wpAny (model P w) A (richCompare .Lt (.int a t) (.int b u)) Q E s :=
 Fi (op:=.Lt) (typeIs_int s a t) (typeIs_int s b u) slot_int_lt (call_int_lt ⟨(λx=>nomatch x),h⟩) hu
section
variable {P:Program} {w:World} {A:Around} {E:Value->Shared->Prop} {s:Shared} {l b:Addr} {xs ys:Array Value} {as bs:List Int}
end
open PySem.W (KasT kas_sort kas_cmp kas_item kas_item_eq kas_range kas_runs kas_kind kas_st)
def xI {α:Type} (lt:Nat->Nat->Bool):KasT α->α
 | .ret a=>a
 | .ask i j k=>xI lt (k (lt i j))
def kok {α:Type} (lt:Nat->Nat->Bool) (n:Nat):KasT α->Bool
 | .ret _=>true
 | .ask i j k=>decide (i < n) && decide (j < n) && kok lt n (k (lt i j))
theorem xR {α:Type} {cmp:Nat->Nat->(Bool->Shared->Prop)->Shared->Prop} {lt:Nat->Nat->Bool} {n:Nat} {Q:α->Shared->Prop} {s:Shared} (hc:∀ i j C,i < n->j < n->C (lt i j) s->cmp i j C s):∀ t:KasT α,kok lt n t=true->Q (xI lt t) s->t.kasWp cmp Q s
 | .ret _,_,h=>h
 | .ask i j k,o,h=>by
   simp only [kok,Bool.and_eq_true,decide_eq_true_eq] at o
   exact hc i j _ o.1.1 o.1.2 (xR hc (k (lt i j)) o.2 h)
def jQ (lt:Nat->Nat->Bool) (vs:List Value):List Value:=if vs.length < 2 then vs else (xI lt (kas_sort vs.length)).toList.map λi=>vs.getD i .none
def aZF (h:Heap) (a:Addr) (vs:List Value):Heap:=((h.update a (Obj.mapSeq λ_=>(#[]:Array Value))).push (seqObj "tuple" vs.toArray 0)).push (seqObj "list" #[] 0)
theorem bXN {h:Heap} {a b:Addr} {vs:List Value} {o:Obj} (ne:b≠a) (e:h.get? b=some o):(aZF h a vs).get? b=some o :=
 Af _ (Af _ (((Fu h a _).2 b ne).trans e))
theorem cXZ {h:Heap} {a:Addr} {vs:List Value} {n:Nat} (e:h.get? a=some (seqObj "list" vs.toArray n)):∃ c,(h.update a (Obj.mapSeq λ_=>(#[]:Array Value))).get? a=some (seqObj "list" #[] c)/\(aZF h a vs).get? a=some (seqObj "list" #[] c) :=
 ⟨_,get?_update_seq e λ_=>#[],Af _ (Af _ (get?_update_seq e λ_=>#[]))⟩
def cQU (h:Heap) (vs:List Value):Heap:=((h.push (seqObj "list" #[] 0)).update h.objs.size (Obj.mapSeq (· ++ vs.toArray))).push (seqObj "list" vs.toArray 0)
theorem sI (h:Heap) (vs:List Value):((h.push (seqObj "list" #[] 0)).update h.objs.size (Obj.mapSeq (· ++ vs.toArray))).objs.size=h.objs.size + 1:=(Heap.size_update ..).trans (size_push' ..)
theorem lU {h:Heap} {vs:List Value} {b:Addr} {o:Obj} (e:h.get? b=some o):(cQU h vs).get? b=some o/\b≠h.objs.size + 1 :=
 have l:b < h.objs.size:=Ao e
 ⟨Af _ (((Fu _ _ _).2 b (Be l)).trans (Af _ e)),Be (Nat.lt_succ_of_lt l)⟩
theorem wL (h:Heap) (vs:List Value):(cQU h vs).get? (h.objs.size + 1)=some (seqObj "list" vs.toArray 0):=by
 have e:(cQU h vs).get? ((h.push (seqObj "list" #[] 0)).update h.objs.size (Obj.mapSeq (· ++ vs.toArray))).objs.size=some (seqObj "list" vs.toArray 0):=Av _ rfl
 rwa [sI] at e
theorem aZT {lt:Nat->Nat->Bool} {vs:List Value} {p:Array Nat} (h2:¬ vs.length < 2) (e:p=xI lt (kas_sort vs.length)) (z:p.size=vs.length):(jQ lt vs).length=vs.length/\jQ lt vs=p.toList.map λi=>vs.getD i .none:=by
 unfold jQ
 rw [if_neg h2,<-e]
 exact ⟨by rw [Ab,Dx,z],rfl⟩
theorem uD (vs:List Value):(vs.toArray.zip vs.toArray).map (·.2)=vs.toArray:=Array.toList_inj.mp (by simp [List.map_snd_zip])
theorem aJR (vs:List Value) (p:Array Nat):(p.map (kas_item (pairsOf vs))).map (·.2)=(p.toList.map λi=>vs.getD i .none).toArray:=by
 cases p with
 | mk l=>simp only [List.map_toArray,List.map_map]; congr 1; exact List.map_congr_left λi _=>congrArg Prod.snd (kas_item_eq vs i)
section
variable {prog:Program} {w:World} {A:Around} {E:Value->Shared->Prop} {s:Shared}
end
theorem sP:∀ {ps:List Addr} {us:List Value},Vals (ps.map V.ref) us->us=ps.map Value.ref
 | [],_,.nil=>rfl
 | p :: ps,_,.cons r t=>by cases r; rw [sP t]; rfl
end L2
set_option maxHeartbeats 4000000
namespace L2
open PySem PySem.Spec PyProof.Rows
end L2
set_option maxHeartbeats 1000000
namespace L2
open PySem
theorem getD_none {owner:Array (Option Nat)} {j:Nat} (h:owner.getD j (some 0)=none):j < owner.size/\owner.getD j none=none:=by
 have hj:j < owner.size:=by
   refine Nat.lt_of_not_le λz=>?_
   rw [Fk,Array.getElem?_eq_none z] at h
   cases h
 rw [Fk,Fs hj] at h ⊢
 exact ⟨hj,h⟩
theorem getD_some {owner:Array (Option Nat)} {j:Nat} (hj:j < owner.size) (h:owner.getD j (some 0)≠none):∃ k,owner.getD j none=some k:=by
 rw [Fk,Fs hj] at h ⊢
 cases e:owner[j] with
 | none=>rw [e] at h; exact absurd rfl h
 | some k=>exact ⟨k,rfl⟩
section
variable {prog:Program} {w:World} {A:Around} {E:Value->Shared->Prop} {s:Shared}
end
open PySem.Spec PyProof.Rows
def Alx (H:Hp):Nat->V->V->Prop
 | 0,x,y=>x=y/\(bX x=true\/∃ p,x=.ref p)
 | n + 1,x,y=>(x=y/\(bX x=true\/∃ p,x=.ref p))\/∃ p q,x=.ref p/\y=.ref q/\((∃ xs ys,rdL H p=some xs/\rdL H q=some ys/\xs.length=ys.length/\∀ (j:Nat) x' y',xs[j]?=some x'->ys[j]?=some y'->Alx H n x' y')\/∃ kvs kws,Rd H p (.dK kvs)/\Rd H q (.dK kws)/\DEq kvs kws)
theorem Alx.same {H:Hp} {n:Nat} {x:V} (h:bX x=true\/∃ p,x=.ref p):Alx H n x x:=by
 cases n with
 | zero=>exact ⟨rfl,h⟩
 | succ n=>exact .inl ⟨rfl,h⟩
theorem vZ {X:Cx} {s:Shared} {A:Around} {x:V} {u v:Value} (h:bX x=true\/∃ p,x=.ref p) (ru:RelV x u) (rv:RelV x v):EqW X.prog X.w A s u v:=by
 rcases h with hf | ⟨p,rfl⟩
 · have:=lN (A:=A) (s:=s) ru rv hf hf
   rw [jM hf] at this
   exact λE Q hq=>this X.prog X.w E Q hq
 · cases ru
   cases rv
   exact .same _
theorem bZ4 {X:Cx} {pins:List (Addr × Obj)} {σ:St} {H:Hp} {s:Shared} (I:Inv X pins σ H s) {A:Around} {p q:Addr} {xs ys:List V} (hp:rdL H p=some xs) (hq:rdL H q=some ys) (hl:xs.length=ys.length) (h:∀ (j:Nat) x' y' u v,xs[j]?=some x'->ys[j]?=some y'->RelV x' u->RelV y' v->EqW X.prog X.w A.in1 s u v) (hu:A.units < cLine) (E:Value->Shared->Prop) (Q:Value->Shared->Prop) :
   (Q (.bool true) s->wpAny (model X.prog X.w) A (richCompare .Eq (.ref p) (.ref q)) Q E s)/\(Q (.bool false) s->wpAny (model X.prog X.w) A (richCompare .NotEq (.ref p) (.ref q)) Q E s):=by
 obtain ⟨its,r1,l1,_⟩:=I.list (aU hp)
 obtain ⟨its2,r2,l2,_⟩:=I.list (aU hq)
 have e1:=r1.length
 have e2:=r2.length
 have he:∀ j (h1:j < its.toArray.size) (h2:j < its2.toArray.size),EqW X.prog X.w A.in1 s its.toArray[j] its2.toArray[j]:=λj h1 h2=>by
   have h1':j < its.length:=by simpa using h1
   have h2':j < its2.length:=by simpa using h2
   obtain ⟨u',hu',ru'⟩:=r1.get (Aa (show j < xs.length by omega))
   obtain ⟨v',hv',rv'⟩:=r2.get (Aa (show j < ys.length by omega))
   rw [Aa h1'] at hu'
   rw [Aa h2'] at hv'
   cases hu'
   cases hv'
   simpa using h j _ _ _ _ (List.getElem?_eq_getElem _) (List.getElem?_eq_getElem _) ru' rv'
 have hs:its.toArray.size=its2.toArray.size:=by simp only [List.size_toArray]; omega
 exact ⟨λq=>bJO l1.isList l2.isList hs hu he q,λq=>bXD l1.isList l2.isList hs hu he q⟩
theorem dQC {X:Cx} {pins:List (Addr × Obj)} {σ:St} {H:Hp} {s:Shared} (I:Inv X pins σ H s):∀ (n:Nat) (A:Around) (x y:V) (u v:Value),Alx H n x y->RelV x u->RelV y v->A.units + n < cLine->EqW X.prog X.w A s u v:=by
 intro n
 induction n with
 | zero=>
   intro A x y u v h ru rv hu
   obtain ⟨rfl,hx⟩:=h
   exact vZ hx ru rv
 | succ n ih=>
   intro A x y u v h ru rv hu
   rcases h with ⟨rfl,hx⟩ | ⟨p,q,rfl,rfl,hpq⟩
   · exact vZ hx ru rv
   · cases ru
     cases rv
     by_cases e:p=q
     · subst e
       exact .same _
     rcases hpq with ⟨xs,ys,hp,hq,hl,h⟩ | ⟨kvs,kws,hp,hq,d⟩
     · exact .refs e λE Q hq'=>(bZ4 I hp hq hl (λj x' y' u v hx hy hu' hv'=>ih A.in1 x' y' u v (h j x' y' hx hy) hu' hv' (by show A.units + 1 + n < cLine; omega)) (by omega) E Q).1 hq'
     · exact .refs e λE Q hq'=>(aXM I hp hq d (by omega) E Q).1 hq'
def dZD (neg:Bool):R2:=λx y H Q=>∃ n p q xs ys,n<=50/\x=.ref p/\y=.ref q/\rdL H p=some xs/\rdL H q=some ys/\xs.length=ys.length/\(∀ (j:Nat) x' y',xs[j]?=some x'->ys[j]?=some y'->Alx H n x' y')/\Q (.bl (!neg)) H
theorem dJI {X:Cx} (hu:X.A.units + 64 < cLine):OpR X (compareOp .NotEq) (dZD true):=by
 intro pins s σ H x y v u Q I rx ry h
 obtain ⟨n,p,q,xs,ys,hn,rfl,rfl,hp,hq,hl,al,k⟩:=h
 cases rx
 cases ry
 exact (bZ4 I hp hq hl (λj x' y' u v hx hy hu' hv'=>dQC I n X.A.in1 x' y' u v (al j x' y' hx hy) hu' hv' (by show X.A.units + 1 + n < cLine; omega)) (by omega) _ _).2 ⟨.bl false,H,I,rfl,k⟩
theorem eQP {neg:Bool} {p q:Addr} {H:Hp} {Q:VK} {xs ys:List V} (n:Nat) (hp:rdL H p=some xs) (hq:rdL H q=some ys) (hl:xs.length=ys.length) (al:∀ (j:Nat) x' y',xs[j]?=some x'->ys[j]?=some y'->Alx H n x' y') (h:Q (.bl (!neg)) H) (hn:n<=50:=by omega):dZD neg (.ref p) (.ref q) H Q:=⟨n,p,q,xs,ys,hn,rfl,rfl,hp,hq,hl,al,h⟩
end L2
set_option maxHeartbeats 1000000
namespace L2
open PySem PySem.Spec PyProof.Rows
def hdl (i:Nat) (ts:TS) (D:Ends) (cls:Value) (d:Option Addr) (σ1:St) (H1:Hp):Prop:=∀ ea,H1 ea=none->
 ts { nx:=λσ2 H2=>D.nx (σ2.set i none) H2,rt:=D.rt,bk:=λσ2 H2=>D.bk (σ2.set i none) H2,ct:=λσ2 H2=>D.ct (σ2.set i none) H2 } (σ1.set i (some (.ref ea))) (upd H1 ea (jS ea cls d))
section
variable {X:Cx} {pins:List (Addr × Obj)}
end
end L2
set_option maxHeartbeats 1000000
namespace L2
open PySem PySem.Spec PyProof.Rows
section
variable {X:Cx}
end
end L2
set_option maxHeartbeats 1000000
namespace L2
open PySem PySem.Spec PyProof.Rows
open PySem.AutoSeq1 (wpAny_loadPart')
section
variable {X:Cx}
end
section
variable {X:Cx} {a b:Expr} {rest:List Expr} {pos:Pos} {ta tb:TE}
def dZT (ta tb:TE):TE:=λσ H Q=>ta σ H λx H1=>(x=.non/\tb σ H1 Q)\/∃ (p:Addr) (xs:List V),x=.ref p/\rdL H1 p=some xs/\(xs≠[]->Q (.ref p) H1)/\(xs=[]->tb σ H1 Q)
theorem cJ0 (ha:PE X a ta) (hb:PE X (.BoolOp .Or (b :: rest) pos) tb):PE X (.BoolOp .Or (a :: b :: rest) pos) (dZT ta tb):=by
 intro pins s σ H Q I h
 refine BoolOp_or (thn (ha pins s σ H _ I h) λv s1 ⟨x,H1,I1,r1,q1⟩=>?_)
 rcases q1 with ⟨rfl,q1⟩ | ⟨p,xs,rfl,hp,q2,q3⟩
 · refine thn (tH pins s1 σ H1 .non v (λk H'=>k=false/\tb σ H' Q) I1 r1 ⟨false,rfl,rfl,q1⟩) λk s2 ⟨H2,I2,e,q⟩=>?_
   subst e
   exact hb pins s2 σ H2 Q I2 q
 · cases xs with
   | nil=>
     refine thn (tH pins s1 σ H1 (.ref p) v (λk H'=>k=false/\tb σ H' Q) I1 r1 ⟨false,.inl ⟨[],aU hp,rfl⟩,rfl,q3 rfl⟩) λk s2 ⟨H2,I2,e,q⟩=>?_
     subst e
     exact hb pins s2 σ H2 Q I2 q
   | cons y r=>
     refine thn (tH pins s1 σ H1 (.ref p) v (λk H'=>k=true/\Q (.ref p) H') I1 r1 ⟨true,.inl ⟨y :: r,aU hp,rfl⟩,rfl,q2 (λz=>nomatch z)⟩) λk s2 ⟨H2,I2,e,q⟩=>?_
     subst e
     exact ⟨.ref p,H2,I2,r1,q⟩
end
section
variable {X:Cx}
theorem KV.at {kvs:List (Key × V)} {vs:List (Key × Value)} (r:KV kvs vs):∀ {i:Nat} {k:Key} {u:Value},vs[i]?=some (k,u)->∃ v,kvs[i]?=some (k,v)/\RelV v u:=by
 unfold KV at r
 induction r with
 | nil=>intro i k u h; cases h
 | @cons kv vv _ _ hk t ih=>
   intro i k u h
   obtain ⟨e,ru⟩:=hk
   cases i with
   | zero=>cases h; exact ⟨kv.2,by rw [List.getElem?_cons_zero]; exact Df some (Prod.ext e rfl),ru⟩
   | succ i=>exact ih h
end
end L2
set_option maxHeartbeats 1000000
namespace L2
open PySem PySem.Spec PyProof.Rows
section
variable {X:Cx}
end
section
variable {X:Cx} {a b:Expr} {rest:List Expr} {pos:Pos} {ta tb:TE}
end
end L2
set_option maxHeartbeats 4000000
namespace L2
open PySem PySem.Spec PyProof.Rows
open PySem.AutoSeq1 (wpAny_loadPart')
open PySem.MeetsSeq PySem.MeetsSeq2 PySem.MeetsSeq3
open PySem.W (KasT kas_sort kas_cmp kas_item kas_item_eq kas_range kas_runs kas_kind kas_st kat_kind kat_lt kat_cons kat_nil kat_yes kat_no kat_go kat_one KatTups KatLex)
section
variable {prog:Program} {w:World} {A:Around} {E:Value->Shared->Prop} {s:Shared}
theorem xL {κ:SortKind} {lt:Nat->Nat->Bool} {a:Addr} {vs:List Value} {n:Nat} {P:PySem.Fin->Shared->Prop} (ho:s.heap.get? a=some (seqObj "list" vs.toArray n))
   (hk:∀ h':Heap,(∀ b o,b≠a->s.heap.get? b=some o->h'.get? b=some o)->2<=vs.length->∀ (Q:SortKind->Shared->Prop) (E':Value->Shared->Prop),Q κ { s with heap:=h' }->wpAny (model prog w) A (keyKind' vs.toArray) Q E' { s with heap:=h' })
   (hlt:∀ h':Heap,(∀ b o,b≠a->s.heap.get? b=some o->h'.get? b=some o)->∀ i j (C:Bool->Shared->Prop),i < vs.length->j < vs.length->C (lt i j) { s with heap:=h' }->
     wpAny (model prog w) A (keyLt' κ (vs.getD i .none) (vs.getD j .none)) C (λ_ _=>False) { s with heap:=h' })
   (h64:vs.length < 64) (hok:2<=vs.length->kok lt vs.length (kas_sort vs.length)=true)
   (h:P (.done (.ret .none)) { s with heap:=sortedHeap s.heap a vs (jQ lt vs).toArray }):wpAny (model prog w) A (Builtin.«list.sort» ⟨[.ref a],[]⟩) P E s:=by
 obtain ⟨c,e1,e6⟩:=cXZ ho
 have z:vs.length<=sizeLine:=Fb (aY (by omega))
 have zz:∀ out:Array Value,out.size<=64->out.size<=sizeLine + 1:=λout q=>Nat.le_succ_of_le (Fb (aY (by omega)))
 rw [list_sort_plain]
 refine Ac (listItems_at ho rfl (Ac (listUpdate_at ho rfl (Ac (seqEpoch_at e1 rfl (Ac (wpAny_newTuple (Ac (wpAny_newList (Bs ?_) (Ci _))) z)))) z (Ci _))))
 change wpAny (model prog w) A _ P E { s with heap:=aZF s.heap a vs }
 dsimp only
 replace h:P (.done (.ret .none)) { s with heap:=(aZF s.heap a vs).update a (Obj.mapSeq λ_=>(jQ lt vs).toArray) }:=h
 have old:∀ b o,b≠a->s.heap.get? b=some o->(aZF s.heap a vs).get? b=some o:=λ_ _=>bXN
 generalize aZF s.heap a vs=hm at *
 by_cases h2:vs.length < 2
 · simp only [List.size_toArray,if_pos h2]
   refine Ac (Ai (Ac (wpAny_of_eq (StateT.run_pure ..) (Ac (seqEpoch_at e6 rfl (Ac (listUpdate_at e6 rfl ?_ (Ci _) ?_)))))))
   all_goals rw [show (arrOf (SortSt.mk' general' (vs.toArray.zip vs.toArray) #[] 7 none)).map (·.2)=(jQ lt vs).toArray from (uD vs).trans (Df List.toArray (if_pos h2).symm)]
   · simp only [bne_self_eq_false,Bool.false_eq_true,if_false]
     exact Ai h
   · exact zz _ (by rw [Bm,show jQ lt vs=vs from if_pos h2]; omega)
 · have h2':2<=vs.length:=Nat.le_of_not_lt h2
   simp only [List.size_toArray,if_neg h2]
   refine Ac (hk hm old h2' _ _ ?_)
   have jL:SortSt.mk' κ (vs.toArray.zip vs.toArray) #[] 7 none=kas_st κ (pairsOf vs) (List.toArray (List.range vs.length)):=by
     have e:=kas_range (pairsOf vs)
     rw [pairsOf_size] at e
     exact Df (λx=>SortSt.mk' κ x #[] 7 none) e.symm
   rw [jL]
   refine Ac (Cb (kas_runs (Q:=λ_ st s'=>∃ p:Array Nat,p.size=vs.length/\p=xI lt (kas_sort vs.length)/\arrOf st=p.map (kas_item (pairsOf vs))/\failedOf st=none/\s'={ s with heap:=hm }) (G:=λp s'=>s'={ s with heap:=hm }/\p=xI lt (kas_sort vs.length))
     h2' h64 (λp st s' x1 x2 x3 x4=>⟨p,x1,x4.2,x2,x3,x4.1⟩) (xR (lt:=lt) (n:=vs.length) (λi j C hi hj hC=>?_) _ (hok h2') ⟨rfl,rfl⟩)) ?_ λ_ _ e=>e)
   · unfold kas_cmp
     rw [kas_item_eq,kas_item_eq]
     exact hlt hm old i j C hi hj hC
   rintro ⟨_,st⟩ _ ⟨p,x1,x2,x3,x4,rfl⟩
   obtain ⟨y1,y2⟩:=aZT h2 x2 x1
   have out:(arrOf st).map (·.2)=(jQ lt vs).toArray:=by rw [x3,aJR,y2]
   dsimp only
   rw [out]
   refine Ac (seqEpoch_at e6 rfl (Ac (listUpdate_at e6 rfl ?_ (Ci _) (zz _ (by rw [Bm,y1]; omega)))))
   rw [x4]
   simp only [bne_self_eq_false,Bool.false_eq_true,if_false]
   exact Ai h
theorem bJP {κ:SortKind} {lt:Nat->Nat->Bool} {l:Addr} {vs:List Value} {Q:Value->Shared->Prop} (hl:s.heap.IsList l vs.toArray)
   (hk:∀ h':Heap,(∀ b o,s.heap.get? b=some o->h'.get? b=some o)->2<=vs.length->∀ (Q:SortKind->Shared->Prop) (E':Value->Shared->Prop),Q κ { s with heap:=h' }->wpAny (model prog w) A.in1.in1 (keyKind' vs.toArray) Q E' { s with heap:=h' })
   (hlt:∀ h':Heap,(∀ b o,s.heap.get? b=some o->h'.get? b=some o)->∀ i j (C:Bool->Shared->Prop),i < vs.length->j < vs.length->C (lt i j) { s with heap:=h' }->
     wpAny (model prog w) A.in1.in1 (keyLt' κ (vs.getD i .none) (vs.getD j .none)) C (λ_ _=>False) { s with heap:=h' })
   (h64:vs.length < 64) (hok:2<=vs.length->kok lt vs.length (kas_sort vs.length)=true)
   (h:Q (.ref (s.heap.objs.size + 1)) { s with heap:=sortedAll s.heap vs (jQ lt vs).toArray }):wpAny (model prog w) A (call (.builtin "sorted") [.ref l]) Q E s:=by
 have z:vs.length<=sizeLine:=Fb (aY (by omega))
 refine Calls.call_function_entry kind_sorted plain_sorted entry_sorted (args_sorted1 _) ?_
 unfold Builtin.«sorted»
 refine Ac (m:=checkCount "sorted" 1 1 _) (Ai (Ac (collect_list hl (Ac (wpAny_newList ?_ z)) z)))
 rw [sI]
 change wpAny _ _ _ _ _ { s with heap:=cQU s.heap vs }
 refine Ac (Bs (Ea slot_list_sort ⟨_,wL _ _,rfl⟩ entry_list_sort (xL (κ:=κ) (lt:=lt) (wL _ _) (λh' k=>hk h' λb o q=>k b o (lU (vs:=vs) q).2 (lU q).1) (λh' k=>hlt h' λb o q=>k b o (lU (vs:=vs) q).2 (lU q).1) h64 hok ⟨_,rfl,Ai ⟨_,rfl,h⟩⟩) (args_list_sort _)))
end
def eQ5:Bool:=(List.range 64).all λn=>decide (n < 2) || (kok (λi j=>decide (i < j)) n (kas_sort n) && (xI (λi j=>decide (i < j)) (kas_sort n)).toList == List.range n)
theorem dQW:eQ5=true:=by decide +kernel
theorem bQU {n:Nat} (h:n < 64) (h2:2<=n):kok (λi j=>decide (i < j)) n (kas_sort n)=true/\(xI (λi j=>decide (i < j)) (kas_sort n)).toList=List.range n:=by
 have a:=Dn.mp dQW n (Cc.mpr h)
 rw [Au (show ¬ n < 2 by omega),Fw,Dz,beq_iff_eq] at a
 exact a
theorem cQF {vs:List Value} (h:vs.length < 64):jQ (λi j=>decide (i < j)) vs=vs:=by
 unfold jQ
 by_cases h2:vs.length < 2
 · rw [if_pos h2]
 · rw [if_neg h2,(bQU h (by omega)).2]
   refine List.ext_getElem (by rw [Ab,Cg]) λi h1 h3=>?_
   rw [List.getElem_map,List.getElem_range,Ad,Aa h3]
   rfl
def cQV (a b:Int × Int):Prop:=a.1 < b.1\/(a.1=b.1/\a.2 < b.2)
def pI (h:Heap) (b:Addr) (k:Int × Int):Prop:=∃ o n t u,h.get? b=some o/\o.cls=.type "tuple"/\o.data=.seq #[.int k.1 t,.int k.2 u] n
theorem aXI {h:Heap}:∀ {ps:List Addr} {ks:List (Int × Int)},ps.length=ks.length->(∀ (i:Nat) p k,ps[i]?=some p->ks[i]?=some k->pI h p k)->∃ fs:List Value,PySem.W.KatTups h (ps.map Value.ref) fs/\fs.length=ps.length/\∀ v∈fs,∃ n t,v=Value.int n t
 | [],[],_,_=>⟨[],trivial,rfl,λv hv=>nomatch hv⟩
 | p :: ps,k :: ks,hl,h=>by
   obtain ⟨fs,h1,h2,h3⟩:=aXI (ps:=ps) (ks:=ks) (by simpa using hl) λi p' k' hp hk=>h (i + 1) p' k' hp hk
   obtain ⟨o,n,t,u,g1,g2,g3⟩:=h 0 p k rfl rfl
   refine ⟨.int k.1 t :: fs,PySem.W.KatTups.cons g1 g2 g3 rfl h1,by rw [Ay,Ay,h2],λv hv=>?_⟩
   rcases Bc.mp hv with e | e
   · exact ⟨_,_,e⟩
   · exact h3 v e
 | [],_ :: _,hl,_=>absurd hl (by simp)
 | _ :: _,[],hl,_=>absurd hl (by simp)
theorem cQO {P:Program} {w:World} {A:Around} {E:Value->Shared->Prop} {s:Shared} {x y:Addr} {a b:Int × Int} {c:Bool} {Q:Bool->Shared->Prop} (hx:pI s.heap x a) (hy:pI s.heap y b) (hu:A.units < cLine) (hc:c=true ↔ cQV a b) (h:Q c s):wpAny (model P w) A (keyLt' (tuples' true) (.ref x) (.ref y)) Q E s:=by
 obtain ⟨o,n,t,u,g1,g2,g3⟩:=hx
 obtain ⟨o',n',t',u',g1',g2',g3'⟩:=hy
 refine kat_lt g1 g3 g1' g3' ?_
 refine kat_cons (PySem.SeqAt.EqAt.int_int _ _ _ _ _ _ _ _ (kat_go (λe1=>kat_yes (kat_cons (PySem.SeqAt.EqAt.int_int _ _ _ _ _ _ _ _ (kat_go (λe2=>kat_yes (kat_nil ?_)) (λe2=>kat_no (kat_one _ _ ?_)))))) (λe1=>kat_no (oneLt_int ?_))))
 · have q1:=eq_of_beq e1
   have q2:=eq_of_beq e2
   have:c=false:=by
     cases c with
     | false=>rfl
     | true=>rcases hc.mp rfl with z | ⟨_,z⟩ <;> omega
   rw [this] at h
   exact h
 · have q1:=eq_of_beq e1
   refine cJ4 hu ?_
   have:c=decide (a.2 < b.2):=by
     by_cases z:a.2 < b.2
     · rw [Ap z]; exact hc.mpr (.inr ⟨q1,z⟩)
     · rw [Au z]
       cases c with
       | false=>rfl
       | true=>rcases hc.mp rfl with z' | ⟨_,z'⟩ <;> omega
   rw [this] at h
   exact h
 · have q1:a.1≠b.1:=λz=>by rw [z] at e1; simp at e1
   have:c=decide (a.1 < b.1):=by
     by_cases z:a.1 < b.1
     · rw [Ap z]; exact hc.mpr (.inl z)
     · rw [Au z]
       cases c with
       | false=>rfl
       | true=>rcases hc.mp rfl with z' | ⟨z',_⟩ <;> omega
   rw [this] at h
   exact h
section
variable {X:Cx}
def xH:List V->Hp->VK->Prop:=λxs H Q=>∃ (a:Addr) (ps:List Addr) (ks:List (Int × Int)),xs=[.ref a]/\rdL H a=some (ps.map V.ref)/\ps.length=ks.length/\(∀ (i:Nat) p k,ps[i]?=some p->ks[i]?=some k->H p=some (.tup [.int k.1,.int k.2]))/\ps.length < 64/\ks.Pairwise cQV/\∀ r,H r=none->Q (.ref r) (upd H r (.lst (ps.map V.ref)))
theorem aJD (hu:X.A.units + 8 < cLine):CallR X (.builtin "sorted") xH:=by
 intro pins s σ H xs us Q I r h
 obtain ⟨a,ps,ks,rfl,ha,hl,hk,h64,pw,q⟩:=h
 obtain ⟨u,rfl,ru⟩:=eX r
 cases ru
 obtain ⟨its,rv,pl,hz⟩:=I.list (aU ha)
 obtain rfl:=sP rv
 have key:∀ (i:Nat) p k,ps[i]?=some p->ks[i]?=some k->pI s.heap p k:=λi p k hp hk'=>by
   obtain ⟨its,r1,l1,_⟩:=I.tuple (SqT.of (hk i p k hp hk'))
   obtain ⟨⟨cls,dd,data,sl⟩,ho,hc,m,hd⟩:=id l1
   cases r1 with
   | cons e1 r1=>cases r1 with
     | cons e2 r1=>
       cases r1
       obtain ⟨t,rfl⟩:=e1
       obtain ⟨u,rfl⟩:=e2
       exact ⟨_,m,t,u,ho,hc,hd⟩
 have kk:∀ {h':Heap},(∀ b o,s.heap.get? b=some o->h'.get? b=some o)->∀ (i:Nat) p k,ps[i]?=some p->ks[i]?=some k->pI h' p k:=λk' i p k hp hk'=>by
   obtain ⟨o,n,t,u,g1,g2,g3⟩:=key i p k hp hk'
   exact ⟨o,n,t,u,k' _ _ g1,g2,g3⟩
 refine bJP (κ:=tuples' true) (lt:=λi j=>decide (i < j)) pl.isList (λh' k' h2 Q' E' hQ=>?_) (λh' k' i j C hi hj hC=>?_) (by rw [Ab]; exact h64) (λh2=>(bQU (by rw [Ab]; exact h64) h2).1) ?_
 · obtain ⟨fs,f1,f2,f3⟩:=aXI hl (kk k')
   rw [Ab] at h2
   refine kat_kind (T:=.type "int") f1 (by omega) (λv hv=>?_) (by decide) hQ
   obtain ⟨n,t,rfl⟩:=f3 v hv
   exact PySem.W.Looks.of_pure rfl
 · rw [Ab] at hi hj
   have e1:=Aa hi
   have e2:=Aa hj
   have e3:=Aa (show i < ks.length by omega)
   have e4:=Aa (show j < ks.length by omega)
   rw [show (ps.map Value.ref).getD i .none=.ref ps[i] by simp [List.getD_eq_getElem?_getD,hi],show (ps.map Value.ref).getD j .none=.ref ps[j] by simp [List.getD_eq_getElem?_getD,hj]]
   refine cQO (kk k' i _ _ e1 e3) (kk k' j _ _ e2 e4) (show X.A.units + 1 + 1 < cLine by omega) ?_ hC
   rw [Bj]
   constructor
   · intro hij
     exact List.pairwise_iff_getElem.mp pw i j _ _ hij
   · intro hlt
     refine Nat.lt_of_not_le λz=>?_
     by_cases e:i=j
     · subst e
       rcases hlt with z | ⟨_,z⟩ <;> omega
     · have:=List.pairwise_iff_getElem.mp pw j i (by omega) (by omega) (by omega)
       rcases this with z1 | ⟨z1,z2⟩ <;> rcases hlt with z3 | ⟨z3,z4⟩ <;> omega
 rw [cQF (by rw [Ab]; exact h64)]
 have hfr:H (s.heap.objs.size + 1)=none:=I.hok.fresh (Nat.le_succ _)
 refine ⟨.ref (s.heap.objs.size + 1),upd H (s.heap.objs.size + 1) (.lst (ps.map V.ref)),I.laid (a:=s.heap.objs.size + 1) (o:=.lst (ps.map V.ref)) (t':=s.toks) (λb o e=>sortedAll_old e) (Nat.le_succ _) ?_,rfl,q _ hfr⟩
 obtain ⟨c,hc⟩:=sortedAll_at s.heap (ps.map Value.ref) (ps.map Value.ref).toArray
 refine ⟨by rw [Ab]; exact Fb (aY (by omega)),_,c,rv,?_⟩
 rw [hc]
theorem aJ9 {H:Hp} {Q:VK} {a:Addr} {ps:List Addr} {ks:List (Int × Int)} (ha:rdL H a=some (ps.map V.ref)) (hl:ps.length=ks.length) (hk:∀ (i:Nat) p k,ps[i]?=some p->ks[i]?=some k->H p=some (.tup [.int k.1,.int k.2])) (h64:ps.length < 64) (pw:ks.Pairwise cQV) (h:∀ r,H r=none->Q (.ref r) (upd H r (.lst (ps.map V.ref)))):xH [.ref a] H Q:=⟨a,ps,ks,rfl,ha,hl,hk,h64,pw,h⟩
end
end L2
set_option maxHeartbeats 1000000
namespace L2
open PySem PySem.Spec PyProof.Rows
section
variable {X:Cx}
def mNN (neg:Bool):R2:=λx y H Q=>∃ p q,x=.ref p/\y=.ref q/\rdL H q=some [.non,.non]/\((rdL H p=some [.non,.non]/\Q (.bl (!neg)) H)\/∃ a b xs ys,rdL H p=some [.ref a,.ref b]/\rdL H a=some xs/\rdL H b=some ys/\Q (.bl neg) H)
theorem cZ3 {pins:List (Addr × Obj)} {σ:St} {H:Hp} {s:Shared} (I:Inv X pins σ H s) (hu:X.A.units + 1 < cLine) {p q a b:Addr} {xs ys:List V} (hq:rdL H q=some [.non,.non]) (hp:rdL H p=some [.ref a,.ref b]) (ha:rdL H a=some xs) (hb:rdL H b=some ys) :
   ∃ i1 i2:List Value,s.heap.IsList p i1.toArray/\s.heap.IsList q i2.toArray/\i1.toArray.size=i2.toArray.size/\(∀ j (h1:j < i1.toArray.size) (h2:j < i2.toArray.size),PySem.SeqAt.EqAt X.A.in1 s i1.toArray[j] i2.toArray[j] false)/\i1.toArray.size=2:=by
 obtain ⟨i1,r1,l1,_⟩:=I.list (aU hp)
 obtain ⟨i2,r2,l2,_⟩:=I.list (aU hq)
 obtain ⟨ia,_,la,_⟩:=I.list (aU ha)
 obtain ⟨ib,_,lb,_⟩:=I.list (aU hb)
 refine ⟨i1,i2,l1.isList,l2.isList,?_⟩
 cases r1 with
 | cons e1 r1=>cases r1 with
   | cons e2 r1=>
     cases r1
     cases r2 with
     | cons f1 r2=>cases r2 with
       | cons f2 r2=>
         cases r2
         cases e1
         cases e2
         cases f1
         cases f2
         refine ⟨rfl,λj h1 h2=>?_,rfl⟩
         match j,h1,h2 with
         | 0,_,_=>exact PySem.SeqAt.EqAt.list_none la.isList (show X.A.units + 1 < cLine from hu)
         | 1,_,_=>exact PySem.SeqAt.EqAt.list_none lb.isList (show X.A.units + 1 < cLine from hu)
         | j + 2,h,_=>exact absurd h (by simp)
theorem bX2 (hu:X.A.units + 1 < cLine):OpR X (compareOp .Eq) (mNN false):=by
 intro pins s σ H x y v u Q I rx ry h
 obtain ⟨p,q,rfl,rfl,hq,⟨hp,k⟩ | ⟨a,b,xs,ys,hp,ha,hb,k⟩⟩:=h
 · exact bZO (by omega) pins s σ H _ _ v u Q I rx ry (vK hp hq rfl rfl k)
 · cases rx
   cases ry
   obtain ⟨i1,i2,l1,l2,hs,he,h2⟩:=cZ3 I hu hq hp ha hb
   refine PySem.SeqAt.RcAt.lists (e:=λ_=>false) l1 l2 hs (by omega) he _ _ _ _ ?_
   rw [h2]
   exact ⟨.bl false,H,I,rfl,k⟩
theorem cJT (hu:X.A.units + 1 < cLine):OpR X (compareOp .NotEq) (mNN true):=by
 intro pins s σ H x y v u Q I rx ry h
 obtain ⟨p,q,rfl,rfl,hq,⟨hp,k⟩ | ⟨a,b,xs,ys,hp,ha,hb,k⟩⟩:=h
 · exact cZH (by omega) pins s σ H _ _ v u Q I rx ry (vK hp hq rfl rfl k)
 · cases rx
   cases ry
   obtain ⟨i1,i2,l1,l2,hs,he,h2⟩:=cZ3 I hu hq hp ha hb
   refine PySem.SeqAt.RcNeAt.lists (e:=λ_=>false) l1 l2 hs (by omega) he _ _ _ _ ?_
   rw [h2]
   exact ⟨.bl true,H,I,rfl,k⟩
end
end L2
namespace Mine
open PySem L2
local macro_rules | `(tactic| walk_at "rd") => `(tactic| first | assumption | exact bV | exact mZ | exact mY | exact aO (by assumption) | exact bI (by assumption) | (apply aH (aE (by assumption) _); walk_at "rd"))
local macro_rules | `(tactic| walk_at "dd") => `(tactic| first | exact nI (by assumption) | exact bXR (by assumption) | exact nI aD | assumption)
local macro_rules | `(tactic| walk_at "lo") => `(tactic| first | assumption | decide | omega | (simp only [List.length_map,List.length_append,List.length_cons,List.length_nil,Str.length_append]; omega))
local macro_rules | `(tactic| walk_at "ln") => `(tactic| first | assumption | decide | exact bQ (by walk_at "lo") | exact aY (by walk_at "lo"))
local macro_rules | `(tactic| walk_at "ar") => `(tactic| first | assumption | decide | omega | exact ⟨by omega,by omega⟩ | exact Or.inl ⟨by omega,by omega⟩ | exact Or.inr ⟨by omega,by omega⟩ | (dsimp only; done) | (dsimp only; omega))
local macro_rules | `(tactic| walk_at "s") => `(tactic| first
 | (with_reducible first | refine dZH ?_ | refine dQI ?_ | refine eQY ?_ | refine eQT ?_ | refine dQK ?_ | refine dZ6 ?_ | refine dZ8 ?_ | refine oR ?_ | refine dX4 ?_)
 | ((with_reducible refine' dJX ?sv ?_); (case sv => exact rfl))
 | (with_reducible first | refine s_c ?_ | refine eQX ?_ | refine eXB ?_ | refine dJV ?_ | refine cJQ ?_ | refine dX2 ?_ | refine eXA ?_ | refine eXE ?_ | refine bXG ?_ | refine dQE ?_ | refine dXH ?_ | refine eQK ?_)
 | ((with_reducible refine' dJH ?se ?_); (case se => walk_at "rd"))
 | (with_reducible first | refine cJX ?_ | refine cXU ?_ | refine eQ2 ?_ | refine cJ1 ?_ | refine eQL ?_ | refine eQ4 ?_ | refine eQC ?_ | refine dQZ ?_ | refine dJJ ?_ | refine eQ8 ?_)
 | ((with_reducible refine eQB ?sc ?_); (case sc => walk_at "ar"))
 | with_reducible refine dXX ?_
 | ((with_reducible refine dXU ?sc ?_); (case sc => walk_at "ln"))
 | (with_reducible first | refine dJ4 ?_ | refine eQI ?_ | refine dZW ?_ | refine dJW ?_ | refine eQM ?_ | refine cJJ ?_ | refine eQH ?_)
 | ((with_reducible refine' eQR ?sc ?_); (case sc => walk_at "rd"))
 | ((with_reducible refine cJN ?sc ?_); (case sc => walk_at "ln"))
 | ((with_reducible refine' dXT ?sc ?_); (case sc => walk_at "rd"))
 | (with_reducible first | refine dJD ?_ | refine dJ1 ?_)
 | ((with_reducible refine' cJR ?sc ?_); (case sc => walk_at "rd"))
 | ((with_reducible refine' dZ5 ?se ?se2 ?_); (case se => first | exact rfl | exact aX9 (by assumption) | exact tyN_dK (by assumption) | exact tyN_tup (by assumption) | exact aX9 aD | exact tyN_dK aD); (case se2 => first | exact (show aZB _ _ = some true from rfl) | exact (show aZB _ _ = some false from rfl) | exact rfl))
 | (with_reducible first | refine dZA ?_ | refine cXJ ?_ | refine cXT ?_ | refine cQ3 ?_ | refine cXN ?_ | refine cX5 ?_ | refine cJO ?_ | refine dXZ ?_ | refine bXW ?_)
 | ((with_reducible refine' dZ3 ?se ?_); (case se => walk_at "rd"))
 | ((with_reducible refine' dZQ ?se ?sl ?_); (case se => walk_at "rd"); (case sl => walk_at "ln"))
 | ((with_reducible refine' cJI ?se ?sf ?sl ?_); (case se => walk_at "rd"); (case sf => walk_at "rd"); (case sl => walk_at "ln"))
 | (with_reducible first | refine cZA ?_ | refine bXF ?_ | refine dQR ?_ | refine dQ8 ?_ | refine dXO ?_ | refine cZD ?_ | refine dQS ?_)
 | ((with_reducible refine' dXW ?se ?sn ?_); (case se => walk_at "rd"); (case sn => exact rfl))
 | (with_reducible first | refine dJM ?_ | refine dJR ?_ | refine cX7 ?_ | refine cJM ?_ | refine bJ6 ?_ | refine bJZ ?_ | refine eQA ?_ | refine bJ7 ?_)
 | ((with_reducible refine dJ7 ?sd ?_); (case sd => walk_at "dd"))
 | (with_reducible first | refine dXN ?_ | refine dJ0 ?_ | refine dQN ?_ | refine cQ4 ?_ | refine bZK ?_ | refine cQT ?_ | refine dXA ?_ | refine dJ9 ?_)
 | ((with_reducible refine' dQ4 ?se ?sn ?_); (case se => walk_at "rd"); (case sn => exact rfl))
 | (with_reducible first | refine bJ1 ?_ | refine dQU ?_ | refine dXE ?_ | refine bX6 ?_ | refine dZ1 ?_ | refine dXG ?_ | refine dJC ?_ | refine eQZ ?_ | refine eQ6 ?_ | refine dJG ?_ | refine dZL ?_)
 | dsimp only)
local macro_rules | `(tactic| walk_at "go") => `(tactic| repeat' (walk_at "s"))
def top (i:Nat):Stmt:=PySem.Challenge.pw_flaglocker_k28_too_few_flags.main.body.getD i (.Pass ⟨0,0,0,0⟩)
abbrev gZ:Stmt:=top 47
abbrev fB:Stmt:=top 48
abbrev eE:Stmt:=top 51
abbrev fW:Stmt:=top 54
abbrev hZ:Stmt:=top 49
abbrev dL:Stmt:=top 55
abbrev fA:Stmt:=top 50
abbrev fD:Stmt:=top 56
abbrev cU:Stmt:=top 23
abbrev iE:Stmt:=top 25
abbrev cI:Stmt:=top 37
abbrev fU:Stmt:=top 41
abbrev eJ:Stmt:=cZ4 (top 4) 0
abbrev cS:Stmt:=top 39
abbrev dW:Stmt:=top 28
abbrev cZ:Stmt:=top 27
abbrev dJ:Stmt:=top 31
abbrev eI:Stmt:=top 29
abbrev cX:Stmt:=top 32
abbrev dM:Stmt:=top 33
abbrev cP:Stmt:=top 34
abbrev fX:Stmt:=top 35
abbrev eZ:Stmt:=top 40
abbrev fT:Stmt:=top 17
abbrev eG:Stmt:=top 19
abbrev fG:Stmt:=top 20
abbrev fQ:Stmt:=top 21
abbrev cW:Stmt:=top 42
abbrev eF:Stmt:=top 43
abbrev dI:Stmt:=cZ4 (top 3) 0
abbrev kB:Stmt:=top 24
abbrev hV:Stmt:=top 44
abbrev cH:Stmt:=top 45
abbrev fS:Stmt:=top 61
abbrev dX:Stmt:=top 60
abbrev iB:Stmt:=top 58
abbrev cR:Stmt:=top 53
abbrev hU:Stmt:=top 57
abbrev fH:Stmt:=top 59
abbrev dY:Stmt:=top 62
abbrev iC:Stmt:=top 63
abbrev mO:Stmt:=top 64
structure Gs (K:PySem.W.Frag) (mg:Str->Option Value) (Zo Zz Zr Zx Zs Zp Zu Zw Zy Zt Zv Zq:Addr):Prop where
 c_Lack:mg "Lack"=some (.ref Zo)
 c_TowerError:mg "TowerError"=some (.ref Zz)
 c_Short:mg "Short"=some (.ref Zr)
 c_NoHoist:mg "NoHoist"=some (.ref Zx)
 c_NoBook:mg "NoBook"=some (.ref Zs)
 c_NoCut:mg "NoCut"=some (.ref Zp)
 c_NoText:mg "NoText"=some (.ref Zu)
 c_NoWord:mg "NoWord"=some (.ref Zw)
 c_NoHalyard:mg "NoHalyard"=some (.ref Zy)
 c_NoFlag:mg "NoFlag"=some (.ref Zt)
 c_NoDeed:mg "NoDeed"=some (.ref Zv)
 c_NoRow:mg "NoRow"=some (.ref Zq)
 m_Lack:PySem.W.exmOne K (.ref Zo) (.ref Zo)=some true
 x_NoHoist:PySem.W.excIn K Zx [.type "ValueError",.type "Exception",.type "BaseException",.type "object"] "ValueError.__new__"=true
 m_Short:PySem.W.exmOne K (.ref Zr) (.ref Zr)=some true
 i_1:PySem.W.kitOne K (.ref Zo) (.ref Zr)=some false
 i_2:PySem.W.kitOne K (.ref Zo) (.ref Zs)=some false
 i_3:PySem.W.kitOne K (.ref Zo) (.ref Zp)=some false
 i_4:PySem.W.kitOne K (.ref Zo) (.ref Zu)=some false
 i_5:PySem.W.kitOne K (.ref Zo) (.ref Zw)=some false
 i_6:PySem.W.kitOne K (.ref Zo) (.ref Zy)=some false
 i_7:PySem.W.kitOne K (.ref Zo) (.ref Zt)=some false
 i_8:PySem.W.kitOne K (.ref Zo) (.ref Zv)=some false
 i_9:PySem.W.kitOne K (.ref Zo) (.ref Zq)=some false
 i_10:PySem.W.kitOne K (.ref Zo) (.ref Zx)=some false
 i_11:PySem.W.kitOne K (.ref Zo) (.ref Zz)=some true
 i_12:PySem.W.kitOne K (.ref Zo) (.type "ValueError")=some true
 t1_TowerError:PySem.W.specialIn K (.ref Zz) "__getattribute__"=some (some (.builtin "type.__getattribute__"))
 t2_TowerError:PySem.W.readsIn K Zz (.type "type")=true
 t3_TowerError:PySem.W.findCls K (.ref Zz) (.type "type") "__init__"=some (.val (.builtin "ValueError.__init__"))
 xo_Lack:tW K Zo [.type "ValueError",.type "Exception",.type "BaseException",.type "object"] "ValueError.__new__"=true
 xk_Lack:PySem.W.keepIn K (.ref Zo)=true
 xe1_Lack:PySem.W.hasDictIn K Zo=true
 xe2_Lack:PySem.W.findIn K (.ref Zo) "__getattribute__"=some (some (.builtin "BaseException.__getattribute__"))
 xe3_Lack:PySem.W.findIn K (.ref Zo) "__getattr__"=some none
 xe4_Lack:PySem.W.findIn K (.ref Zo) "__class__"=some (some (.builtin "object.__class__"))
 xe5_Lack:PySem.W.specialIn K (.builtin "object.__class__") "__get__"=some (some (.builtin "getset_descriptor.__get__"))
 xe6_Lack:PySem.W.takesIn K (.builtin "object.__class__")=some true
 xe7_Lack:PySem.W.mroIn K Zo (.type "object")=some true
 xe8_Lack:PySem.W.subIn K (.ref Zo) (.type "BaseException")=some true
 xs_Lack:PySem.W.findIn K (.ref Zo) "__setattr__"=some (some (.builtin "object.__setattr__"))
 xr_Lack:bJA K Zo Zz=true
 xv_Lack:PySem.W.subIn K (.ref Zo) (.type "ValueError")=some true
 xn_Lack_wants:PySem.W.findIn K (.ref Zo) "wants"=some none
 xn_Lack_flags:PySem.W.findIn K (.ref Zo) "flags"=some none
 xo_Short:tW K Zr [.type "ValueError",.type "Exception",.type "BaseException",.type "object"] "ValueError.__new__"=true
 xk_Short:PySem.W.keepIn K (.ref Zr)=true
 xe1_Short:PySem.W.hasDictIn K Zr=true
 xe2_Short:PySem.W.findIn K (.ref Zr) "__getattribute__"=some (some (.builtin "BaseException.__getattribute__"))
 xe3_Short:PySem.W.findIn K (.ref Zr) "__getattr__"=some none
 xe4_Short:PySem.W.findIn K (.ref Zr) "__class__"=some (some (.builtin "object.__class__"))
 xe5_Short:PySem.W.specialIn K (.builtin "object.__class__") "__get__"=some (some (.builtin "getset_descriptor.__get__"))
 xe6_Short:PySem.W.takesIn K (.builtin "object.__class__")=some true
 xe7_Short:PySem.W.mroIn K Zr (.type "object")=some true
 xe8_Short:PySem.W.subIn K (.ref Zr) (.type "BaseException")=some true
 xs_Short:PySem.W.findIn K (.ref Zr) "__setattr__"=some (some (.builtin "object.__setattr__"))
 xr_Short:bJA K Zr Zz=true
 xv_Short:PySem.W.subIn K (.ref Zr) (.type "ValueError")=some true
 xn_Short_flag:PySem.W.findIn K (.ref Zr) "flag"=some none
 b_len:mg "len"=none
 b_range:mg "range"=none
 b_min:mg "min"=none
 b_list:mg "list"=none
 b_max:mg "max"=none
 b_enumerate:mg "enumerate"=none
 b_int:mg "int"=none
 b_all:mg "all"=none
 b_zip:mg "zip"=none
 b_isinstance:mg "isinstance"=none
 b_ValueError:mg "ValueError"=none
 b_dict:mg "dict"=none
 b_sum:mg "sum"=none
 b_set:mg "set"=none
 b_sorted:mg "sorted"=none
 s_FLAGS:∃ t,mg "FLAGS"=some (.str "abcdefghijklmnopqrstuvw1234" t)
 s_SUBSTITUTES:∃ t,mg "SUBSTITUTES"=some (.str "1234" t)
 s_MOST_PLACES:∃ t,mg "MOST_PLACES"=some (.int 7 t)
theorem Gs.xx_Lack {K:PySem.W.Frag} {mg:Str->Option Value} {Zo Zz Zr Zx Zs Zp Zu Zw Zy Zt Zv Zq:Addr} (G:Gs K mg Zo Zz Zr Zx Zs Zp Zu Zw Zy Zt Zv Zq):ExK K Zo:=⟨G.xe1_Lack,G.xe2_Lack,G.xe3_Lack,G.xe4_Lack,G.xe5_Lack,G.xe6_Lack,G.xe7_Lack,G.xe8_Lack⟩
theorem Gs.xc_Lack {K:PySem.W.Frag} {mg:Str->Option Value} {Zo Zz Zr Zx Zs Zp Zu Zw Zy Zt Zv Zq:Addr} (G:Gs K mg Zo Zz Zr Zx Zs Zp Zu Zw Zy Zt Zv Zq):XcK K Zo Zz:=⟨G.xx_Lack,G.xs_Lack,aXK G.xr_Lack,G.xv_Lack⟩
theorem Gs.xm_Lack {K:PySem.W.Frag} {mg:Str->Option Value} {Zo Zz Zr Zx Zs Zp Zu Zw Zy Zt Zv Zq:Addr} (G:Gs K mg Zo Zz Zr Zx Zs Zp Zu Zw Zy Zt Zv Zq):XmK K Zo:=⟨G.xo_Lack,G.xk_Lack⟩
theorem Gs.xx_Short {K:PySem.W.Frag} {mg:Str->Option Value} {Zo Zz Zr Zx Zs Zp Zu Zw Zy Zt Zv Zq:Addr} (G:Gs K mg Zo Zz Zr Zx Zs Zp Zu Zw Zy Zt Zv Zq):ExK K Zr:=⟨G.xe1_Short,G.xe2_Short,G.xe3_Short,G.xe4_Short,G.xe5_Short,G.xe6_Short,G.xe7_Short,G.xe8_Short⟩
theorem Gs.xc_Short {K:PySem.W.Frag} {mg:Str->Option Value} {Zo Zz Zr Zx Zs Zp Zu Zw Zy Zt Zv Zq:Addr} (G:Gs K mg Zo Zz Zr Zx Zs Zp Zu Zw Zy Zt Zv Zq):XcK K Zr Zz:=⟨G.xx_Short,G.xs_Short,aXK G.xr_Short,G.xv_Short⟩
theorem Gs.xm_Short {K:PySem.W.Frag} {mg:Str->Option Value} {Zo Zz Zr Zx Zs Zp Zu Zw Zy Zt Zv Zq:Addr} (G:Gs K mg Zo Zz Zr Zx Zs Zp Zu Zw Zy Zt Zv Zq):XmK K Zr:=⟨G.xo_Short,G.xk_Short⟩
abbrev lettersT:Str := "abcdefghijklmnopqrstuvw"
abbrev subsT:Str := "1234"
abbrev flagsT:Str := "abcdefghijklmnopqrstuvw1234"
abbrev one (c:Nat):Str:=⟨#[c]⟩
theorem aQD:subsT.cps.toList=[49,50,51,52]:=by decide
theorem wK:flagsT.cps.toList=lettersT.cps.toList ++ subsT.cps.toList:=by decide
def bK (c:Nat):Prop:=97<=c/\c<=119
def dF (c:Nat):Prop:=49<=c/\c<=52
instance (c:Nat):Decidable (bK c):=inferInstanceAs (Decidable (_/\_))
instance (c:Nat):Decidable (dF c):=inferInstanceAs (Decidable (_/\_))
theorem yI {c:Nat}:c∈lettersT.cps.toList ↔ bK c:=by
 have h1:∀ c∈lettersT.cps.toList,bK c:=by decide +kernel
 have h2:∀ k:_root_.Fin 23,97 + k.val∈lettersT.cps.toList:=by decide +kernel
 refine ⟨h1 c,λh=>?_⟩
 have e:=h2 ⟨c - 97,by have:=h.1; have:=h.2; omega⟩
 rwa [show 97 + (c - 97)=c by have:=h.1; omega] at e
theorem mem_subs {c:Nat}:c∈subsT.cps.toList ↔ dF c:=by
 have h1:∀ c∈subsT.cps.toList,dF c:=by decide +kernel
 have h2:∀ k:_root_.Fin 4,49 + k.val∈subsT.cps.toList:=by decide +kernel
 refine ⟨h1 c,λh=>?_⟩
 have e:=h2 ⟨c - 49,by have:=h.1; have:=h.2; omega⟩
 rwa [show 49 + (c - 49)=c by have:=h.1; omega] at e
theorem sA {c:Nat}:c∈flagsT.cps.toList ↔ bK c\/dF c:=by
 rw [wK,Bi,yI,mem_subs]
theorem gN {c:Nat} (h:bK c):¬ dF c:=λz=>by unfold bK at h; unfold dF at z; omega
theorem kY (c:Nat):subIn (one c) subsT=decide (dF c):=by
 rw [rP]
 exact Dh.mpr mem_subs
theorem pC {z:Str} (h:z.length=1):∃ c,z=one c:=by
 obtain ⟨⟨l⟩⟩:=z
 match l,h with
 | [c],_=>exact ⟨c,rfl⟩
def iN (z:Str):Bool:=if z.length=1 then subIn z flagsT else false
theorem nU {z:Str} (h:z.length≠1):iN z=false:=if_neg h
theorem pB {c:Nat}:iN (one c)=decide (bK c\/dF c):=by
 unfold iN
 rw [if_pos (by rfl),rP]
 exact Dh.mpr sA
theorem aZW {z:Str} (h:iN z=true):∃ c,z=one c/\(bK c\/dF c):=by
 by_cases h1:z.length=1
 · obtain ⟨c,rfl⟩:=pC h1
   rw [pB] at h
   exact ⟨c,rfl,Bf h⟩
 · rw [nU h1] at h
   cases h
def jP (c:Nat) (p:Int):Prop:=bK c\/(dF c/\(c:Int) - 48 < p)
instance (c:Nat) (p:Int):Decidable (jP c p):=inferInstanceAs (Decidable (_\/_))
def dA (z:Str) (p:Int):Bool:=if z.length=1 then decide (jP (z.cps.toList.headD 0) p) else false
theorem lR {c:Nat} {p:Int}:dA (one c) p=decide (jP c p):=rfl
theorem rH {z:Str} {p:Int} (h:dA z p=true):∃ c,z=one c/\jP c p:=by
 by_cases h1:z.length=1
 · obtain ⟨c,rfl⟩:=pC h1
   exact ⟨c,rfl,Bf h⟩
 · unfold dA at h
   rw [if_neg h1] at h
   cases h
def cF (zs:List Str):Bool:=if zs.length < 1\/7 < zs.length then false else (List.range zs.length).all λi=>dA (zs.getD i ⟨#[]⟩) ((1 + i:Nat):Int)
theorem fF {zs:List Str} (h:cF zs=true):1<=zs.length/\zs.length<=7:=by
 unfold cF at h
 split at h
 · cases h
 · omega
theorem bZJ {zs:List Str} (h:cF zs=true) {i:Nat} (hi:i < zs.length):dA (zs.getD i ⟨#[]⟩) ((1 + i:Nat):Int)=true:=by
 unfold cF at h
 split at h
 · cases h
 · exact Dn.mp h i (Cc.mpr hi)
def stp (w:List Nat) (c:Nat):Nat:=if dF c then w.getD (c - 49) 0 else c
def rdC (fs:List Nat):List Nat:=fs.foldl (λw c=>w ++ [stp w c]) []
theorem bZW (fs:List Nat) (c:Nat):rdC (fs ++ [c])=rdC fs ++ [stp (rdC fs) c]:=by
 unfold rdC
 rw [Gj]
 rfl
theorem mH {fs:List Nat} {i c:Nat} (h:fs[i]?=some c):rdC (fs.take (i + 1))=rdC (fs.take i) ++ [stp (rdC (fs.take i)) c]:=by
 rw [Az,h]
 exact bZW _ _
theorem tL:∀ fs:List Nat,(rdC fs).length=fs.length:=by
 intro fs
 have h:∀ i,i<=fs.length->(rdC (fs.take i)).length=i:=by
   intro i
   induction i with
   | zero=>intro _; rfl
   | succ i ih=>
     intro hi
     rw [mH (Aa (by omega)),Aj,ih (by omega)]
     rfl
 have q:=h fs.length (Ah _)
 rwa [Bp] at q
theorem iW {fs:List Nat} {i:Nat} (h:i<=fs.length):(rdC (fs.take i)).length=i:=by
 rw [tL,Bo]; omega
def aZ (cs:List Nat):Str:=⟨cs.toArray⟩
theorem eT (cs:List Nat):(aZ cs).length=cs.length:=by show cs.toArray.size=_; simp
theorem mP (cs:List Nat):(aZ cs).cps.toList=cs:=rfl
theorem hX (cs:List Nat) (c:Nat):aZ cs ++ one c=aZ (cs ++ [c]):=FlT.str_ext (by rw [FlT.app_cps]; rfl)
def kQ (z:Str):Nat:=z.cps.toList.headD 0
theorem aJN (cs:List Nat):(cs.map one).map kQ=cs:=by
 rw [Cw]
 exact List.map_id cs
theorem lI {zs:List Str} (h:cF zs=true) {i:Nat} {z:Str} (hz:zs[i]?=some z):∃ c,z=one c/\(zs.map kQ)[i]?=some c/\(bK c\/(dF c/\c - 49 < i)):=by
 have hi:i < zs.length:=(Ae.mp hz).1
 have q:=bZJ h hi
 rw [Ad,hz] at q
 obtain ⟨c,e,st⟩:=rH q
 have e':z=one c:=e
 refine ⟨c,e',by rw [Ag,hz,e']; rfl,?_⟩
 rcases st with l | ⟨s,l⟩
 · exact .inl l
 · refine .inr ⟨s,?_⟩
   unfold dF at s
   omega
def bQY (zs:List Str):Str:=aZ (rdC (zs.map kQ))
theorem aXE {α β:Type} (f:α->β):∀ l:List α,l.filterMap (λx=>some (f x))=l.map f
 | []=>rfl
 | x :: r=>by rw [Dc (f:=λx=>some (f x)) (b:=f x) rfl,Ar,aXE f r]
theorem lS {α β:Type} {f g:α->Option β}:∀ {l:List α},(∀ x∈l,f x=g x)->l.filterMap f=l.filterMap g
 | [],_=>rfl
 | x :: r,h=>by rw [Dm,Dm,h x Aq,lS λy hy=>h y (An _ hy)]
theorem qU {β:Type} {F:Nat->Option β} {i:Nat} {b:β} (h:F i=some b):(List.range (i + 1)).filterMap F=(List.range i).filterMap F ++ [b]:=by
 rw [Cf,Cd,Dc h,De]
theorem qZ {β:Type} {F:Nat->Option β} {i:Nat} (h:F i=none):(List.range (i + 1)).filterMap F=(List.range i).filterMap F:=by
 rw [Cf,Cd,Dq h,De,Bu]
theorem one_inj {a b:Nat}:one a=one b ↔ a=b:=⟨λh=>by injection h with h; injection h with h; injection h,λh=>by rw [h]⟩
theorem uX (a b:Nat):decide (one a=one b)=decide (a=b):=Dh.mpr one_inj
theorem cXK {cw:List Nat} {k:Nat} (h:k < cw.length):atI (aZ cw).cps.toList ((k:Nat):Int)=some (cw.getD k 0):=by
 refine eO ?_
 rw [mP,Ad,Aa h]
 rfl
theorem aXN {k:Nat} (h:k < 23):atI lettersT.cps.toList ((k:Nat):Int)=some (97 + k):=by
 refine eO ?_
 have q:∀ k:_root_.Fin 23,lettersT.cps.toList[k.val]?=some (97 + k.val):=by decide +kernel
 exact q ⟨k,h⟩
theorem aXZ {k:Nat} (h:k < 4):atI subsT.cps.toList ((k:Nat):Int)=some (49 + k):=by
 refine eO ?_
 have q:∀ k:_root_.Fin 4,subsT.cps.toList[k.val]?=some (49 + k.val):=by decide +kernel
 exact q ⟨k,h⟩
theorem bXO (cs:List Nat):∀ z∈cs.map one,z.length<=1000:=λz hz=>by
 obtain ⟨c,_,rfl⟩:=Bg.mp hz
 show 1<=1000
 decide
theorem eQ {ns:List Int} {i:Int} (h0:0<=i) (h:i < ns.length):∃ n,n∈ns/\atI (ns.map V.int) i=some (.int n):=by
 obtain ⟨v,h1,h2⟩:=bZP (xs:=ns.map V.int) (i:=i) h0 (by rw [Ab]; exact h)
 rw [Ag,Aa (by omega)] at h2
 cases h2
 exact ⟨_,Bw _,h1⟩
theorem zY {ns:List Int} {j:Nat} {x:V} (h:(ns.map V.int)[j]?=some x):∃ n,n∈ns/\x=V.int n:=by
 obtain ⟨n,hn,e⟩:=Bg.mp (Ak h)
 exact ⟨n,hn,e.symm⟩
theorem lK {ns:List Str} {j:Nat} {x:V} (h:(ns.map V.str)[j]?=some x):∃ n,ns[j]?=some n/\x=V.str n:=by
 rw [Ag] at h
 cases e:ns[j]? with
 | none=>rw [e] at h; cases h
 | some n=>rw [e] at h; cases h; exact ⟨n,rfl,rfl⟩
theorem oN {c:Nat} (h:dF c):PySem.intText? (one c)=some ((c:Int) - 48):=by
 unfold dF at h
 have:c=49\/c=50\/c=51\/c=52:=by omega
 rcases this with rfl | rfl | rfl | rfl <;> decide +kernel
theorem dG (zs:List Str):(zs.map V.str).all bX=true:=by
 rw [Dn]
 intro x hx
 obtain ⟨z,_,rfl⟩:=Bg.mp hx
 rfl
theorem bJS {fs:List Nat} (h1:1<=fs.length) (h7:fs.length<=7) (h:∀ k,k < fs.length->jP (fs.getD k 0) ((1 + k:Nat):Int)):cF (fs.map one)=true:=by
 unfold cF
 rw [Ab,if_neg (by omega),Dn]
 intro i hi
 have hi':=Cc.mp hi
 rw [Ad,Ag,Aa hi']
 have q:=h i hi'
 rw [Ad,Aa hi'] at q
 exact Ap q
def chF (cw:List Nat) (k n:Nat):Option Nat:=if cw.getD n 0=cw.getD k 0 then some (49 + n) else none
def chs (cw:List Nat) (k:Nat):List Nat:=cw.getD k 0 :: (List.range (min k 4)).filterMap (chF cw k)
theorem ch_iff {cw:List Nat} {k c:Nat}:c∈chs cw k ↔ c=cw.getD k 0\/∃ n,n < k/\n < 4/\cw.getD n 0=cw.getD k 0/\c=49 + n:=by
 unfold chs
 rw [Bc,Dd]
 constructor
 · rintro (h | ⟨n,hn,h⟩)
   · exact .inl h
   · have:=Cc.mp hn
     unfold chF at h
     split at h
     · cases h
       exact .inr ⟨n,by omega,by omega,by assumption,rfl⟩
     · cases h
 · rintro (h | ⟨n,h1,h2,h3,rfl⟩)
   · exact .inl h
   · exact .inr ⟨n,Cc.mpr (by omega),if_pos h3⟩
theorem cX8 (cw:List Nat) (k:Nat):1<=(chs cw k).length/\(chs cw k).length<=5:=by
 unfold chs
 have:=Da (chF cw k) (List.range (min k 4))
 rw [Cg] at this
 rw [Ay]
 omega
theorem bQ4 {cw:List Nat} {k c:Nat} (hL:bK (cw.getD k 0)) (h:c∈chs cw k):jP c ((1 + k:Nat):Int):=by
 rcases ch_iff.mp h with rfl | ⟨n,h1,h2,_,rfl⟩
 · exact .inl hL
 · exact .inr ⟨⟨by omega,by omega⟩,by omega⟩
theorem vQ {cw:List Nat} (hL:∀ d∈cw,bK d) {k:Nat} (hk:k < cw.length):bK (cw.getD k 0):=by
 rw [Ad,Aa hk]
 exact hL _ (Bw hk)
theorem wZ {cw fs:List Nat} (hL:∀ d∈cw,bK d) (h1:1<=fs.length) (h7:fs.length<=7) (hl:fs.length<=cw.length) (h:∀ k,k < fs.length->fs.getD k 0∈chs cw k):cF (fs.map one)=true :=
 bJS h1 h7 λk hk=>bQ4 (vQ hL (by omega)) (h k hk)
theorem xK {c:Nat} {cs:List Nat}:inV (.str (one c)) ((cs.map one).map V.str)=decide (c∈cs):=by
 induction cs with
 | nil=>rfl
 | cons d r ih=>
   rw [Ar,Ar]
   show ((one d == one c) || inV (.str (one c)) ((r.map one).map V.str))=_
   rw [ih,<-tT]
   by_cases h:c=d
   · subst h
     rw [Ap rfl,Bool.true_or,Ap Aq]
   · rw [Au (λz=>by injection z with z; exact h (one_inj.mp z).symm),Fw]
     exact Dh.mpr ⟨λz=>An _ z,λz=>(Bc.mp z).resolve_left h⟩
def tG (K:PySem.W.Frag):Sp:=λvs H Q _=>∃ (a:Addr) (ns:List Int),vs=[.ref a]/\SqL K H a (ns.map V.int)/\ns.length<=63/\∀ H',Q (.bl true) H'
def pU:Sp:=λvs H Q _=>∃ z,vs=[.str z]/\z.length<=1000/\Q (.bl (iN z)) H
def lZ:Sp:=λvs H Q _=>∃ z p,vs=[.str z,.int p]/\z.length<=1000/\Q (.bl (dA z p)) H
def nZ:Sp:=λvs H Q _=>∃ a zs,vs=[.ref a]/\rdL H a=some (zs.map V.str)/\zs.length<=1000/\(∀ z∈zs,z.length<=1000)/\∀ H',Same H H'->Q (.bl (cF zs)) H'
def oY (aN:Addr):Sp:=λvs H Q E=>∃ a zs,vs=[.ref a]/\rdL H a=some (zs.map V.str)/\zs.length<=1000/\(∀ z∈zs,z.length<=1000)/\(cF zs=true->∀ H',Same H H'->Q (.str (bQY zs)) H')/\(cF zs=false->∀ H',Same H H'->E (.ref aN) none H')
theorem mC {cw:List Nat} {k:Nat} {j:Int} (e:j=(k:Int)) (h:k < cw.length):atI (aZ cw).cps.toList j=some (cw.getD k 0):=by
 rw [e]
 exact cXK h
theorem lX {H:Hp} {Q:VK} {p:Addr} {xs:List V} {i:Int} {v:V} (e:H p=some (.tup xs)) (e':atI xs i=some v) (h:Q v H):mIx (.ref p) (.int i) H Q:=by
 have e1:rdL H p=none:=by unfold rdL; rw [e]; rfl
 unfold mIx
 simp only [e1,kH e,e']
 exact h
section
variable {P:Program} {w:World} {K:PySem.W.Frag} {mg:Str->Option Value} {base:Heap}
def gU (aC:Addr):Sp:=λvs H Q _=>∃ ea v,vs=[.ref ea,v]/\H ea=some (eK ea aC none)/\∀ dx,H dx=none->Q .non (upd (upd H ea (eK ea aC (some dx))) dx (xdO dx [("flag",v)]))
theorem qT:FnScope ["self", "flag"] ["self", "flag"] (aG dI):=⟨rfl,rfl,rfl,by decide +kernel,rfl,by decide +kernel,by decide +kernel⟩
theorem qX {Zo Zz Zr Zx Zs Zp Zu Zw Zy Zt Zv Zq:Addr} {f:Addr} {fd:FuncData} (F:Fun K "__init__" "Short.__init__" dI f fd) (G:Gs K mg Zo Zz Zr Zx Zs Zp Zu Zw Zy Zt Zv Zq)  : FnOk P w K mg base CX0 1 f fd ["self", "flag"] (gU Zr):=by
 refine F.ok qT (λvs H Q E h=>?_) (λcdv A outer s H vs Q E hr h=>?_)
 · obtain ⟨ea,v,rfl,_⟩:=h; rfl
 obtain ⟨ea,v,rfl,he,q⟩:=h
 refine ⟨_,(@aF _ _ _ _ _ (cK (xV rfl G.c_TowerError G.t1_TowerError G.t2_TowerError G.t3_TowerError (aA (mv 0) (aA (mv 1) aB)))) (@aI _ _ _ (uA (mv 0) (mv 1) rfl))),?_⟩
 walk_at "go"
 refine ⟨ea,[v],Zr,Zz,none,rfl,by show 1<=sizeLine; decide,he,(λ_ z=>nomatch z),G.xc_Short,?_⟩
 walk_at "go"
 exact ⟨ea,Zr,Zz,rfl,G.xc_Short,G.xn_Short_flag,.inl ⟨he,q⟩⟩
theorem bJU {H H1:Hp} {ea dx:Addr} {o o' o'':HO} (s:Same H H1) (h1:H1 ea=none) (h2:upd H1 ea o dx=none):Same H (del (upd (upd (upd H1 ea o) ea o') dx o'') ea):=λb u e=>by
 have e1:=s b u e
 have n1:b≠ea:=bJ e1 h1
 have n3:dx≠ea:=λz=>by rw [z,aD] at h2; cases h2
 have n2:b≠dx:=λz=>by rw [<-z,aK n1,e1] at h2; cases h2
 rw [dO n1,aK n2,aK n1,aK n1]
 exact e1
theorem bZQ {H1:Hp} {ea dx:Addr} {o o' o'':HO} (h2:upd H1 ea o dx=none):upd (upd (upd H1 ea o) ea o') dx o'' ea=some o'/\del (upd (upd (upd H1 ea o) ea o') dx o'') ea dx=some o'':=by
 have n3:dx≠ea:=λz=>by rw [z,aD] at h2; cases h2
 exact ⟨by rw [aK n3.symm,aD],by rw [dO n3,aD]⟩
structure Lk (kvs:List (Key × V)) (f:Nat->Option Int):Prop where
 nd:(kvs.map (·.1)).Nodup
 ks:∀ kv∈kvs,∃ (c:Nat) (n:Int),kv=(Sum.inr (one c),V.int n)
 val:∀ c,bU kvs (Sum.inr (one c))=(f c).map V.int
theorem Lk.nil:Lk [] (λ_=>none):=⟨List.nodup_nil,(λkv h=>nomatch h),λc=>rfl⟩
theorem key_one {a b:Nat}:((Sum.inr (one a):Key)=Sum.inr (one b)) ↔ a=b:=⟨λh=>one_inj.mp (Sum.inr.inj h),λh=>by rw [h]⟩
theorem aXO {α:Type}:∀ {l:List α} {k:α},l.Nodup->¬ k∈l->(l ++ [k]).Nodup
 | [],k,_,_=>by simp
 | a :: r,k,h,hk=>by
   obtain ⟨h1,h2⟩:=By.mp h
   refine By.mpr ⟨λm=>?_,aXO h2 λm=>hk (An _ m)⟩
   rcases Bi.mp m with q | q
   · exact h1 q
   · exact hk (by rw [Aw.mp q]; exact Aq ..)
theorem cX2 {kvs:List (Key × V)} {k:Key} (h:bU kvs k=none):¬ k∈kvs.map (·.1):=λm=>by
 obtain ⟨p,hp,e⟩:=Bg.mp m
 have q:(kvs.any λkv=>decide (kv.1=k))=true:=Gk.mpr ⟨p,hp,Ap e⟩
 rw [eV,h] at q
 cases q
theorem wD (kvs:List (Key × V)) (k:Key) (v:V) (h:bU kvs k≠none):(dH kvs k v).map (·.1)=kvs.map (·.1):=by
 unfold dH
 have e:(kvs.any λkv=>decide (kv.1=k))=true:=by
   rw [eV]
   cases q:bU kvs k with
   | none=>exact absurd q h
   | some _=>rfl
 rw [if_pos e,Cw]
 refine Cz λkv _=>?_
 show (if kv.1=k then (kv.1,v) else kv).1=kv.1
 split <;> rfl
theorem Lk.put {kvs:List (Key × V)} {f:Nat->Option Int} (h:Lk kvs f) (c:Nat) (n:Int):Lk (dH kvs (Sum.inr (one c)) (.int n)) (λd=>if d=c then some n else f d) where
 nd:=by
   cases e:bU kvs (Sum.inr (one c)) with
   | none=>rw [iF _ e,Al]; exact aXO h.nd (cX2 e)
   | some v=>rw [wD _ _ _ (by rw [e]; exact λz=>nomatch z)]; exact h.nd
 ks:=λkv hkv=>by
   unfold dH at hkv
   split at hkv
   · obtain ⟨kv',h',e⟩:=Bg.mp hkv
     obtain ⟨c',n',e'⟩:=h.ks kv' h'
     subst e'
     dsimp only at e
     split at e
     · exact ⟨c',n,e.symm⟩
     · exact ⟨c',n',e.symm⟩
   · rcases Bi.mp hkv with q | q
     · exact h.ks kv q
     · exact ⟨c,n,Aw.mp q⟩
 val:=λd=>by
   rw [bXM]
   by_cases e:d=c
   · rw [if_pos (key_one.mpr e),if_pos e]; rfl
   · rw [if_neg (λz=>e (key_one.mp z)),if_neg e]; exact h.val d
theorem bQM {kvs:List (Key × V)} (nd:(kvs.map (·.1)).Nodup) {kv:Key × V} (h:kv∈kvs):bU kvs kv.1=some kv.2:=by
 induction kvs with
 | nil=>cases h
 | cons p r ih=>
   obtain ⟨n1,n2⟩:=By.mp nd
   rcases Bc.mp h with e | e
   · subst e; exact cD rfl
   · rw [bY λz=>n1 (by show p.1∈_; rw [z]; exact Bg.mpr ⟨kv,e,rfl⟩)]
     exact ih n2 e
theorem uG {α:Type} [DecidableEq α]:∀ {l m:List α},l.Nodup->(∀ x∈l,x∈m)->l.length<=m.length
 | [],m,_,_=>Ci _
 | a :: r,m,h,s=>by
   obtain ⟨h1,h2⟩:=By.mp h
   have q:=uG (l:=r) (m:=m.erase a) h2 λx hx=>(List.mem_erase_of_ne λz=>h1 (by rw [<-z]; exact hx)).mpr (s x (An _ hx))
   have ha:=s a (Aq ..)
   rw [List.length_erase_of_mem ha] at q
   have:=List.length_pos_of_mem ha
   rw [Ay]
   omega
theorem Lk.at_mem {kvs:List (Key × V)} {f:Nat->Option Int} (h:Lk kvs f) {kv:Key × V} (hkv:kv∈kvs):∃ c n,kv=(Sum.inr (one c),V.int n)/\f c=some n:=by
 obtain ⟨c,n,e⟩:=h.ks kv hkv
 have v:=bQM h.nd hkv
 rw [e] at v
 have v2:=h.val c
 rw [v2] at v
 cases q:f c with
 | none=>rw [q] at v; cases v
 | some m=>rw [q] at v; cases v; exact ⟨c,_,e,q⟩
theorem Lk.keys {kvs kws:List (Key × V)} {f:Nat->Option Int} (h:Lk kvs f) (h':Lk kws f):∀ x∈kvs.map (·.1),x∈kws.map (·.1):=λx hx=>by
 obtain ⟨kv,hkv,rfl⟩:=Bg.mp hx
 obtain ⟨c,n,rfl,hf⟩:=h.at_mem hkv
 have v:=h'.val c
 rw [hf] at v
 have q:(kws.any λkv=>decide (kv.1=Sum.inr (one c)))=true:=by rw [eV,v]; rfl
 obtain ⟨p,hp,e⟩:=Gk.mp q
 exact Bg.mpr ⟨p,hp,Bf e⟩
theorem Lk.deq {kvs kws:List (Key × V)} {f:Nat->Option Int} (h:Lk kvs f) (h':Lk kws f):DEq kvs kws:=by
 refine ⟨?_,λkv hkv=>?_⟩
 · have a:=uG h.nd (h.keys h')
   have b:=uG h'.nd (h'.keys h)
   rw [Ab,Ab] at a b
   omega
 · obtain ⟨c,n,rfl,hf⟩:=h.at_mem hkv
   exact ⟨rfl,by rw [h'.val c,hf]; rfl⟩
def aL (f:Nat->Option Int) (c:Nat):Int:=(f c).getD 0
def lE (c:Nat):Prop:=bK c\/dF c
instance (c:Nat):Decidable (lE c):=inferInstanceAs (Decidable (_\/_))
def bO (n:Nat->Int) (c:Nat):Option Int:=if lE c/\0 < n c then some (n c) else none
theorem mF {m n:Nat->Int} (h:∀ c,lE c->m c=n c):bO m=bO n:=by
 funext c
 unfold bO
 by_cases q:lE c
 · rw [h c q]
 · rw [if_neg λz=>q z.1,if_neg λz=>q z.1]
theorem fR {n:Nat->Int} {c:Nat} (hc:lE c) (h:0<=n c):aL (bO n) c=n c:=by
 unfold aL bO
 by_cases q:0 < n c
 · rw [if_pos ⟨hc,q⟩]; rfl
 · rw [if_neg λz=>q z.2]; show (0:Int)=n c; omega
theorem Lk.ext {kvs:List (Key × V)} {f g:Nat->Option Int} (h:Lk kvs f) (e:f=g):Lk kvs g:=e ▸ h
theorem gJ (f:Nat->Option Int) (c:Nat):((f c).map V.int).getD (.int 0)=.int (aL f c):=by
 unfold aL
 cases f c <;> rfl
theorem flags_mem {c:Nat}:c∈flagsT.cps.toList ↔ lE c:=sA
def eQU (n:Nat->Int) (i c:Nat):Option Int:=if c∈flagsT.cps.toList.take i/\0 < n c then some (n c) else none
theorem dZB (n:Nat->Int):eQU n 0=λ_=>none:=by
 funext c
 unfold eQU
 rw [Ee]
 exact if_neg λz=>nomatch z.1
def kvL (g:Nat->Int) (L:List Nat):List (Key × V):=L.map λc=>(Sum.inr (one c),V.int (g c))
def cB (n:Nat->Int) (i:Nat):List Nat:=(flagsT.cps.toList.take i).filter λc=>decide (0 < n c)
theorem xX {g:Nat->Int} {L:List Nat} {c:Nat} (h:c ∉ L):bU (kvL g L) (Sum.inr (one c))=none:=by
 induction L with
 | nil=>rfl
 | cons d r ih=>
   show bU ((Sum.inr (one d),V.int (g d)) :: kvL g r) _=none
   rw [bY (λz=>h (by rw [key_one.mp z]; exact Aq)),ih λz=>h (An _ z)]
theorem flags_nd:flagsT.cps.toList.Nodup:=by decide +kernel
theorem plainL_mem {n:Nat->Int} {i c:Nat}:c∈cB n i ↔ c∈flagsT.cps.toList.take i/\0 < n c:=by
 unfold cB
 rw [Ct,Bj]
theorem yP {n:Nat->Int} {i c:Nat} (h:flagsT.cps.toList[i]?=some c):c ∉ cB n i:=λz=>by
 have m:=(plainL_mem.mp z).1
 obtain ⟨j,hj,e⟩:=Ca.mp m
 rw [Bo] at hj
 rw [List.getElem_take] at e
 obtain ⟨hi,e2⟩:=Ae.mp h
 have:=(Fp flags_nd).mp (e.trans e2.symm)
 omega
theorem zD {n:Nat->Int} {i c:Nat} (h:flagsT.cps.toList[i]?=some c) (p:0 < n c):cB n (i + 1)=cB n i ++ [c]:=by
 unfold cB
 rw [Az,h,Fe]
 show _ ++ [c].filter _=_
 rw [show [c].filter (λc=>decide (0 < n c))=[c] by simp [p]]
theorem aQO {n:Nat->Int} {i c:Nat} (h:flagsT.cps.toList[i]?=some c) (p:¬ 0 < n c):cB n (i + 1)=cB n i:=by
 unfold cB
 rw [Az,h,Fe]
 show _ ++ [c].filter _=_
 rw [show [c].filter (λc=>decide (0 < n c))=[] by simp; omega,List.append_nil]
theorem iS (n:Nat->Int) (i:Nat):(cB n i).length<=27:=by
 unfold cB
 exact Bb (List.length_filter_le ..) (by rw [Bo]; exact Bb (Nat.min_le_right ..) (by decide))
theorem aZ0 (n:Nat->Int) (i:Nat):(cB n i).Nodup:=(flags_nd.sublist (Ge ..)).filter _
def aJT (g:Nat->Int) (L:List Nat) (d:Nat):Option Int:=if d∈L then some (g d) else none
theorem bZZ (g:Nat->Int) {r:List Nat} {c:Nat} (hc:c ∉ r) (h:Lk (kvL g r) (aJT g r)):Lk (kvL g (r ++ [c])) (aJT g (r ++ [c])):=by
 have l:=h.put c (g c)
 rw [iF _ (xX hc)] at l
 have e:kvL g (r ++ [c])=kvL g r ++ [(Sum.inr (one c),V.int (g c))]:=by unfold kvL; rw [Al]; rfl
 rw [e]
 refine l.ext ?_
 funext d
 unfold aJT
 by_cases hd:d=c
 · subst hd
   rw [if_pos rfl,if_pos (Bk _ (Aw.mpr rfl))]
 · rw [if_neg hd]
   by_cases hr:d∈r
   · rw [if_pos hr,if_pos (Cm _ hr)]
   · rw [if_neg hr,if_neg (λz=>(Bi.mp z).elim hr λy=>hd (Aw.mp y))]
theorem aQ2 (g:Nat->Int):∀ (L r:List Nat),(r ++ L).Nodup->Lk (kvL g r) (aJT g r)->Lk (kvL g (r ++ L)) (aJT g (r ++ L))
 | [],r,_,h=>by rw [Bu]; exact h
 | c :: L,r,nd,h=>by
   have e:r ++ c :: L=(r ++ [c]) ++ L:=by rw [List.append_assoc]; rfl
   have hc:c ∉ r:=λz=>(Dk.mp nd).2.2 c z c Aq rfl
   rw [e] at nd ⊢
   exact aQ2 g L (r ++ [c]) nd (bZZ g hc h)
theorem dQ1 (g:Nat->Int) {L:List Nat} (nd:L.Nodup):Lk (kvL g L) (λd=>if d∈L then some (g d) else none):=by
 have r:=aQ2 g L [] nd (Lk.nil.ext (by funext d; unfold aJT; rw [if_neg (λz=>nomatch z)]))
 exact r
theorem gY (n:Nat->Int):Lk (kvL n (cB n 27)) (bO n):=by
 refine (dQ1 n (aZ0 n 27)).ext ?_
 funext d
 unfold bO
 have e:d∈cB n 27 ↔ lE d/\0 < n d:=by
   rw [plainL_mem,Bh (by decide),flags_mem]
 by_cases h:d∈cB n 27
 · rw [if_pos h,if_pos (e.mp h)]
 · rw [if_neg h,if_neg (λz=>h (e.mpr z))]
def dU:Sp:=λvs H Q _=>∃ (a:Addr) (kvs:List (Key × V)) (f:Nat->Option Int),vs=[.ref a]/\Rd H a (.dK kvs)/\Lk kvs f/\
 ∀ (r:Addr) (H':Hp),H r=none->Same H H'->H' r=some (.dK (kvL (aL f) (cB (aL f) 27)))->Q (.ref r) H'
theorem sc_plain_locker:FnScope ["locker", "plain", "flag"] ["locker"] (aG cU):=⟨rfl,rfl,rfl,by decide +kernel,rfl,by decide +kernel,by decide +kernel⟩
theorem oB {Zo Zz Zr Zx Zs Zp Zu Zw Zy Zt Zv Zq:Addr} {f:Addr} {fd:FuncData} (F:Fun K "plain_locker" "plain_locker" cU f fd) (G:Gs K mg Zo Zz Zr Zx Zs Zp Zu Zw Zy Zt Zv Zq)  : FnOk P w K mg base CX0 1 f fd ["locker"] dU:=by
 refine F.ok sc_plain_locker (λvs H Q E h=>?_) (λcdv A outer s H vs Q E hr h=>?_)
 · obtain ⟨a,kvs,f,rfl,_⟩:=h; rfl
 obtain ⟨a,kvs,f,rfl,ha,lk,q⟩:=h
 refine ⟨_,(@aF _ _ _ _ _ (@aP _ _ 1 _ _ _ _ sc_plain_locker.nd (by rfl) (by exact (Or.inl rfl)) qF (by rfl) (by first | exact Or.inl rfl | exact Or.inr rfl)) (@aF _ _ _ _ _ (bP Ba rfl (mR (kE rfl G.s_FLAGS)) (aQ (i:=2) sc_plain_locker.nd rfl (Or.inl rfl)) (@aI _ _ _ (cT (bC cXM (dP Bl Ce (nP (Room.u1 hr)) (mv 0) (aA (mv 2) (aA aJ aB))) aJ (bG _)) (@aI _ _ _ (dB (Room.u1 hr) (mv 1) (mv 2) (gI (Room.u1 hr) (mv 0) (mv 2) (λ_ _=>rfl)) rfl)) bS))) (@aI _ _ _ (aV (mv 1))))),?_⟩
 walk_at "go"
 intro p hp
 walk_at "go"
 refine aQJ (λi σ H'=>∃ (v:Option V),σ=[some (.ref a),some (.ref p),v]/\Same H H'/\H' p=some (.dK (kvL (aL f) (cB (aL f) i))))
   ⟨none,rfl,aE hp _,aD⟩ ?_ ?_
 · rintro i c σ H2 hc ⟨v,rfl,s2,hH⟩
   have hi:i < 27:=(Ae.mp hc).1
   have ha2:Rd H2 a (.dK kvs):=ha.elim (λe=>.inl (s2 _ _ e)) λ⟨o,e⟩=>.inr ⟨o,s2 _ _ e⟩
   have hd2:isD H2 a=true:=ha2.elim nI λ⟨o,e⟩=>bXR e
   have hpl:(kvL (aL f) (cB (aL f) i)).length < sizeLine:=aY (by unfold kvL; rw [Ab]; have:=iS (aL f) i; omega)
   walk_at "go"
   refine nW (z:=one c) ha2 ?_
   rw [lk.val c,gJ]
   walk_at "go"
   refine gD (λhd=>?_) (λhd=>?_)
   · have hd':=Bf hd
     obtain ⟨n,hn⟩:∃ n,f c=some n:=by
       cases e:f c with
       | none=>rw [show aL f c=0 by unfold aL; rw [e]; rfl] at hd'; omega
       | some n=>exact ⟨n,rfl⟩
     have hcn:aL f c=n:=by unfold aL; rw [hn]; rfl
     walk_at "go"
     refine pL (z:=one c) ha2 (by rw [lk.val c,hn]; rfl) ?_
     walk_at "go"
     refine eU (z:=one c) hH hpl ?_
     refine ⟨_,rfl,aW hp s2,?_⟩
     rw [aD,iF _ (xX (yP hc)),zD hc (by omega)]
     unfold kvL
     rw [Al,<-hcn]
     rfl
   · have hd':=Bx (Bt.mpr hd)
     walk_at "go"
     exact ⟨_,rfl,s2,by rw [hH,aQO hc (by omega)]⟩
 · rintro σ H2 ⟨v,rfl,s2,hH⟩
   walk_at "go"
   exact q p H2 hp s2 hH
def cnt (cs:List Nat) (c:Nat):Int:=((cs.countP (· == c):Nat):Int)
theorem jB {cs:List Nat} {i c:Nat} (h:cs[i]?=some c) (d:Nat):cnt (cs.take (i + 1)) d=cnt (cs.take i) d + if d=c then 1 else 0:=by
 unfold cnt
 rw [Az,h,Gc]
 show (((cs.take i).countP (· == d) + [c].countP (· == d):Nat):Int)=_
 by_cases e:d=c
 · subst e
   rw [if_pos rfl,List.countP_cons,List.countP_nil,if_pos (by simp)]
   push_cast
   rfl
 · rw [if_neg e,List.countP_cons,List.countP_nil,if_neg (by simp; exact λz=>e z.symm)]
   push_cast
   rfl
theorem dQ3 {cs:List Nat} {i c:Nat} (h:cs[i]?=some c):cnt (cs.take i) c + 1<=cnt cs c:=by
 have e:=jB h c
 rw [if_pos rfl] at e
 rw [<-e]
 unfold cnt
 have:(cs.take (i + 1)).countP (· == c)<=cs.countP (· == c):=List.Sublist.countP_le (Ge _ _)
 omega
theorem gB (cs:List Nat) (c:Nat):0<=cnt cs c:=by unfold cnt; omega
def uZ (f:Nat->Option Int) (cs:List Nat) (k:Nat):Prop:=∀ j d,j < k->cs[j]?=some d->cnt (cs.take j) d < aL f d
theorem rZ {f:Nat->Option Int} {cs:List Nat} (c:Nat) (h0:0<=aL f c):∀ {k:Nat},uZ f cs k->cnt (cs.take k) c<=aL f c
 | 0,_=>by rw [Ee]; exact h0
 | k + 1,h=>by
   have ih:=rZ c h0 (k:=k) λj d hj=>h j d (by omega)
   cases e:cs[k]? with
   | none=>rw [List.take_add_one,e]; simpa using ih
   | some d=>
     rw [jB e]
     have hd:=h k d (by omega) e
     by_cases z:c=d
     · subst z
       rw [if_pos rfl]
       omega
     · rw [if_neg z]
       omega
def vW (aC:Addr):Sp:=λvs H Q E=>∃ (a b:Addr) (kvs:List (Key × V)) (f:Nat->Option Int) (cs:List Nat),vs=[.ref a,.ref b]/\H a=some (.dK kvs)/\Lk kvs f/\(∀ c,0<=aL f c)/\rdL H b=some ((cs.map one).map V.str)/\cs.length<=1000/\(∀ c∈cs,lE c)/\
 (uZ f cs cs.length->∀ (r:Addr) (kws:List (Key × V)) (H':Hp),H r=none->Same H H'->H' r=some (.dK kws)->Lk kws (bO λc=>aL f c - cnt cs c)->Q (.ref r) H')/\
 (∀ i c,cs[i]?=some c->uZ f cs i->aL f c<=cnt (cs.take i) c->∀ (dx:Addr) (H':Hp),Same H H'->H' dx=some (xdO dx [("flag",.str (one c))])->E (.ref aC) (some dx) H')
theorem sc_taken:FnScope ["locker", "flags", "left", "flag"] ["locker", "flags"] (aG kB):=⟨rfl,rfl,rfl,by decide +kernel,rfl,by decide +kernel,by decide +kernel⟩
theorem bQQ {Zo Zz Zr Zx Zs Zp Zu Zw Zy Zt Zv Zq:Addr} {f:Addr} {fd:FuncData} (F:Fun K "taken" "taken" kB f fd) (G:Gs K mg Zo Zz Zr Zx Zs Zp Zu Zw Zy Zt Zv Zq) (c_plain_locker:Cal P w K mg base 1 "plain_locker" ["locker"] dU) (c_Short_init:aQA P w K mg base 1 Zr ["self", "flag"] (gU Zr)):FnOk P w K mg base (CXr P w) 3 f fd ["locker", "flags"] (vW Zr):=by
 refine F.okX sc_taken (λvs H Q E h=>?_) (λcdv A outer s H vs Q E hr h=>?_)
 · obtain ⟨a,b,kvs,f,cs,rfl,_⟩:=h; rfl
 obtain ⟨a,b,kvs,f,cs,rfl,ha,lk,hf0,hb,hcs,hfl,q,qe⟩:=h
 refine ⟨_,(@aF _ _ _ _ _ (@aP _ _ 2 _ _ _ _ sc_taken.nd (by rfl) (by exact (Or.inl rfl)) (aX c_plain_locker hr (by decide) rfl (aA (mv 0) aB)) (by rfl) (by first | exact Or.inl rfl | exact Or.inr rfl)) (@aF _ _ _ _ _ (bP PassesOwn.leaving rfl (bW (mv 1)) (aQ (i:=3) sc_taken.nd rfl (Or.inl rfl)) (@aF _ _ _ _ _ (cT (bC vA (dP Bl Ce (nP (Room.u1 hr)) (mv 2) (aA (mv 3) (aA aJ aB))) aJ (bG _)) (@aI _ _ _ (mV oK rfl rfl rfl G.c_Short G.xm_Short c_Short_init hr (by decide) (aA (mv 3) aB))) bS) (@aI _ _ _ (dB (Room.u1 hr) (mv 2) (mv 3) (aT jE (gI (Room.u1 hr) (mv 2) (mv 3) (λ_ _=>rfl)) aJ) rfl)))) (@aI _ _ _ (aV (aX c_plain_locker hr (by decide) rfl (aA (mv 2) aB)))))),?_⟩
 walk_at "go"
 refine ⟨a,kvs,f,rfl,.inl ha,lk,λp H1 hp s1 hp1=>?_⟩
 have lw:Lk (kvL (aL f) (cB (aL f) 27)) _:=gY (aL f)
 have hwl:(kvL (aL f) (cB (aL f) 27)).length<=27:=by unfold kvL; rw [Ab]; exact iS _ _
 generalize kvL (aL f) (cB (aL f) 27)=kws at hp1 lw hwl
 have hb1:=aH s1 hb
 walk_at "go"
 refine cN (xs:=(cs.map one).map V.str) (λi σ H'=>∃ (kvs':List (Key × V)) (g:Nat->Option Int) (v:Option V),σ=[some (.ref a),some (.ref b),some (.ref p),v]/\Same H H'/\H' p=some (.dK kvs')/\Lk kvs' g/\(∀ c,aL g c=aL (bO (aL f)) c - cnt (cs.take i) c)/\kvs'.length<=27 + i/\uZ f cs i)
   ⟨kws,_,_,rfl,s1,hp1,lw,λc=>by rw [Ee]; show _=_ - ((0:Nat):Int); omega,by omega,λj d hj=>by omega⟩ (λi σ H' _ ⟨_,_,_,_,e,_⟩=>aH e hb) ?_ ?_
 · rintro i x σ H2 hx ⟨kvs',g,v,rfl,s2,hH,lg,hg,hl,hen⟩
   have hi:i < cs.length:=by have:=(Ae.mp hx).1; rw [Ab,Ab] at this; exact this
   obtain ⟨c,hc⟩:∃ c,cs[i]?=some c:=⟨_,Aa hi⟩
   obtain rfl:x=V.str (one c):=by rw [Ag,Ag,hc] at hx; cases hx; rfl
   have hpl:kvs'.length < sizeLine:=aY (by omega)
   have hfc:=hfl c (Ak hc)
   have hgc:=hg c
   rw [fR hfc (hf0 c)] at hgc
   have hle:=rZ c (hf0 c) hen
   walk_at "go"
   refine nW (z:=one c) (.inl hH) ?_
   rw [lg.val c,gJ]
   walk_at "go"
   refine gD (λhd=>?_) (λhd=>?_)
   · have hd':=Bf hd
     walk_at "go"
     refine ⟨by show 1<=sizeLine; decide,λea hea=>⟨ea,_,rfl,aD,λdx hdx=>⟨rfl,some dx,(bZQ hdx).1,?_⟩⟩⟩
     exact qe i c hc hen (by omega) dx _ (bJU s2 hea hdx) (bZQ hdx).2
   · have hd':=Bx (Bt.mpr hd)
     obtain ⟨n,hn⟩:∃ n,g c=some n:=by
       cases e:g c with
       | none=>exact absurd (show aL g c=0 by unfold aL; rw [e]; rfl) hd'
       | some n=>exact ⟨n,rfl⟩
     have hcn:aL g c=n:=by unfold aL; rw [hn]; rfl
     walk_at "go"
     refine pL (z:=one c) (.inl hH) (by rw [lg.val c,hn]; rfl) ?_
     walk_at "go"
     refine eU (z:=one c) hH hpl ?_
     refine ⟨_,_,_,rfl,aW hp s2,aD,lg.put c (n - 1),λd=>?_,by have:=cO kvs' (Sum.inr (one c)) (.int (n - 1)); omega,λj d hj hjd=>?_⟩
     · rw [jB hc]
       have:=hg d
       by_cases e:d=c
       · subst e
         show ((if d=d then some (n - 1) else g d):Option Int).getD 0=_
         rw [if_pos rfl,if_pos rfl]
         show n - 1=_
         omega
       · show ((if d=c then some (n - 1) else g d):Option Int).getD 0=_
         rw [if_neg e,if_neg e]
         show aL g d=_
         omega
     · by_cases e:j=i
       · subst e
         rw [hc] at hjd
         cases hjd
         omega
       · exact hen j d (by omega) hjd
 · rintro σ H2 ⟨kvs',g,v,rfl,s2,hH,lg,hg,hl,hen⟩
   have ecs:((cs.map one).map V.str).length=cs.length:=by rw [Ab,Ab]
   rw [ecs] at hg hl hen
   walk_at "go"
   refine ⟨p,kvs',g,rfl,.inl hH,lg,λr H3 hr s3 hr3=>?_⟩
   have l3:Lk (kvL (aL g) (cB (aL g) 27)) _:=gY (aL g)
   generalize kvL (aL g) (cB (aL g) 27)=kws' at hr3 l3
   refine q hen r kws' H3 (none_of s2 hr) (s2.trans s3) hr3 (l3.ext (mF λc hc=>?_))
   rw [hg c,fR hc (hf0 c),Bh (Ah _)]
def mQ:Sp:=λvs H Q _=>∃ (a b:Addr) (kvs:List (Key × V)) (f:Nat->Option Int) (cs:List Nat),vs=[.ref a,.ref b]/\H a=some (.dK kvs)/\Lk kvs f/\(∀ c,0<=aL f c)/\rdL H b=some ((cs.map one).map V.str)/\cs.length<=1000/\
 ∀ (r:Addr) (kws:List (Key × V)) (H':Hp),H r=none->Same H H'->H' r=some (.dK kws)->Lk kws (bO λc=>aL f c + cnt cs c)->Q (.ref r) H'
theorem sc_put_in:FnScope ["locker", "flags", "more", "flag"] ["locker", "flags"] (aG iE):=⟨rfl,rfl,rfl,by decide +kernel,rfl,by decide +kernel,by decide +kernel⟩
theorem aZH {Zo Zz Zr Zx Zs Zp Zu Zw Zy Zt Zv Zq:Addr} {f:Addr} {fd:FuncData} (F:Fun K "put_in" "put_in" iE f fd) (G:Gs K mg Zo Zz Zr Zx Zs Zp Zu Zw Zy Zt Zv Zq) (c_plain_locker:Cal P w K mg base 1 "plain_locker" ["locker"] dU):FnOk P w K mg base CX0 2 f fd ["locker", "flags"] mQ:=by
 refine F.ok sc_put_in (λvs H Q E h=>?_) (λcdv A outer s H vs Q E hr h=>?_)
 · obtain ⟨a,b,kvs,f,cs,rfl,_⟩:=h; rfl
 obtain ⟨a,b,kvs,f,cs,rfl,ha,lk,hf0,hb,hcs,q⟩:=h
 refine ⟨_,(@aF _ _ _ _ _ (@aP _ _ 2 _ _ _ _ sc_put_in.nd (by rfl) (by exact (Or.inl rfl)) (aX c_plain_locker hr (by decide) rfl (aA (mv 0) aB)) (by rfl) (by first | exact Or.inl rfl | exact Or.inr rfl)) (@aF _ _ _ _ _ (bP Ba rfl (bW (mv 1)) (aQ (i:=3) sc_put_in.nd rfl (Or.inl rfl)) (@aI _ _ _ (dB (Room.u1 hr) (mv 2) (mv 3) (aT bZ (dP Bl Ce (nP (Room.u1 hr)) (mv 2) (aA (mv 3) (aA aJ aB))) aJ) rfl))) (@aI _ _ _ (aV (aX c_plain_locker hr (by decide) rfl (aA (mv 2) aB)))))),?_⟩
 walk_at "go"
 refine ⟨a,kvs,f,rfl,.inl ha,lk,λp H1 hp s1 hp1=>?_⟩
 have lw:Lk (kvL (aL f) (cB (aL f) 27)) _:=gY (aL f)
 have hwl:(kvL (aL f) (cB (aL f) 27)).length<=27:=by unfold kvL; rw [Ab]; exact iS _ _
 generalize kvL (aL f) (cB (aL f) 27)=kws at hp1 lw hwl
 have hb1:=aH s1 hb
 walk_at "go"
 refine cN (xs:=(cs.map one).map V.str) (λi σ H'=>∃ (kvs':List (Key × V)) (g:Nat->Option Int) (v:Option V),σ=[some (.ref a),some (.ref b),some (.ref p),v]/\Same H H'/\H' p=some (.dK kvs')/\Lk kvs' g/\(∀ c,aL g c=aL (bO (aL f)) c + cnt (cs.take i) c)/\kvs'.length<=27 + i)
   ⟨kws,_,_,rfl,s1,hp1,lw,λc=>by rw [Ee]; show _=_ + ((0:Nat):Int); omega,by omega⟩ (λi σ H' _ ⟨_,_,_,_,e,_⟩=>aH e hb) ?_ ?_
 · rintro i x σ H2 hx ⟨kvs',g,v,rfl,s2,hH,lg,hg,hl⟩
   have hi:i < cs.length:=by have:=(Ae.mp hx).1; rw [Ab,Ab] at this; exact this
   obtain ⟨c,hc⟩:∃ c,cs[i]?=some c:=⟨_,Aa hi⟩
   obtain rfl:x=V.str (one c):=by rw [Ag,Ag,hc] at hx; cases hx; rfl
   have hpl:kvs'.length < sizeLine:=aY (by omega)
   walk_at "go"
   refine nW (z:=one c) (.inl hH) ?_
   rw [lg.val c,gJ]
   walk_at "go"
   refine eU (z:=one c) hH hpl ?_
   refine ⟨_,_,_,rfl,aW hp s2,aD,lg.put c (aL g c + 1),λd=>?_,by have:=cO kvs' (Sum.inr (one c)) (.int (aL g c + 1)); omega⟩
   rw [jB hc]
   have:=hg d
   by_cases e:d=c
   · subst e
     show ((if d=d then some (aL g d + 1) else g d):Option Int).getD 0=_
     rw [if_pos rfl,if_pos rfl]
     show aL g d + 1=_
     omega
   · show ((if d=c then some (aL g c + 1) else g d):Option Int).getD 0=_
     rw [if_neg e,if_neg e]
     show aL g d=_
     omega
 · rintro σ H2 ⟨kvs',g,v,rfl,s2,hH,lg,hg,hl⟩
   walk_at "go"
   refine ⟨p,kvs',g,rfl,.inl hH,lg,λr H3 hr s3 hr3=>?_⟩
   refine q r _ H3 (none_of s2 hr) (s2.trans s3) hr3 ((gY (aL g)).ext (mF λc hc=>?_))
   rw [hg c,fR hc (hf0 c),Bh (by rw [Ab,Ab]; exact Ah _)]
def kO:Sp:=λvs H Q _=>∃ (cw:List Nat) (k:Nat) (p:Int),vs=[.str (aZ cw),.int p]/\p=(k:Int) + 1/\k < cw.length/\cw.length<=7/\
 ∀ (r:Addr) (H':Hp),H r=none->Same H H'->H' r=some (.lst (((chs cw k).map one).map V.str))->Q (.ref r) H'
theorem cQB {β:Type} (G:Nat->Option β) (k:Nat):[0,1,2,3].filterMap (λn=>if n < k then G n else none)=(List.range (min k 4)).filterMap G:=by
 match k with
 | 0=>rfl
 | 1=>rfl
 | 2=>rfl
 | 3=>rfl
 | k + 4=>
   rw [Gm (by omega)]
   exact lS λn hn=>if_pos (by simp only [List.mem_cons,List.not_mem_nil,or_false] at hn; omega)
def atF (cw:List Nat) (k:Nat) (c:Nat):Option V:=if c - 49 < k then (if cw.getD (c - 49) 0=cw.getD k 0 then some (.str (one c)) else none) else none
theorem dZ0 (cw:List Nat) (k:Nat):subsT.cps.toList.filterMap (atF cw k)=(((List.range (min k 4)).filterMap (chF cw k)).map one).map V.str:=by
 rw [aQD,show [49,50,51,52]=[0,1,2,3].map (49 + ·) from rfl,List.filterMap_map,Cw,List.map_filterMap,<-cQB]
 refine lS λn _=>?_
 show atF cw k (49 + n)=_
 unfold atF chF
 rw [show 49 + n - 49=n by omega]
 by_cases h1:n < k
 · rw [if_pos h1,if_pos h1]
   by_cases h2:cw.getD n 0=cw.getD k 0
   · rw [if_pos h2,if_pos h2]; rfl
   · rw [if_neg h2,if_neg h2]; rfl
 · rw [if_neg h1,if_neg h1]
theorem sc_choices_at:FnScope ["word", "place", "letter", "above"] ["word", "place"] (aG cZ):=⟨rfl,rfl,rfl,by decide +kernel,rfl,by decide +kernel,by decide +kernel⟩
theorem rG {Zo Zz Zr Zx Zs Zp Zu Zw Zy Zt Zv Zq:Addr} {f:Addr} {fd:FuncData} (F:Fun K "choices_at" "choices_at" cZ f fd) (G:Gs K mg Zo Zz Zr Zx Zs Zp Zu Zw Zy Zt Zv Zq)  : FnOk P w K mg base CX0 1 f fd ["word", "place"] kO:=by
 refine F.ok sc_choices_at (λvs H Q E h=>?_) (λcdv A outer s H vs Q E hr h=>?_)
 · obtain ⟨cw,k,p,rfl,_⟩:=h; rfl
 obtain ⟨cw,k,pl,rfl,hpl,hk,h7,q⟩:=h
 refine ⟨_,(@aF _ _ _ _ _ (@aP _ _ 2 _ _ _ _ sc_choices_at.nd (by rfl) (by exact (Or.inr rfl)) (bH cC (mv 0) (aT jE (mv 1) aJ) (λ_ _=>rfl)) (by rfl) (by first | exact Or.inl rfl | exact Or.inr rfl)) (@aF _ _ _ _ _ (oO (i:=3) sc_choices_at.nd rfl (Or.inl rfl) rfl (mR (kE rfl G.s_SUBSTITUTES)) (fZ (N:=["sign", "place", "letter", "word"]) ["word", "place", "letter", "above"] (aG cZ) [none,some 1,some 2,some 0] rfl rfl rfl (λx h=>cA h) (by decide +kernel)) (by decide +kernel) rfl (by decide +kernel) (λC s₀ H₀ ex=>(aQ (i:=0) (show List.Nodup (["sign", "place", "letter", "word"]:List Str) by decide +kernel) rfl (Or.inl rfl))) (λC s₀ H₀ ex=>(jK (PW.pt (tY (bC bJT (bM aX3 rfl G.b_int uL (aA (mv 0) aB)) (mv 1) (bG _)) (oQ (bC vA (bH cC (mv 3) (aT jE (bM aX3 rfl G.b_int uL (aA (mv 0) aB)) aJ) (λ_ _=>rfl)) (mv 2) (bG _))))))) (λC s₀ H₀ ex=>(mv 0))) (@aI _ _ _ (aV (aT bZ (bE (aA (mv 2) aB)) (mv 3)))))),?_⟩
 have hwl:(aZ cw).length=cw.length:=eT cw
 walk_at "go"
 refine jA (by rw [hwl]; exact bQ (by omega)) (mC (k:=k) (by omega) hk) ?_
 walk_at "go"
 refine dXF (atF cw k) (aY (by decide)) (λi c Hc A B hc' hA=>?_) (λD hD=>?_)
 · have hs:dF c:=mem_subs.mp (Ak hc')
   have h49:49<=c:=hs.1
   walk_at "go"
   refine ⟨Wk.set rfl (Wk.refl _),?_⟩
   walk_at "go"
   refine uY (oN hs) (by show 1<=640; decide) ?_
   walk_at "go"
   unfold atF at hA
   refine gD (λhd=>?_) (λhd=>?_)
   · have hd':=Bf hd
     have hck:c - 49 < k:=by omega
     rw [if_pos hck] at hA
     walk_at "go"
     refine uY (oN hs) (by show 1<=640; decide) ?_
     walk_at "go"
     refine jA (by rw [hwl]; exact bQ (by omega)) (mC (k:=c - 49) (by omega) (by omega)) ?_
     walk_at "go"
     rw [show decide (({ cps:=#[cw.getD (c - 49) 0] }:Str)={ cps:=#[cw.getD k 0] })=decide (cw.getD (c - 49) 0=cw.getD k 0) from uX _ _]
     by_cases he:cw.getD (c - 49) 0=cw.getD k 0
     · rw [Ap he]
       rw [if_pos he] at hA
       walk_at "go"
       exact hA
     · rw [Au he]
       rw [if_neg he] at hA
       walk_at "go"
       exact hA
   · have hd':=Bx (Bt.mpr hd)
     have hck:¬ c - 49 < k:=by omega
     rw [if_neg hck] at hA
     walk_at "go"
     exact hA
 · rw [show (Str.ofString "1234").cps.toList.filterMap (atF cw k)=_ from dZ0 cw k]
   walk_at "go"
   refine ⟨by show 1<=sizeLine; decide,λp hp=>?_⟩
   have hDp:D≠p:=λz=>by rw [z,aD] at hp; cases hp
   have hp0:H p=none:=by rw [aK (Ne.symm hDp)] at hp; exact hp
   have hlen:((((List.range (min k 4)).filterMap (chF cw k)).map one).map V.str).length<=4:=by
     have:=Da (chF cw k) (List.range (min k 4))
     rw [Cg] at this
     rw [Ab,Ab]
     omega
   walk_at "go"
   refine lB (xs:=[V.str (one (cw.getD k 0))]) (ys:=(((List.range (min k 4)).filterMap (chF cw k)).map one).map V.str) mZ (by rw [cXR hDp]; exact mZ) (bQ (by show 1 + _<=_; omega)) λr hr=>?_
   have hr0:H r=none:=by
     by_cases z:r=p
     · rw [z]; exact hp0
     · rw [aK z] at hr
       by_cases z2:r=D
       · rw [z2]; exact hD
       · rw [aK z2] at hr; exact hr
   walk_at "go"
   exact q r _ hr0 ((aE hD _).trans ((aE hp _).trans (aE hr _))) aD
def zZ (cws:List (List Nat)) (k:Nat):List (List V):=(List.range (cws.getD k []).length).map λj:Nat=>[V.int (k:Int),V.int (1 + (j:Int))]
def lD (cws:List (List Nat)) (i:Nat):List (List V):=((List.range i).map (zZ cws)).flatten
theorem jJ (cws:List (List Nat)) (i:Nat):lD cws (i + 1)=lD cws i ++ zZ cws i:=by
 unfold lD
 rw [Cf,Al,List.flatten_append]
 simp
theorem bXT {cws:List (List Nat)} {k:Nat} (h7:∀ c∈cws,c.length<=7):(zZ cws k).length<=7:=by
 unfold zZ
 rw [Ab,Cg,Ad]
 cases e:cws[k]? with
 | none=>exact Ci _
 | some c=>exact h7 c (Ak e)
theorem lC {cws:List (List Nat)} (h7:∀ c∈cws,c.length<=7):∀ i,(lD cws i).length<=7 * i
 | 0=>Ah _
 | i + 1=>by
   rw [jJ,Aj]
   have:=lC h7 i
   have:=bXT (k:=i) h7
   omega
theorem pP {cws:List (List Nat)} {i:Nat} {x:V} (h:((cws.map aZ).map V.str)[i]?=some x):∃ c,cws[i]?=some c/\c∈cws/\x=.str (aZ c):=by
 rw [Ag,Ag] at h
 cases e:cws[i]? with
 | none=>rw [e] at h; cases h
 | some c=>rw [e] at h; cases h; exact ⟨c,rfl,Ak e,rfl⟩
theorem aZ3 {xs:List V} (h:xs.all bX=true):kN xs xs=true:=by
 rw [mX rfl,Dn]
 intro j hj
 exact jM (iI h j)
def nQ:Sp:=λvs H Q _=>∃ (a:Addr) (cws:List (List Nat)),vs=[.ref a]/\rdL H a=some ((cws.map aZ).map V.str)/\cws.length<=8/\(∀ c∈cws,c.length<=7)/\
 ∀ (r:Addr) (ps:List Addr) (H':Hp),H r=none->Same H H'->H' r=some (.lst (ps.map V.ref))->Tups H H' ps (lD cws cws.length)->Q (.ref r) H'
theorem sc_wants_of:FnScope ["words", "wants", "number", "word"] ["words"] (aG dW):=⟨rfl,rfl,rfl,by decide +kernel,rfl,by decide +kernel,by decide +kernel⟩
theorem vO {Zo Zz Zr Zx Zs Zp Zu Zw Zy Zt Zv Zq:Addr} {f:Addr} {fd:FuncData} (F:Fun K "wants_of" "wants_of" dW f fd) (G:Gs K mg Zo Zz Zr Zx Zs Zp Zu Zw Zy Zt Zv Zq)  : FnOk P w K mg base CX0 1 f fd ["words"] nQ:=by
 refine F.ok sc_wants_of (λvs H Q E h=>?_) (λcdv A outer s H vs Q E hr h=>?_)
 · obtain ⟨a,cws,rfl,_⟩:=h; rfl
 obtain ⟨a,cws,rfl,ha,h8,h7,q⟩:=h
 refine ⟨_,(@aF _ _ _ _ _ (@aP _ _ 1 _ _ _ _ sc_wants_of.nd (by rfl) (by exact (Or.inl rfl)) (bE aB) (by rfl) (by first | exact Or.inl rfl | exact Or.inr rfl)) (@aF _ _ _ _ _ (bP Ba rfl (tM rfl G.b_enumerate (aA (mv 0) aB)) (kI (K:=K) (i:=2) (j:=3) (by rfl) (by rfl) sc_wants_of.nd (by rfl) (by exact (Or.inr rfl)) (by exact Or.inl rfl) (by rfl) (by exact (Or.inl rfl)) (by exact Or.inl rfl)) (@aI _ _ _ (cK (dD Bq Dr Ds vM (mv 1) (aA (dC rfl (sG rfl G.b_range (aA aJ (aA (aT bZ (bA gQ rfl G.b_len dE (aA (mv 3) aB)) aJ) aB))) (fZ (N:=["place", "number"]) ["words", "wants", "number", "word"] (aG dW) [none,some 2] rfl rfl rfl (λx h=>cA h) (by decide +kernel)) (by decide +kernel) rfl (by decide +kernel) (λC s₀ H₀ ex=>(aQ (i:=0) (show List.Nodup (["place", "number"]:List Str) by decide +kernel) rfl (Or.inl rfl))) (λC s₀ H₀ ex=>gS) (λC s₀ H₀ ex=>(jN (aA (mv 1) (aA (mv 0) aB))))) aB))))) (@aI _ _ _ (aV (mv 1))))),?_⟩
 walk_at "go"
 refine ⟨by decide,λp hp=>?_⟩
 have ha1:=aH (aE hp (HO.lst [])) ha
 walk_at "go"
 refine aQ4 (xs:=(cws.map aZ).map V.str) (λi σ H'=>∃ (ps:List Addr) (v1 v2:Option V),σ=[some (.ref a),some (.ref p),v1,v2]/\Same H H'/\H' p=some (.lst (ps.map V.ref))/\Tups H H' ps (lD cws i))
   ⟨[],_,_,rfl,aE hp _,aD,.nil⟩ (λj σ H' _ ⟨_,_,_,_,e,_⟩=>aH e ha) ?_ ?_
 · rintro i x σ H2 pt hx ⟨ps,v1,v2,rfl,s2,hH,tp⟩ hpt
   have hi:i < cws.length:=by have:=(Ae.mp hx).1; rw [Ab,Ab] at this; exact this
   obtain ⟨cw,hcw,hm,rfl⟩:=pP hx
   have hc7:=h7 cw hm
   have hwl:(aZ cw).length=cw.length:=eT cw
   walk_at "go"
   rw [hwl]
   refine ⟨⟨by omega,by omega,by omega,by omega⟩,?_⟩
   rw [show ((cw.length:Int) + 1 - 1).toNat=cw.length by omega]
   have s3:=s2.trans (aE hpt (HO.tup [V.int ((0 + i:Nat):Int),V.str (aZ cw)]))
   have hH3:=aE hpt (HO.tup [V.int ((0 + i:Nat):Int),V.str (aZ cw)]) _ _ hH
   have tp3:=tp.keep (aE hpt (HO.tup [V.int ((0 + i:Nat):Int),V.str (aZ cw)]))
   generalize upd H2 pt (HO.tup [V.int ((0 + i:Nat):Int),V.str (aZ cw)])=H3 at s3 hH3 tp3 ⊢
   refine bQI (λj=>[V.int ((0 + i:Nat):Int),V.int (1 + (j:Int))]) (aY (by omega)) (λj Hc A B hj hs hA=>?_) (λD Hd qs hD sD hDd hqn tq=>?_)
   · walk_at "go"
     refine ⟨Wk.set rfl (Wk.refl _),?_⟩
     walk_at "go"
     exact ⟨by show 2<=sizeLine; decide,λpp hpp=>hA pp _ hpp (aE hpp _) aD⟩
   · have hpd:=sD _ _ hH3
     have hpl:ps.length<=7 * i:=by rw [tp.1]; exact lC h7 i
     have e:(List.range cw.length).map (λj:Nat=>[V.int ((0 + i:Nat):Int),V.int (1 + (j:Int))])=zZ cws i:=by
       unfold zZ
       rw [Ad,hcw,Nat.zero_add]
       rfl
     rw [e] at tq
     walk_at "go"
     refine ⟨ps ++ qs,_,_,rfl,aW hp (s3.trans sD),by rw [aD,Al],?_⟩
     rw [jJ]
     exact ((tp3.keep sD).app (tq.older s3)).put hpd
 · rintro σ H2 ⟨ps,v1,v2,rfl,s2,hH,tp⟩
   walk_at "go"
   rw [show ((cws.map aZ).map V.str).length=cws.length by rw [Ab,Ab]] at tp
   exact q p ps H2 hp s2 hH tp
def fN (cws:List (List Nat)) (i:Nat):Nat:=((cws.take i).map List.length).sum
def lJ (cws:List (List Nat)) (cs:List Nat) (i:Nat):List V:=(((cs.drop (fN cws i)).take (cws.getD i []).length).map one).map V.str
theorem sR {cws:List (List Nat)} {i:Nat} {cw:List Nat} (h:cws[i]?=some cw):fN cws (i + 1)=fN cws i + cw.length:=by
 unfold fN
 rw [Az,h,Al,List.sum_append]
 simp
theorem cQI {xs:List V} {i j:Nat} (hj:i<=j):rE xs (some (i:Int)) (some (j:Int))=(xs.drop i).take (j - i):=by
 unfold rE
 show (xs.drop (if (i:Int) < 0 then ((i:Int) + (xs.length:Int)).toNat else min (i:Int).toNat xs.length)).take ((if (j:Int) < 0 then ((j:Int) + (xs.length:Int)).toNat else min (j:Int).toNat xs.length) - (if (i:Int) < 0 then ((i:Int) + (xs.length:Int)).toNat else min (i:Int).toNat xs.length))=_
 rw [if_neg (by omega),if_neg (by omega),Fl,Fl]
 by_cases h1:i<=xs.length
 · rw [Nat.min_eq_left h1]
   by_cases h2:j<=xs.length
   · rw [Nat.min_eq_left h2]
   · rw [Gm (by omega),Bh (by rw [Co]; omega),Bh (by rw [Co]; omega)]
 · rw [Gm (show xs.length<=i by omega),List.drop_of_length_le (Ah _),List.drop_of_length_le (by omega),List.take_nil,List.take_nil]
def lV:Sp:=λvs H Q _=>∃ (a b:Addr) (cws:List (List Nat)) (cs:List Nat),vs=[.ref a,.ref b]/\rdL H a=some ((cws.map aZ).map V.str)/\rdL H b=some ((cs.map one).map V.str)/\cws.length<=8/\(∀ c∈cws,c.length<=7)/\
 ∀ (r:Addr) (ps:List Addr) (H':Hp),H r=none->Same H H'->H' r=some (.lst (ps.map V.ref))->(∀ p∈ps,p≠r)->Lsts H H' ps ((List.range cws.length).map (lJ cws cs))->Q (.ref r) H'
theorem sc_hoists_of:FnScope ["words", "flags", "hoists", "start", "word", "end"] ["words", "flags"] (aG eI):=⟨rfl,rfl,rfl,by decide +kernel,rfl,by decide +kernel,by decide +kernel⟩
theorem uV {Zo Zz Zr Zx Zs Zp Zu Zw Zy Zt Zv Zq:Addr} {f:Addr} {fd:FuncData} (F:Fun K "hoists_of" "hoists_of" eI f fd) (G:Gs K mg Zo Zz Zr Zx Zs Zp Zu Zw Zy Zt Zv Zq)  : FnOk P w K mg base CX0 1 f fd ["words", "flags"] lV:=by
 refine F.ok sc_hoists_of (λvs H Q E h=>?_) (λcdv A outer s H vs Q E hr h=>?_)
 · obtain ⟨a,b,cws,cs,rfl,_⟩:=h; rfl
 obtain ⟨a,b,cws,cs,rfl,ha,hb,h8,h7,q⟩:=h
 refine ⟨_,(@aF _ _ _ _ _ (@aP _ _ 2 _ _ _ _ sc_hoists_of.nd (by rfl) (by exact (Or.inl rfl)) (bE aB) (by rfl) (by first | exact Or.inl rfl | exact Or.inr rfl)) (@aF _ _ _ _ _ (@aP _ _ 3 _ _ _ _ sc_hoists_of.nd (by rfl) (by exact (Or.inl rfl)) aJ (by rfl) (by first | exact Or.inl rfl | exact Or.inr rfl)) (@aF _ _ _ _ _ (bP Ba rfl (bW (mv 0)) (aQ (i:=4) sc_hoists_of.nd rfl (Or.inl rfl)) (@aF _ _ _ _ _ (@aP _ _ 5 _ _ _ _ sc_hoists_of.nd (by rfl) (by exact (Or.inl rfl)) (aT bZ (mv 3) (bA gQ rfl G.b_len dE (aA (mv 4) aB))) (by rfl) (by first | exact Or.inl rfl | exact Or.inr rfl)) (@aF _ _ _ _ _ (cK (dD Bq Cp Cq qN (mv 2) (aA (bM lG rfl G.b_list fI (aA (vS dZK (mv 1) (uC (mv 3)) (uC (mv 5))) aB)) aB))) (@aI _ _ _ (@aP _ _ 3 _ _ _ _ sc_hoists_of.nd (by rfl) (by exact (Or.inl rfl)) (mv 5) (by rfl) (by first | exact Or.inl rfl | exact Or.inr rfl)))))) (@aI _ _ _ (aV (mv 2)))))),?_⟩
 have hll:((cws.map aZ).map V.str).length=cws.length:=by rw [Ab,Ab]
 walk_at "go"
 refine ⟨by decide,λp hp=>?_⟩
 have ha1:=aH (aE hp (HO.lst [])) ha
 walk_at "go"
 refine cN (xs:=(cws.map aZ).map V.str) (λi σ H'=>∃ (ps:List Addr) (v4 v5:Option V),σ=[some (.ref a),some (.ref b),some (.ref p),some (.int ((fN cws i:Nat):Int)),v4,v5]/\Same H H'/\H' p=some (.lst (ps.map V.ref))/\(∀ x∈ps,x≠p)/\ps.length=i/\Lsts H H' ps ((List.range i).map (lJ cws cs)))
   ⟨[],_,_,rfl,aE hp _,aD,(λx hx=>nomatch hx),rfl,.nil⟩ (λj σ H' _ ⟨_,_,_,_,e,_⟩=>aH e ha) ?_ ?_
 · rintro i x σ H2 hx ⟨ps,v4,v5,rfl,s2,hH,hne,hpl,tp⟩
   have hi:i < cws.length:=by have:=(Ae.mp hx).1; rw [hll] at this; exact this
   obtain ⟨cw,hcw,hm,rfl⟩:=pP hx
   have hc7:=h7 cw hm
   have hwl:(aZ cw).length=cw.length:=eT cw
   have hb2:=aH s2 hb
   walk_at "go"
   rw [hwl]
   intro r1 hr1
   rw [show ((fN cws i:Nat):Int) + ((cw.length:Nat):Int)=((fN cws i + cw.length:Nat):Int) by push_cast; rfl,cQI (by omega),show fN cws i + cw.length - fN cws i=cw.length by omega]
   have hrow_e:(((cs.map one).map V.str).drop (fN cws i)).take cw.length=lJ cws cs i:=by
     unfold lJ
     rw [Ad,hcw,List.map_take,List.map_take,List.map_drop,List.map_drop]
     rfl
   rw [hrow_e]
   walk_at "go"
   intro r2 hr2
   have hp1:r2≠p:=λz=>by
     have:=aE hr1 (HO.lst (lJ cws cs i)) _ _ hH
     rw [<-z,hr2] at this
     cases this
   have s3:Same H2 (upd (upd H2 r1 (HO.lst (lJ cws cs i))) r2 (HO.lst (lJ cws cs i))):=(aE hr1 _).trans (aE hr2 _)
   have hr3:(upd (upd H2 r1 (HO.lst (lJ cws cs i))) r2 (HO.lst (lJ cws cs i))) r2=some (.lst (lJ cws cs i)):=aD
   have hr20:H2 r2=none:=none_of (aE hr1 _) hr2
   generalize upd (upd H2 r1 (HO.lst (lJ cws cs i))) r2 (HO.lst (lJ cws cs i))=H3 at s3 hr3 ⊢
   have hH3:=s3 _ _ hH
   have hm3:=bI hH3
   walk_at "go"
   have hne2:∀ x∈ps ++ [r2],x≠p:=λx hx=>by
     rcases Bi.mp hx with e | e
     · exact hne x e
     · rw [Aw.mp e]; exact hp1
   refine ⟨ps ++ [r2],some (.str (aZ cw)),some (.int ((fN cws i + cw.length:Nat):Int)),?_,aW hp (s2.trans s3),by rw [aD,Al]; rfl,hne2,by rw [Aj,hpl]; rfl,?_⟩
   · rw [sR hcw]
     rfl
   · rw [Cf,Al]
     exact ((tp.keep s3).snoc (none_of s2 hr20) hr3).put hne2
 · rintro σ H2 ⟨ps,v4,v5,rfl,s2,hH,hne,hpl,tp⟩
   walk_at "go"
   rw [hll] at tp
   exact q p ps H2 hp s2 hH hne tp
theorem zT:FnScope ["text"] ["text"] (aG fT):=⟨rfl,rfl,rfl,by decide +kernel,rfl,by decide +kernel,by decide +kernel⟩
theorem yL {Zo Zz Zr Zx Zs Zp Zu Zw Zy Zt Zv Zq:Addr} {f:Addr} {fd:FuncData} (F:Fun K "is_flag" "is_flag" fT f fd) (G:Gs K mg Zo Zz Zr Zx Zs Zp Zu Zw Zy Zt Zv Zq)  : FnOk P w K mg base CX0 1 f fd ["text"] pU:=by
 refine F.ok zT (λvs H Q E h=>?_) (λcdv A outer s H vs Q E hr h=>?_)
 · obtain ⟨z,rfl,_⟩:=h; rfl
 obtain ⟨z,rfl,hl,q⟩:=h
 refine ⟨_,(@aI _ _ _ (aV (bXB (gK vA (bA gQ rfl G.b_len dE (aA (mv 0) aB)) aJ (bG _)) (aQH (gK aQY (mv 0) (kE rfl G.s_FLAGS) (by rfl)))))),?_⟩
 walk_at "go"
 refine gD (λhc=>?_) (λhc=>?_)
 · have e:iN z=subIn z flagsT:=if_pos (by have:=Bf hc; omega)
   rw [e] at q
   walk_at "go"
   exact q
 · have e:iN z=false:=nU (by have:=Bx (Bt.mpr hc); omega)
   rw [e] at q
   exact q
theorem tX:FnScope ["text", "place"] ["text", "place"] (aG eG):=⟨rfl,rfl,rfl,by decide +kernel,rfl,by decide +kernel,by decide +kernel⟩
theorem uP {Zo Zz Zr Zx Zs Zp Zu Zw Zy Zt Zv Zq:Addr} {f:Addr} {fd:FuncData} (F:Fun K "may_stand" "may_stand" eG f fd) (G:Gs K mg Zo Zz Zr Zx Zs Zp Zu Zw Zy Zt Zv Zq) (c_is_flag:Cal P w K mg base 1 "is_flag" ["text"] pU):FnOk P w K mg base CX0 2 f fd ["text", "place"] lZ:=by
 refine F.ok tX (λvs H Q E h=>?_) (λcdv A outer s H vs Q E hr h=>?_)
 · obtain ⟨z,p,rfl,_⟩:=h; rfl
 obtain ⟨z,p,rfl,hl,q⟩:=h
 refine ⟨_,(@aF _ _ _ _ _ (cT (jV (eW (aX c_is_flag hr (by decide) rfl (aA (mv 0) aB)))) (@aI _ _ _ (aV iH)) bS) (@aF _ _ _ _ _ (cT (bC aQY (mv 0) (kE rfl G.s_SUBSTITUTES) (by rfl)) (@aI _ _ _ (aV (gK bJT (bM aX3 rfl G.b_int uL (aA (mv 0) aB)) (mv 1) (bG _)))) bS) (@aI _ _ _ (aV iH)))),?_⟩
 walk_at "go"
 refine ⟨z,rfl,hl,?_⟩
 walk_at "go"
 refine gD (λhc=>?_) (λhc=>?_)
 · have hf:iN z=false:=by simpa using hc
   have e:dA z p=false:=by
     by_cases h1:z.length=1
     · obtain ⟨c,rfl⟩:=pC h1
       rw [pB] at hf
       have hf:=Bx hf
       rw [lR]
       exact Au λst=>hf (st.elim .inl λz=>.inr z.1)
     · exact if_neg h1
   rw [e] at q
   walk_at "go"
   exact q
 · have hf:iN z=true:=by simpa using hc
   obtain ⟨c,rfl,hcc⟩:=aZW hf
   walk_at "go"
   rw [if_neg Am,show subIn (one c) (Str.ofString "1234")=decide (dF c) from kY c]
   rw [lR] at q
   refine gD (λhd=>?_) (λhd=>?_)
   · have hs:=Bf hd
     walk_at "go"
     refine uY (oN hs) (by show 1<=640; decide) ?_
     walk_at "go"
     rw [show decide (jP c p)=decide ((c:Int) - 48 < p) from Dh.mpr ⟨λst=>st.elim (λl=>absurd hs (gN l)) (·.2),λl=>.inr ⟨hs,l⟩⟩] at q
     exact q
   · have hs:=Bx (Bt.mpr hd)
     walk_at "go"
     rw [Ap (show jP c p from .inl (hcc.resolve_right hs))] at q
     exact q
theorem vT:FnScope ["flags"] ["flags"] (aG fG):=⟨rfl,rfl,rfl,by decide +kernel,rfl,by decide +kernel,by decide +kernel⟩
theorem xY {Zo Zz Zr Zx Zs Zp Zu Zw Zy Zt Zv Zq:Addr} {f:Addr} {fd:FuncData} (F:Fun K "is_hoist" "is_hoist" fG f fd) (G:Gs K mg Zo Zz Zr Zx Zs Zp Zu Zw Zy Zt Zv Zq) (c_may_stand:Cal P w K mg base 2 "may_stand" ["text", "place"] lZ):FnOk P w K mg base CX0 3 f fd ["flags"] nZ:=by
 refine F.ok vT (λvs H Q E h=>?_) (λcdv A outer s H vs Q E hr h=>?_)
 · obtain ⟨a,zs,rfl,_⟩:=h; rfl
 obtain ⟨a,zs,rfl,ha,hl,hz,q⟩:=h
 refine ⟨_,(@aF _ _ _ _ _ (cT (PW.pt (lT (bC bJT (bA gQ rfl G.b_len dE (aA (mv 0) aB)) aJ (bG _)) (nL (bC cXM (bA gQ rfl G.b_len dE (aA (mv 0) aB)) (cQC rfl G.s_MOST_PLACES) (bG _))))) (@aI _ _ _ (aV iH)) bS) (@aI _ _ _ (aV (bA (dJ5 rfl) rfl G.b_all dQ7 (aA (dC rfl (bXL rfl G.b_enumerate (aA (mv 0) aB) (cQQ aJ cJ3)) (bQ5 (N:=["place", "text"]) (by decide +kernel) (by decide +kernel)) (by decide +kernel) rfl (by decide +kernel) (λC s₀ H₀ ex=>(kI (K:=K) (i:=0) (j:=1) (by rfl) (by rfl) (show List.Nodup (["place", "text"]:List Str) by decide +kernel) (by rfl) (by exact Or.inl rfl) (by exact Or.inr rfl) (by rfl) (by exact Or.inl rfl) (by exact Or.inr rfl))) (λC s₀ H₀ ex=>gS) (λC s₀ H₀ ex=>(aX c_may_stand hr (by decide) rfl (aA (mv 1) (aA (mv 0) aB))))) aB))))),?_⟩
 have hll:(zs.map V.str).length=zs.length:=Ab ..
 walk_at "go"
 rw [hll]
 refine gD (λhc=>?_) (λhc=>?_)
 · walk_at "go"
   have e:cF zs=false:=if_pos (.inl (by have:=Bf hc; omega))
   have r:=q H (Same.refl H)
   rw [e] at r
   exact r
 · have hc':=Bx (Bt.mpr hc)
   walk_at "go"
   rw [hll]
   refine gD (λhd=>?_) (λhd=>?_)
   · walk_at "go"
     have e:cF zs=false:=if_pos (.inr (by have:=Bf hd; omega))
     have r:=q H (Same.refl H)
     rw [e] at r
     exact r
   · have hd':=Bx (Bt.mpr hd)
     walk_at "go"
     refine ⟨⟨by omega,by omega⟩,?_⟩
     walk_at "go"
     refine cQX (λi x=>match x with | .str z=>some (.bl (dA z ((1 + i:Nat):Int))) | _=>none) ha (by rw [hll]; exact aY (by omega)) (λi x Hc p A B hx sm hp hA=>?_) (λD Hd hD sd hr=>?_)
     · obtain ⟨z,hzi,rfl⟩:=lK hx
       walk_at "go"
       refine ⟨Wk.set rfl (Wk.set rfl (Wk.refl _)),?_⟩
       walk_at "go"
       refine ⟨z,_,rfl,hz z (Ak hzi),?_⟩
       exact hA _ (Same.refl _)
     · have e1:((List.range (zs.map V.str).length).filterMap λi=>(λi x=>match x with | .str z=>some (V.bl (dA z ((1 + i:Nat):Int))) | _=>none:Nat->V->Option V) i ((zs.map V.str).getD i .non))=((List.range zs.length).map λi=>dA (zs.getD i ⟨#[]⟩) ((1 + i:Nat):Int)).map V.bl:=by
         rw [hll,Cw]
         refine (lS (g:=λi=>some (V.bl (dA (zs.getD i ⟨#[]⟩) ((1 + i:Nat):Int)))) λi hi=>?_).trans (aXE _ _)
         have hi':=Cc.mp hi
         rw [Ad,Ag,Aa hi',Ad,Aa hi']
         rfl
       rw [e1] at hr
       walk_at "go"
       refine dZG hr ?_
       have e2:cF zs=((List.range zs.length).map λi=>dA (zs.getD i ⟨#[]⟩) ((1 + i:Nat):Int)).all id:=by
         unfold cF
         rw [if_neg (by omega),List.all_map]
         rfl
       have r:=q _ sd
       rw [e2] at r
       exact r
theorem sc_read_of:FnScope ["flags", "word", "flag"] ["flags"] (aG fQ):=⟨rfl,rfl,rfl,by decide +kernel,rfl,by decide +kernel,by decide +kernel⟩
theorem zO {Zo Zz Zr Zx Zs Zp Zu Zw Zy Zt Zv Zq:Addr} {f:Addr} {fd:FuncData} (F:Fun K "read_of" "read_of" fQ f fd) (G:Gs K mg Zo Zz Zr Zx Zs Zp Zu Zw Zy Zt Zv Zq) (c_is_hoist:Cal P w K mg base 3 "is_hoist" ["flags"] nZ):FnOk P w K mg base (CXr P w) 4 f fd ["flags"] (oY Zx):=by
 refine F.okX sc_read_of (λvs H Q E h=>?_) (λcdv A outer s H vs Q E hr h=>?_)
 · obtain ⟨a,zs,rfl,_⟩:=h; rfl
 obtain ⟨a,zs,rfl,ha,hl,hz,q,qe⟩:=h
 refine ⟨_,(@aF _ _ _ _ _ (cT (jV (eW (aX c_is_hoist hr (by decide) rfl (aA (mv 0) aB)))) (@aI _ _ _ (bJC oK rfl rfl rfl G.c_NoHoist G.x_NoHoist Fo (@dQD _ _ _ _ _ _ aB))) bS) (@aF _ _ _ _ _ (@aP _ _ 1 _ _ _ _ sc_read_of.nd (by rfl) (by exact (Or.inl rfl)) fM (by rfl) (by first | exact Or.inl rfl | exact Or.inr rfl)) (@aF _ _ _ _ _ (PS.nox (bP Ba rfl (bW (mv 0)) (aQ (i:=2) sc_read_of.nd rfl (Or.inl rfl)) (@aI _ _ _ (cT (bC aQY (mv 2) (kE rfl G.s_SUBSTITUTES) (by rfl)) (@aI _ _ _ (@aP _ _ 1 _ _ _ _ sc_read_of.nd (by rfl) (by exact (Or.inl rfl)) (aT bZ (mv 1) (bH cC (mv 1) (aT jE (bM aX3 rfl G.b_int uL (aA (mv 2) aB)) aJ) (λ_ _=>rfl))) (by rfl) (by first | exact Or.inl rfl | exact Or.inr rfl))) (@aI _ _ _ (@aP _ _ 1 _ _ _ _ sc_read_of.nd (by rfl) (by exact (Or.inl rfl)) (aT bZ (mv 1) (mv 2)) (by rfl) (by first | exact Or.inl rfl | exact Or.inr rfl))))))) (@aI _ _ _ (aV (mv 1)))))),?_⟩
 walk_at "go"
 refine ⟨a,zs,rfl,ha,hl,hz,λH1 s1=>?_⟩
 have ha1:=aH s1 ha
 walk_at "go"
 cases hh:cF zs with
 | false=>
   walk_at "go"
   exact ⟨by show 1<=sizeLine; decide,qe hh H1 s1⟩
 | true=>
   walk_at "go"
   have h7:=fF hh
   refine cN (xs:=zs.map V.str) (λi σ H'=>∃ v,σ=[some (.ref a),some (.str (aZ (rdC ((zs.map kQ).take i)))),v]/\H'=H1)
     ⟨none,rfl,rfl⟩ (λi σ H' _ ⟨_,_,e⟩=>by rw [e]; exact ha1) ?_ ?_
   · rintro i x σ H' hx ⟨v,rfl,rfl⟩
     obtain ⟨z,hzi,rfl⟩:=lK hx
     obtain ⟨c,rfl,hci,hcc⟩:=lI hh hzi
     have hi:i < (zs.map kQ).length:=(Ae.mp hci).1
     have hll:(zs.map kQ).length=zs.length:=Ab ..
     have hrl:(rdC ((zs.map kQ).take i)).length=i:=iW (by omega)
     have hst:=mH hci
     generalize rdC ((zs.map kQ).take i)=wd at hrl hst ⊢
     have hwl:(aZ wd).length=i:=(eT wd).trans hrl
     walk_at "go"
     rw [if_neg Am,show subIn (one c) (Str.ofString "1234")=decide (dF c) from kY c]
     refine gD (λhd=>?_) (λhd=>?_)
     · have hs:=Bf hd
       have hlt:c - 49 < i:=(hcc.resolve_left λl=>gN l hs).2
       have h49:49<=c:=hs.1
       walk_at "go"
       refine uY (oN hs) (by show 1<=640; decide) ?_
       walk_at "go"
       have e1:atI (aZ wd).cps.toList ((c:Int) - 48 - 1)=some (wd.getD (c - 49) 0):=by
         rw [show ((c:Int) - 48 - 1)=((c - 49:Nat):Int) by omega]
         refine eO ?_
         rw [mP,Ad,Aa (by omega)]
         rfl
       have h2:(⟨#[wd.getD (c - 49) 0]⟩:Str).length=1:=rfl
       refine jA (by rw [hwl]; exact bQ (by omega)) e1 ?_
       walk_at "go"
       refine ⟨some (.str (one c)),?_,rfl⟩
       rw [hst,show stp wd c=wd.getD (c - 49) 0 from if_pos hs,<-hX]
       rfl
     · have hs:=Bx (Bt.mpr hd)
       have h2:(one c).length=1:=rfl
       walk_at "go"
       refine ⟨some (.str (one c)),?_,rfl⟩
       rw [hst,show stp wd c=c from if_neg hs,<-hX]
       rfl
   · rintro σ H' ⟨v,rfl,rfl⟩
     walk_at "go"
     have e:(zs.map kQ).take (zs.map V.str).length=zs.map kQ:=Bh (by rw [Ab,Ab]; exact Ah _)
     rw [e]
     exact q hh _ s1
abbrev Wt:=Nat × Nat
def cG (w:Wt):List Key:=[Sum.inl (w.1:Int),Sum.inl (w.2:Int)]
theorem jY {a b:Wt} (h:cG a=cG b):a=b:=by
 unfold cG at h
 injection h with h1 h2
 injection h2 with h2 _
 have e1:=Sum.inl.inj h1
 have e2:=Sum.inl.inj h2
 exact Prod.ext (by omega) (by omega)
def dN (m:List (Wt × Nat)) (w:Wt):Option Nat:=(m.find? λx=>decide (x.1=w)).map (·.2)
def eC (m:List (Wt × Nat)) (f:Nat):List Wt:=(m.filter λx=>decide (x.2=f)).map (·.1)
def ctm (m:List (Wt × Nat)) (f:Nat):Nat:=m.countP λx=>decide (x.2=f)
theorem fE {x:Wt × Nat} {m:List (Wt × Nat)} {w:Wt}:dN (x :: m) w=if x.1=w then some x.2 else dN m w:=by
 unfold dN
 rw [List.find?_cons]
 by_cases h:x.1=w
 · simp [h]
 · simp [h]
theorem yD {m:List (Wt × Nat)} {w:Wt} {f:Nat} (h:dN m w=some f):(w,f)∈m:=by
 induction m with
 | nil=>cases h
 | cons x m ih=>
   rw [fE] at h
   by_cases e:x.1=w
   · rw [if_pos e] at h
     cases h
     rw [<-e]
     exact Aq
   · rw [if_neg e] at h
     exact An _ (ih h)
theorem lY {m:List (Wt × Nat)} (nd:(m.map (·.1)).Nodup) {w:Wt} {f:Nat} (h:(w,f)∈m):dN m w=some f:=by
 induction m with
 | nil=>cases h
 | cons x m ih=>
   rw [fE]
   rw [Ar,By] at nd
   rcases Bc.mp h with e | e
   · rw [<-e,if_pos rfl]
   · rw [if_neg (λz=>nd.1 (by rw [z]; exact Bg.mpr ⟨_,e,rfl⟩)),ih nd.2 e]
theorem hget_none {m:List (Wt × Nat)} {w:Wt}:dN m w=none ↔ w ∉ m.map (·.1):=by
 induction m with
 | nil=>exact ⟨λ_ z=>(nomatch z),λ_=>rfl⟩
 | cons x m ih=>
   rw [fE,Ar,Bc]
   by_cases e:x.1=w
   · rw [if_pos e]
     exact ⟨λz=>(nomatch z),λz=>absurd (Or.inl e.symm) z⟩
   · rw [if_neg e,ih]
     exact ⟨λz y=>y.elim (λq=>e q.symm) z,λz y=>z (Or.inr y)⟩
theorem by_mem {m:List (Wt × Nat)} {f:Nat} {w:Wt}:w∈eC m f ↔ (w,f)∈m:=by
 unfold eC
 rw [Bg]
 constructor
 · rintro ⟨x,hx,rfl⟩
   rw [Ct,Bj] at hx
   rw [<-hx.2]
   exact hx.1
 · intro h
   exact ⟨(w,f),Ct.mpr ⟨h,Ap rfl⟩,rfl⟩
theorem yQ (m:List (Wt × Nat)) (f:Nat):(eC m f).length=ctm m f:=by
 unfold eC ctm
 rw [Ab,Ff]
structure Asking (ch:Wt->List Nat) (m:List (Wt × Nat)) (first:Wt) (A:List (Nat × Wt)):Prop where
 nd:(A.map (·.1)).Nodup
 ok:∀ (j:Nat) f w,A[j]?=some (f,w)->f∈ch w/\(w=first\/∃ (g:Nat) (i:Nat) (v:Wt),i < j/\A[i]?=some (g,v)/\dN m w=some g)
def cE (m:List (Wt × Nat)) (first:Wt) (A:List (Nat × Wt)):List Wt:=first :: (A.map (·.1)).flatMap (eC m)
theorem lM (m:List (Wt × Nat)) (first:Wt) (A:List (Nat × Wt)) (f:Nat) (w:Wt):cE m first (A ++ [(f,w)])=cE m first A ++ eC m f:=by
 unfold cE
 rw [Al,Dy]
 simp
theorem reach_mem {m:List (Wt × Nat)} {first:Wt} {A:List (Nat × Wt)} {w:Wt}:w∈cE m first A ↔ w=first\/∃ f∈A.map (·.1),(w,f)∈m:=by
 unfold cE
 rw [Bc,Gp]
 constructor
 · rintro (h | ⟨f,hf,h⟩)
   · exact .inl h
   · exact .inr ⟨f,hf,by_mem.mp h⟩
 · rintro (h | ⟨f,hf,h⟩)
   · exact .inl h
   · exact .inr ⟨f,hf,by_mem.mpr h⟩
theorem pT (m:List (Wt × Nat)):∀ {fs:List Nat},fs.Nodup->(fs.flatMap (eC m)).length=m.countP (λx=>decide (x.2∈fs))
 | [],_=>by simp
 | f :: fs,nd=>by
   rw [Eo,Aj,yQ,pT m (By.mp nd).2]
   have hf:=(By.mp nd).1
   unfold ctm
   clear nd
   induction m with
   | nil=>rfl
   | cons x m ih=>
     rw [Di,Di,Di,<-ih]
     by_cases h1:x.2=f
     · rw [if_pos (Ap h1),if_neg (by rw [Bj,h1]; exact hf),if_pos (Ap (by rw [h1]; exact Aq))]
       omega
     · rw [if_neg (by rw [Bj]; exact h1)]
       by_cases h2:x.2∈fs
       · rw [if_pos (Ap h2),if_pos (Ap (An _ h2))]
         omega
       · rw [if_neg (by rw [Bj]; exact h2),if_neg (by rw [Bj]; exact λz=>(Bc.mp z).elim h1 h2)]
         omega
theorem rN {m:List (Wt × Nat)} {first:Wt} {A:List (Nat × Wt)} (nd:(A.map (·.1)).Nodup):(cE m first A).length<=1 + m.length:=by
 unfold cE
 rw [Ay,pT m nd]
 have:=List.countP_le_length (p:=λx:Wt × Nat=>decide (x.2∈A.map (·.1))) (l:=m)
 omega
theorem Asking.snoc {ch:Wt->List Nat} {m:List (Wt × Nat)} {first w:Wt} {A:List (Nat × Wt)} {f:Nat} (ndm:(m.map (·.1)).Nodup) (h:Asking ch m first A) (hf:f ∉ A.map (·.1)) (hc:f ∈ ch w) (hw:w ∈ cE m first A):Asking ch m first (A ++ [(f,w)]):=by
 refine ⟨?_,λj g v hj=>?_⟩
 · rw [Al]
   exact List.nodup_append.mpr ⟨h.nd,by simp,λx hx y hy=>by rw [List.mem_singleton.mp hy]; intro z; have z2:x=f:=z; rw [z2] at hx; exact hf hx⟩
 · by_cases hlt:j < A.length
   · rw [As hlt] at hj
     obtain ⟨h1,h2⟩:=h.ok j g v hj
     refine ⟨h1,h2.imp id ?_⟩
     rintro ⟨g',i,v',hi,hA,hg⟩
     exact ⟨g',i,v',hi,by rw [As (by omega)]; exact hA,hg⟩
   · have hj2:j=A.length:=by
       have:=(Ae.mp hj).1
       rw [Aj] at this
       have:j < A.length + 1:=this
       omega
     subst hj2
     rw [Ax (Ah _),Fq] at hj
     cases hj
     refine ⟨hc,?_⟩
     rcases reach_mem.mp hw with e | ⟨g',hg',hm⟩
     · exact .inl e
     · obtain ⟨x,hx,rfl⟩:=Bg.mp hg'
       obtain ⟨i,hi,ei⟩:=Ca.mp hx
       exact .inr ⟨x.1,i,x.2,hi,by rw [As hi,Aa hi,ei],lY ndm hm⟩
structure Asked (ch:Wt->List Nat) (m:List (Wt × Nat)) (first:Wt) (A:List (Nat × Wt)):Prop extends Asking ch m first A where
 all1:∀ f∈ch first,f∈A.map (·.1)
 all:∀ w g,(w,g)∈m->g∈A.map (·.1)->∀ f∈ch w,f∈A.map (·.1)
theorem Asking.done {ch:Wt->List Nat} {m:List (Wt × Nat)} {first:Wt} {A:List (Nat × Wt)} (h:Asking ch m first A) (hc:∀ w∈cE m first A,∀ f∈ch w,f∈A.map (·.1)):Asked ch m first A :=
 ⟨h,hc first (reach_mem.mpr (.inl rfl)),λw g hm hg=>hc w (reach_mem.mpr (.inr ⟨g,hg,hm⟩))⟩
def aJB (m:List (Wt × Nat)) (w:Wt) (f:Nat):List (Wt × Nat):=if (dN m w).isSome=true then m.map λx=>if x.1=w then (x.1,f) else x else m ++ [(w,f)]
theorem bZH {m:List (Wt × Nat)} {w v:Wt} {f:Nat}:dN (m.map λx=>if x.1=w then (x.1,f) else x) v=(dN m v).map λg=>if v=w then f else g:=by
 induction m with
 | nil=>rfl
 | cons x m ih=>
   rw [Ar,fE,fE,ih]
   by_cases e:x.1=w
   · rw [if_pos e]
     by_cases e2:x.1=v
     · rw [if_pos e2,if_pos e2,Dv,if_pos (e2.symm.trans e)]
     · rw [if_neg e2,if_neg e2]
   · rw [if_neg e]
     by_cases e2:x.1=v
     · rw [if_pos e2,if_pos e2,Dv,if_neg (λz=>e (e2.trans z))]
     · rw [if_neg e2,if_neg e2]
theorem keys_map {m:List (Wt × Nat)} {w:Wt} {f:Nat}:(m.map λx=>if x.1=w then (x.1,f) else x).map (·.1)=m.map (·.1):=by
 rw [Cw]
 refine Cz λx _=>?_
 show (if x.1=w then (x.1,f) else x).1=x.1
 by_cases e:x.1=w
 · rw [if_pos e]
 · rw [if_neg e]
theorem dQX {m:List (Wt × Nat)} {w:Wt} {f g:Nat} (nd:(m.map (·.1)).Nodup) (h:dN m w=some g) (c:Nat) :
   ctm (m.map λx=>if x.1=w then (x.1,f) else x) c + (if c=g then 1 else 0)=ctm m c + (if c=f then 1 else 0):=by
 induction m with
 | nil=>cases h
 | cons x m ih=>
   rw [Ar,By] at nd
   rw [fE] at h
   unfold ctm at ih ⊢
   rw [Ar,Di,Di]
   by_cases e:x.1=w
   · rw [if_pos e] at h
     cases h
     have hm:(m.map λx=>if x.1=w then (x.1,f) else x)=m:=by
       refine (Cz λy hy=>?_).trans (List.map_id _)
       show (if y.1=w then (y.1,f) else y)=y
       rw [if_neg (λz=>nd.1 (by rw [e,<-z]; exact Bg.mpr ⟨y,hy,rfl⟩))]
     rw [if_pos e,hm]
     have e1:(decide ((x.1,f).2=c)=true)=(c=f):=by rw [Bj]; exact propext ⟨λz=>z.symm,λz=>z.symm⟩
     have e2:(decide (x.2=c)=true)=(c=x.2):=by rw [Bj]; exact propext ⟨λz=>z.symm,λz=>z.symm⟩
     simp only [e1,e2]
     omega
   · rw [if_neg e] at h
     rw [if_neg e]
     have r:=ih nd.2 h
     omega
structure Along (ch:Wt->List Nat) (m0:List (Wt × Nat)) (A:List (Nat × Wt)) (f0:Nat) (m:List (Wt × Nat)) (c j:Nat) (w:Wt):Prop where
 keys:m.map (·.1)=m0.map (·.1)
 ok:∀ v f,(v,f)∈m->f∈ch v
 ct:∀ f,ctm m f + (if f=c then 1 else 0)=ctm m0 f + (if f=f0 then 1 else 0)
 at_:A[j]?=some (c,w)
 same:∀ v g i u,dN m0 v=some g->A[i]?=some (g,u)->i < j->dN m v=some g
theorem cQA {A:List (Nat × Wt)} (nd:(A.map (·.1)).Nodup) {i j g:Nat} {u v:Wt} (hi:A[i]?=some (g,u)) (hj:A[j]?=some (g,v)):i=j:=by
 obtain ⟨h1,e1⟩:=Ae.mp hi
 obtain ⟨h2,e2⟩:=Ae.mp hj
 refine (Fp (h₀:=by rw [Ab]; exact h1) (h₁:=by rw [Ab]; exact h2) nd).mp ?_
 rw [List.getElem_map,List.getElem_map,e1,e2]
theorem Along.step {ch:Wt->List Nat} {m0 m:List (Wt × Nat)} {A:List (Nat × Wt)} {f0 c j g i:Nat} {first w v:Wt} (ha:Asking ch m0 first A) (nd0:(m0.map (·.1)).Nodup) (h:Along ch m0 A f0 m c j w) (hg:dN m0 w=some g) (hi:A[i]?=some (g,v)) (hij:i < j) :
   dN m w=some g/\Along ch m0 A f0 (m.map λx=>if x.1=w then (x.1,c) else x) g i v:=by
 have nd:(m.map (·.1)).Nodup:=by rw [h.keys]; exact nd0
 have hw:=h.same w g i v hg hi hij
 refine ⟨hw,keys_map.trans h.keys,λu f hu=>?_,λf=>?_,hi,λu g' i' u' h1 h2 h3=>?_⟩
 · obtain ⟨x,hx,e⟩:=Bg.mp hu
   by_cases ex:x.1=w
   · rw [if_pos ex] at e
     cases e
     rw [ex]
     exact (ha.ok j c w h.at_).1
   · rw [if_neg ex] at e
     exact h.ok u f (e ▸ hx)
 · have r1:=dQX (f:=c) nd hw f
   have r2:=h.ct f
   omega
 · rw [bZH,h.same u g' i' u' h1 h2 (by omega),Dv]
   by_cases e:u=w
   · subst e
     rw [hg] at h1
     cases h1
     exact absurd (cQA ha.nd hi h2) (by omega)
   · rw [if_neg e]
theorem Along.last {ch:Wt->List Nat} {m0 m:List (Wt × Nat)} {A:List (Nat × Wt)} {f0 c j:Nat} {first:Wt} (ha:Asking ch m0 first A) (hf:first ∉ m0.map (·.1)) (h:Along ch m0 A f0 m c j first) :
   dN m first=none/\(m ++ [(first,c)]).map (·.1)=m0.map (·.1) ++ [first]/\(∀ v f,(v,f)∈m ++ [(first,c)]->f∈ch v)/\∀ f,ctm (m ++ [(first,c)]) f=ctm m0 f + (if f=f0 then 1 else 0):=by
 refine ⟨hget_none.mpr (by rw [h.keys]; exact hf),by rw [Al,h.keys]; rfl,λv f hv=>?_,λf=>?_⟩
 · rcases Bi.mp hv with e | e
   · exact h.ok v f e
   · cases Aw.mp e
     exact (ha.ok j c first h.at_).1
 · have r:=h.ct f
   unfold ctm at r ⊢
   rw [Gc]
   have e:List.countP (λx:Wt × Nat=>decide (x.2=f)) [(first,c)]=if f=c then 1 else 0:=by
     rw [List.countP_singleton]
     by_cases z:f=c
     · rw [if_pos z,if_pos (Ap z.symm)]
     · rw [if_neg z,if_neg (by rw [Bj]; exact λy=>z y.symm)]
   rw [e]
   exact r
def jU (m:List (Wt × Nat)) (first:Wt) (A:List (Nat × Wt)) (wl:List Wt):List Wt:=wl.filter λw=>decide (w=first) || (match dN m w with | some g=>decide (g∈A.map (·.1)) | none=>false)
def iY (m:List (Wt × Nat)) (first:Wt) (A:List (Nat × Wt)) (w:Wt):Bool:=decide (w=first) || (match dN m w with | some g=>decide (g∈A.map (·.1)) | none=>false)
theorem vE {m:List (Wt × Nat)} {first w:Wt} {A:List (Nat × Wt)} (h:w=first):iY m first A w=true:=by
 unfold iY
 rw [Ap h,Bool.true_or]
theorem qI {m:List (Wt × Nat)} {first w:Wt} {A:List (Nat × Wt)} (h:w≠first) (e:dN m w=none):iY m first A w=false:=by
 unfold iY
 rw [Au h,e]
 rfl
theorem qJ {m:List (Wt × Nat)} {first w:Wt} {A:List (Nat × Wt)} {g:Nat} (h:w≠first) (e:dN m w=some g):iY m first A w=decide (g∈A.map (·.1)):=by
 unfold iY
 rw [Au h,e,Fw]
theorem qK {m:List (Wt × Nat)} {first:Wt} {A:List (Nat × Wt)} {ws:List Wt} {w:Wt}:jU m first A (ws ++ [w])=jU m first A ws ++ if iY m first A w=true then [w] else []:=by
 have e:∀ l,jU m first A l=l.filter (iY m first A):=λl=>rfl
 rw [e,e,Fe,Fa]
 rfl
theorem lackW_mem {m:List (Wt × Nat)} {first w:Wt} {A:List (Nat × Wt)} {ws:List Wt}:w∈jU m first A ws ↔ w∈ws/\iY m first A w=true:=by
 have e:∀ l,jU m first A l=l.filter (iY m first A):=λl=>rfl
 rw [e,Ct]
theorem bQ8 {m:List (Wt × Nat)} {first:Wt} {A:List (Nat × Wt)} {l r:List Wt} (hk:m.map (·.1)=l) (nd:(l ++ first :: r).Nodup):(jU m first A (l ++ first :: r)).length=1 + m.countP (λx=>decide (x.2∈A.map (·.1))):=by
 have hl:(m.map (·.1)).Nodup:=by rw [hk]; exact (Dk.mp nd).1
 have hfl:first ∉ l:=λz=>(Dk.mp nd).2.2 first z first Aq rfl
 have hfr:first ∉ r:=(By.mp (Dk.mp nd).2.1).1
 have hrl:∀ w ∈ r,w ∉ l:=λw hw z=>(Dk.mp nd).2.2 w z w (An _ hw) rfl
 unfold jU
 rw [Fe,Aj,Fa,if_pos (by rw [Ap rfl]; rfl),Ay]
 have er:r.filter (λw=>decide (w=first) || (match dN m w with | some g=>decide (g∈A.map (·.1)) | none=>false))=[]:=by
   refine List.filter_eq_nil_iff.mpr λw hw=>?_
   have e:dN m w=none:=hget_none.mpr (by rw [hk]; exact hrl w hw)
   rw [Au (show ¬ w=first from λz=>by rw [z] at hw; exact hfr hw),e,Fw]
   exact Am
 have el:(l.filter (λw=>decide (w=first) || (match dN m w with | some g=>decide (g∈A.map (·.1)) | none=>false))).length=m.countP (λx=>decide (x.2∈A.map (·.1))):=by
   rw [<-hk,List.filter_map,Ab,<-Ff]
   refine List.countP_congr λx hx=>?_
   show (decide (x.1=first) || (match dN m x.1 with | some g=>decide (g∈A.map (·.1)) | none=>false))=true ↔ _
   rw [lY hl (w:=x.1) (f:=x.2) hx,Au (λz=>hfl (by rw [<-z,<-hk]; exact Bg.mpr ⟨x,hx,rfl⟩)),Fw]
 rw [er,el,List.length_nil]
 omega
theorem dQ2 (m:List (Wt × Nat)):∀ {fs:List Nat},fs.Nodup->m.countP (λx=>decide (x.2∈fs))=(fs.map (ctm m)).sum:=fun {fs} nd=>by
 rw [<-pT m nd]
 induction fs with
 | nil=>rfl
 | cons f fs ih=>rw [Eo,Aj,yQ,Ar,Ck,ih (By.mp nd).2]
def jW (cws:List (List Nat)) (k:Nat):List Wt:=(List.range (cws.getD k []).length).map λj=>(k,1 + j)
def wlP (cws:List (List Nat)) (i:Nat):List Wt:=(List.range i).flatMap (jW cws)
def wl (cws:List (List Nat)):List Wt:=wlP cws cws.length
def wV (w:Wt):List V:=[.int (w.1:Int),.int (w.2:Int)]
theorem iD (cws:List (List Nat)) (i:Nat):wlP cws (i + 1)=wlP cws i ++ jW cws i:=by
 unfold wlP
 rw [Cf,Dy]
 simp
theorem oV (cws:List (List Nat)):∀ i,lD cws i=(wlP cws i).map wV
 | 0=>rfl
 | i + 1=>by
   rw [jJ,iD,Al,oV cws i]
   congr 1
   unfold zZ jW
   rw [Cw]
   refine Cz λj _=>?_
   show [V.int ((i:Nat):Int),V.int (1 + (j:Int))]=[V.int ((i:Nat):Int),V.int ((1 + j:Nat):Int)]
   rw [show ((1 + j:Nat):Int)=1 + (j:Int) by omega]
theorem wlP_mem {cws:List (List Nat)} {w:Wt}:∀ {i:Nat},w∈wlP cws i ↔ w.1 < i/\1<=w.2/\w.2<=(cws.getD w.1 []).length:=fun {i}=>by
 unfold wlP jW
 rw [Gp]
 constructor
 · rintro ⟨k,hk,h⟩
   obtain ⟨j,hj,rfl⟩:=Bg.mp h
   have:=Cc.mp hk
   have:=Cc.mp hj
   exact ⟨by omega,by show 1<=1 + j; omega,by show 1 + j<=(cws.getD k []).length; omega⟩
 · rintro ⟨h1,h2,h3⟩
   refine ⟨w.1,Cc.mpr h1,Bg.mpr ⟨w.2 - 1,Cc.mpr (by omega),?_⟩⟩
   exact Prod.ext rfl (by show 1 + (w.2 - 1)=w.2; omega)
theorem lL (cws:List (List Nat)):∀ i,(wlP cws i).Nodup
 | 0=>List.nodup_nil
 | i + 1=>by
   rw [iD]
   refine Dk.mpr ⟨lL cws i,?_,λa ha b hb e=>?_⟩
   · unfold jW
     exact List.Pairwise.map _ (λa b h=>λz=>h (by have:=Df Prod.snd z; have e:1 + a=1 + b:=this; omega)) List.nodup_range
   · subst e
     have h1:=(wlP_mem.mp ha).1
     unfold jW at hb
     obtain ⟨j,_,rfl⟩:=Bg.mp hb
     exact absurd h1 (Dp _)
theorem oU {cws:List (List Nat)} (h7:∀ c∈cws,c.length<=7) (i:Nat):(wlP cws i).length<=7 * i:=by
 have:=lC h7 i
 rw [oV,Ab] at this
 exact this
def chW (cws:List (List Nat)) (w:Wt):List Nat:=chs (cws.getD w.1 []) (w.2 - 1)
def dS (ws:List Wt) (ds:List Addr):List (List Key × V):=List.zipWith (λw d=>(cG w,V.ref d)) ws ds
def dJO (H:Hp) (r:Addr) (cws:List (List Nat)) (i:Nat):Prop:=∃ ds:List Addr,ds.length=i/\H r=some (.dT (dS ((wl cws).take i) ds))/\∀ (j:Nat) w d,j < i->(wl cws)[j]?=some w->ds[j]?=some d->H d=some (.lst (((chW cws w).map one).map V.str))
theorem aJH {ws:List Wt} {ds:List Addr} (nd:ws.Nodup) (hl:ds.length=ws.length) {j:Nat} {w:Wt} {d:Addr} (hw:ws[j]?=some w) (hd:ds[j]?=some d):bU (dS ws ds) (cG w)=some (.ref d):=by
 induction ws generalizing ds j with
 | nil=>cases hw
 | cons x ws ih=>
   cases ds with
   | nil=>cases hl
   | cons e ds=>
     show bU ((cG x,V.ref e) :: dS ws ds) _=_
     cases j with
     | zero=>cases hw; cases hd; exact cD rfl
     | succ j=>
       have hm:=Ak (show ws[j]?=some w from hw)
       rw [bY (λz=>(By.mp nd).1 (by rw [jY z]; exact hm))]
       exact ih (List.nodup_cons.mp nd).2 (by simpa using hl) hw hd
theorem aQN {ws:List Wt} {ds:List Addr} {w:Wt} (h:w ∉ ws):bU (dS ws ds) (cG w)=none:=by
 induction ws generalizing ds with
 | nil=>rfl
 | cons x ws ih=>
   cases ds with
   | nil=>rfl
   | cons e ds=>
     show bU ((cG x,V.ref e) :: dS ws ds) _=_
     rw [bY (λz=>h (by rw [jY z]; exact Aq))]
     exact ih λz=>h (An _ z)
theorem sF {ws:List Wt} {ds:List Addr} (hl:ds.length=ws.length):(dS ws ds).length=ws.length:=by
 unfold dS
 rw [List.length_zipWith]
 omega
theorem aQR {ws:List Wt} {ds:List Addr} {w:Wt} {d:Addr} (hl:ds.length=ws.length):dS (ws ++ [w]) (ds ++ [d])=dS ws ds ++ [(cG w,V.ref d)]:=by
 unfold dS
 rw [List.zipWith_append (by omega)]
 rfl
def kU:Sp:=λvs H Q _=>∃ (a:Addr) (cws:List (List Nat)),vs=[.ref a]/\rdL H a=some ((cws.map aZ).map V.str)/\cws.length<=8/\(∀ c∈cws,c.length<=7)/\
 ∀ (r:Addr) (H':Hp),H r=none->Same H H'->dJO H' r cws (wl cws).length->Q (.ref r) H'
theorem sc_choices_of:FnScope ["words", "choices", "want"] ["words"] (aG dJ):=⟨rfl,rfl,rfl,by decide +kernel,rfl,by decide +kernel,by decide +kernel⟩
theorem qY {Zo Zz Zr Zx Zs Zp Zu Zw Zy Zt Zv Zq:Addr} {f:Addr} {fd:FuncData} (F:Fun K "choices_of" "choices_of" dJ f fd) (G:Gs K mg Zo Zz Zr Zx Zs Zp Zu Zw Zy Zt Zv Zq) (c_wants_of:Cal P w K mg base 1 "wants_of" ["words"] nQ) (c_choices_at:Cal P w K mg base 1 "choices_at" ["word", "place"] kO):FnOk P w K mg base CX0 2 f fd ["words"] kU:=by
 refine F.ok sc_choices_of (λvs H Q E h=>?_) (λcdv A outer s H vs Q E hr h=>?_)
 · obtain ⟨a,cws,rfl,_⟩:=h; rfl
 obtain ⟨a,cws,rfl,ha,h8,h7,q⟩:=h
 refine ⟨_,(@aF _ _ _ _ _ (@aP _ _ 1 _ _ _ _ sc_choices_of.nd (by rfl) (by exact (Or.inl rfl)) qD (by rfl) (by first | exact Or.inl rfl | exact Or.inr rfl)) (@aF _ _ _ _ _ (bP Ba rfl (bW (aX c_wants_of hr (by decide) rfl (aA (mv 0) aB))) (aQ (i:=2) sc_choices_of.nd rfl (Or.inl rfl)) (@aI _ _ _ (dB (Room.u1 hr) (mv 1) (mv 2) (aX c_choices_at hr (by decide) rfl (aA (bH cC (mv 0) (bH cC (mv 2) aJ (λ_ _=>rfl)) (λ_ _=>rfl)) (aA (bH cC (mv 2) aJ (λ_ _=>rfl)) aB))) rfl))) (@aI _ _ _ (aV (mv 1))))),?_⟩
 walk_at "go"
 intro pc hpc
 walk_at "go"
 refine ⟨a,cws,rfl,aH (aE hpc _) ha,h8,h7,λr ps H1 hr s1 e1 tp=>?_⟩
 have s01:=(aE hpc (.dT [])).trans s1
 have ec1:=s1 _ _ (aD (H:=H) (a:=pc) (o:=.dT []))
 have hlw:(wl cws).length<=56:=Bb (oU h7 _) (by omega)
 rw [oV] at tp
 have hpl:ps.length=(wl cws).length:=by rw [tp.1,Ab]; rfl
 have hpm:(ps.map V.ref).length=(wl cws).length:=by rw [Ab,hpl]
 have tat:∀ (j:Nat) p w,ps[j]?=some p->(wl cws)[j]?=some w->H1 p=some (.tup (wV w)):=λj p w hp hw=>(tp.2 j p _ hp (by rw [Ag]; exact Df (Option.map wV) hw)).2
 have r1:=aO e1
 have hcr:pc≠r:=λz=>by rw [<-z,aD] at hr; cases hr
 walk_at "go"
 refine cN (xs:=ps.map V.ref) (λi σ H'=>∃ (v:Option V),σ=[some (.ref a),some (.ref pc),v]/\Same H H'/\(∀ b u,b≠pc->H1 b=some u->H' b=some u)/\dJO H' pc cws i)
   ⟨_,rfl,s01,λb u _ h=>h,[],rfl,ec1,λj w d hj=>absurd hj (Fy _)⟩ (λi σ H' _ ⟨_,_,_,k,_⟩=>aO (k _ _ (Ne.symm hcr) e1)) ?_ ?_
 · rintro i x σ H2 hx ⟨v,rfl,s2,k2,ds,dl,ed,hds⟩
   rw [Ag] at hx
   cases e:ps[i]? with
   | none=>rw [e] at hx; cases hx
   | some p=>
     rw [e] at hx
     cases hx
     have hi:i < (wl cws).length:=by rw [<-hpl]; exact (Ae.mp e).1
     have ew:(wl cws)[i]?=some (wl cws)[i]:=Aa hi
     have hm:=wlP_mem.mp (Bw hi)
     have htp1:=tat i p _ e ew
     have hpne:p≠pc:=λz=>by rw [z,ec1] at htp1; cases htp1
     have ht:=k2 _ _ hpne htp1
     have hnew:(wl cws)[i] ∉ (wl cws).take i:=λz=>by
       obtain ⟨j,hj,ej⟩:=Ca.mp z
       rw [Bo] at hj
       rw [List.getElem_take] at ej
       have:=(Fp (lL cws cws.length)).mp ej
       omega
     have htk:(wl cws).take (i + 1)=(wl cws).take i ++ [(wl cws)[i]]:=by rw [Az,ew]; rfl
     generalize hw:(wl cws)[i]=w at hm ht hnew htk ew
     obtain ⟨h1,h2,h3⟩:=hm
     have ecw:cws[w.1]?=some (cws.getD w.1 []):=by rw [Ad,Aa h1]; rfl
     have h7w:=h7 _ (Ak ecw)
     have ha2:=aH s2 ha
     walk_at "go"
     refine lX ht (v:=.int (w.1:Int)) rfl ?_
     walk_at "go"
     refine cL ha2 (v:=.str (aZ (cws.getD w.1 []))) (eO (by rw [Ag,Ag,ecw]; rfl)) ?_
     walk_at "go"
     refine lX ht (v:=.int (w.2:Int)) rfl ?_
     walk_at "go"
     refine ⟨cws.getD w.1 [],w.2 - 1,_,rfl,by omega,by omega,h7w,λd H3 hd s3 e3=>?_⟩
     walk_at "go"
     have dl2:ds.length=((wl cws).take i).length:=by rw [dl,Bo]; omega
     refine oH (k:=cG w) (s3 _ _ ed) (s3 _ _ ht) (aY (by rw [sF dl2,Bo]; omega)) ?_
     have hdp:d≠pc:=λz=>by rw [z,ed] at hd; cases hd
     refine ⟨_,rfl,aW hpc (s2.trans s3),λb u hb hu=>by rw [aK hb]; exact s3 _ _ (k2 b u hb hu),ds ++ [d],by rw [Aj,dl]; rfl,?_,λj v' d' hj hv hd'=>?_⟩
     · rw [aD,iF _ (aQN hnew),htk,aQR dl2]
     · by_cases hjl:j < i
       · rw [As (by omega)] at hd'
         have hold:=hds j v' d' hjl hv hd'
         rw [aK (λz=>by rw [z,ed] at hold; cases hold)]
         exact s3 _ _ hold
       · have hj2:j=i:=by omega
         subst hj2
         rw [ew] at hv
         cases hv
         rw [Ax (by omega),dl,Fq] at hd'
         cases hd'
         rw [aK hdp]
         exact e3
 · rintro σ H2 ⟨v,rfl,s2,k2,hch⟩
   rw [hpm] at hch
   walk_at "go"
   exact q pc H2 hpc s2 hch
def gG (m:List (Wt × Nat)):List (List Key × V):=m.map λx=>(cG x.1,V.str (one x.2))
theorem jR (m:List (Wt × Nat)) (w:Wt):bU (gG m) (cG w)=(dN m w).map λf=>V.str (one f):=by
 induction m with
 | nil=>rfl
 | cons x m ih=>
   show bU ((cG x.1,V.str (one x.2)) :: gG m) _=_
   rw [fE]
   by_cases e:x.1=w
   · rw [if_pos e,cD (by show cG x.1=cG w; rw [e])]
     rfl
   · rw [if_neg e,bY (λz=>e (jY z)),ih]
def fL (A:List (Nat × Wt)) (bs:List Addr):List (Key × V):=List.zipWith (λx b=>(Sum.inr (one x.1),V.ref b)) A bs
theorem kG {A:List (Nat × Wt)} {bs:List Addr} (hl:bs.length=A.length) (f:Nat):(bU (fL A bs) (Sum.inr (one f))).isSome=decide (f∈A.map (·.1)):=by
 induction A generalizing bs with
 | nil=>rfl
 | cons x A ih=>
   cases bs with
   | nil=>cases hl
   | cons b bs=>
     show (bU ((Sum.inr (one x.1),V.ref b) :: fL A bs) _).isSome=_
     by_cases e:x.1=f
     · rw [cD (by show (Sum.inr (one x.1):Key)=Sum.inr (one f); rw [e]),Ap (by rw [<-e]; exact Aq)]
       rfl
     · rw [bY (λz=>e (key_one.mp z)),ih (by simpa using hl)]
       exact Dh.mpr ⟨λz=>An _ z,λz=>(Bc.mp z).resolve_left λy=>e y.symm⟩
theorem bQE {A:List (Nat × Wt)} {bs:List Addr} (hl:bs.length=A.length) {f:Nat} (h:f ∉ A.map (·.1)):bU (fL A bs) (Sum.inr (one f))=none:=by
 have r:=kG hl f
 rw [Au h] at r
 cases e:bU (fL A bs) (Sum.inr (one f)) with
 | none=>rfl
 | some v=>rw [e] at r; cases r
theorem aZI {A:List (Nat × Wt)} {bs:List Addr} {x:Nat × Wt} {b:Addr} (hl:bs.length=A.length):fL (A ++ [x]) (bs ++ [b])=fL A bs ++ [(Sum.inr (one x.1),V.ref b)]:=by
 unfold fL
 rw [List.zipWith_append (by omega)]
 rfl
theorem pD {A:List (Nat × Wt)} {bs:List Addr} (hl:bs.length=A.length):(fL A bs).length=A.length:=by
 unfold fL
 rw [List.length_zipWith]
 omega
theorem bZ5 {A:List (Nat × Wt)} {bs:List Addr} (nd:(A.map (·.1)).Nodup) (hl:bs.length=A.length) {j f:Nat} {w:Wt} {b:Addr} (hA:A[j]?=some (f,w)) (hb:bs[j]?=some b):bU (fL A bs) (Sum.inr (one f))=some (.ref b):=by
 induction A generalizing bs j with
 | nil=>cases hA
 | cons x A ih=>
   cases bs with
   | nil=>cases hl
   | cons e bs=>
     show bU ((Sum.inr (one x.1),V.ref e) :: fL A bs) _=_
     rw [Ar,By] at nd
     cases j with
     | zero=>cases hA; cases hb; exact cD rfl
     | succ j=>
       have hm:f∈A.map (·.1):=Bg.mpr ⟨(f,w),Ak (show A[j]?=some (f,w) from hA),rfl⟩
       rw [bY (λz=>nd.1 (by rw [key_one.mp z]; exact hm))]
       exact ih nd.2 (by simpa using hl) hA hb
def WtsAt (H:Hp) (rs:List Addr) (ws:List Wt):Prop:=rs.length=ws.length/\∀ (j:Nat) r w,rs[j]?=some r->ws[j]?=some w->H r=some (.tup (wV w))
theorem WtsAt.keep {H H':Hp} {rs:List Addr} {ws:List Wt} (h:WtsAt H rs ws) (k:∀ r w,H r=some (.tup (wV w))->H' r=some (.tup (wV w))):WtsAt H' rs ws:=⟨h.1,λj r w hr hw=>k _ _ (h.2 j r w hr hw)⟩
theorem WtsAt.app {H:Hp} {rs qs:List Addr} {ws vs:List Wt} (h:WtsAt H rs ws) (g:WtsAt H qs vs):WtsAt H (rs ++ qs) (ws ++ vs):=by
 refine ⟨by rw [Aj,Aj,h.1,g.1],λj r w hr hw=>?_⟩
 by_cases hj:j < rs.length
 · rw [As hj] at hr
   rw [As (by rw [<-h.1]; exact hj)] at hw
   exact h.2 j r w hr hw
 · rw [Ax (by omega)] at hr
   rw [Ax (by rw [<-h.1]; omega),<-h.1] at hw
   exact g.2 _ r w hr hw
theorem WtsAt.one {H:Hp} {r:Addr} {w:Wt} (h:H r=some (.tup (wV w))):WtsAt H [r] [w]:=⟨rfl,λj q v hq hv=>by
 cases j with
 | zero=>cases hq; cases hv; exact h
 | succ j=>cases hq⟩
def ChRd (H:Hp) (r:Addr) (cws:List (List Nat)):Prop:=∃ ds:List Addr,ds.length=(wl cws).length/\Rd H r (.dT (dS (wl cws) ds))/\∀ (j:Nat) w d,(wl cws)[j]?=some w->ds[j]?=some d->H d=some (.lst (((chW cws w).map one).map V.str))
theorem ChRd.keep {H H':Hp} {r:Addr} {cws:List (List Nat)} (h:ChRd H r cws) (s:Same H H'):ChRd H' r cws:=by
 obtain ⟨ds,h1,h2,h3⟩:=h
 exact ⟨ds,h1,h2.elim (λe=>.inl (s _ _ e)) λ⟨o,e⟩=>.inr ⟨o,s _ _ e⟩,λj w d hw hd=>s _ _ (h3 j w d hw hd)⟩
structure HungOk (cws:List (List Nat)) (m:List (Wt × Nat)):Prop where
 nd:(m.map (·.1)).Nodup
 sub:∀ x∈m,x.1∈wl cws
theorem bZ9 {cws:List (List Nat)} (hL:∀ c∈cws,c.length<=7/\∀ d∈c,bK d) {w:Wt} (hw:w∈wl cws) {f:Nat} (hf:f∈chW cws w):lE f:=by
 obtain ⟨h1,h2,h3⟩:=wlP_mem.mp hw
 have ecw:cws[w.1]?=some (cws.getD w.1 []):=by rw [Ad,Aa h1]; rfl
 rcases ch_iff.mp hf with e | ⟨n,_,h4,_,e⟩
 · rw [e]
   exact .inl (vQ (hL _ (Ak ecw)).2 (by omega))
 · rw [e]
   exact .inr ⟨by omega,by omega⟩
theorem bZS {cws:List (List Nat)} {m:List (Wt × Nat)} {first:Wt} {A:List (Nat × Wt)} (hm:HungOk cws m) (hfw:first∈wl cws) (h:Asking (chW cws) m first A) {j f:Nat} {w:Wt} (hj:A[j]?=some (f,w)):w∈wl cws:=by
 rcases (h.ok j f w hj).2 with e | ⟨g,i,v,_,_,hg⟩
 · rw [e]; exact hfw
 · exact hm.sub _ (yD hg)
theorem aXF {cws:List (List Nat)} {m:List (Wt × Nat)} {first:Wt} {A:List (Nat × Wt)} (hm:HungOk cws m) (hfw:first∈wl cws) (hL:∀ c∈cws,c.length<=7/\∀ d∈c,bK d) (h:Asking (chW cws) m first A):A.length<=27:=by
 have r:=uG (m:=flagsT.cps.toList) h.nd λf hf=>by
   obtain ⟨x,hx,rfl⟩:=Bg.mp hf
   obtain ⟨j,hj,e⟩:=Ca.mp hx
   have hj2:A[j]?=some (x.1,x.2):=by rw [Aa hj,e]
   exact flags_mem.mpr (bZ9 hL (bZS hm hfw h hj2) (h.ok j _ _ hj2).1)
 rw [Ab] at r
 exact r
def kT:Sp:=λvs H Q _=>∃ (bf ac ah:Addr) (cws:List (List Nat)) (m:List (Wt × Nat)) (first:Wt),vs=[.ref bf,.ref ac,.ref ah]/\H bf=some (.tup (wV first))/\first∈wl cws/\ChRd H ac cws/\H ah=some (.dT (gG m))/\HungOk cws m/\m.length<=56/\cws.length<=8/\(∀ c∈cws,c.length<=7/\∀ d∈c,bK d)/\
 ∀ (r:Addr) (A:List (Nat × Wt)) (bs:List Addr) (H':Hp),H r=none->Same H H'->H' r=some (.dK (fL A bs))->WtsAt H' bs (A.map (·.2))->Asked (chW cws) m first A->Q (.ref r) H'
theorem sc_asked_from:FnScope ["first", "choices", "hung", "asked", "reached", "at", "asking", "flag"] ["first", "choices", "hung"] (aG cX):=⟨rfl,rfl,rfl,by decide +kernel,rfl,by decide +kernel,by decide +kernel⟩
theorem rB {Zo Zz Zr Zx Zs Zp Zu Zw Zy Zt Zv Zq:Addr} {f:Addr} {fd:FuncData} (F:Fun K "asked_from" "asked_from" cX f fd) (G:Gs K mg Zo Zz Zr Zx Zs Zp Zu Zw Zy Zt Zv Zq)  : FnOk P w K mg base CX0 1 f fd ["first", "choices", "hung"] kT:=by
 refine F.ok sc_asked_from (λvs H Q E h=>?_) (λcdv A outer s H vs Q E hr h=>?_)
 · obtain ⟨bf,ac,ah,cws,m,first,rfl,_⟩:=h; rfl
 obtain ⟨bf,ac,ah,cws,m,first,rfl,hbf,hfw,hch,hah,hm,hml,h8,hL,q⟩:=h
 refine ⟨_,(@aF _ _ _ _ _ (@aP _ _ 3 _ _ _ _ sc_asked_from.nd (by rfl) (by exact (Or.inl rfl)) qF (by rfl) (by first | exact Or.inl rfl | exact Or.inr rfl)) (@aF _ _ _ _ _ (@aP _ _ 4 _ _ _ _ sc_asked_from.nd (by rfl) (by exact (Or.inl rfl)) (bE (aA (mv 0) aB)) (by rfl) (by first | exact Or.inl rfl | exact Or.inr rfl)) (@aF _ _ _ _ _ (@aP _ _ 5 _ _ _ _ sc_asked_from.nd (by rfl) (by exact (Or.inl rfl)) aJ (by rfl) (by first | exact Or.inl rfl | exact Or.inr rfl)) (@aF _ _ _ _ _ (yH Ba (bC bJT (mv 5) (bA gQ rfl G.b_len dE (aA (mv 4) aB)) (bG _)) (@aF _ _ _ _ _ (@aP _ _ 6 _ _ _ _ sc_asked_from.nd (by rfl) (by exact (Or.inl rfl)) (bH cC (mv 4) (mv 5) (λ_ _=>rfl)) (by rfl) (by first | exact Or.inl rfl | exact Or.inr rfl)) (@aF _ _ _ _ _ (bP Ba rfl (bW (gI (Room.u1 hr) (mv 1) (mv 6) (λ_ _=>rfl))) (aQ (i:=7) sc_asked_from.nd rfl (Or.inr rfl)) (@aI _ _ _ (cT (bC (bZN (Room.u1 hr)) (mv 7) (mv 3) (by rfl)) (@aF _ _ _ _ _ (dB (Room.u1 hr) (mv 3) (mv 7) (mv 6) rfl) (@aI _ _ _ (cK (dD Bq Dr Ds vM (mv 4) (aA (bQW (dC rfl (mM (mv 2)) (fZ (N:=["want", "flag", "hung"]) ["first", "choices", "hung", "asked", "reached", "at", "asking", "flag"] (aG cX) [none,some 7,some 2] rfl rfl rfl (λx h=>cA h) (by decide +kernel)) (by decide +kernel) rfl (by decide +kernel) (λC s₀ H₀ ex=>(aQ (i:=0) (show List.Nodup (["want", "flag", "hung"]:List Str) by decide +kernel) rfl (Or.inl rfl))) (λC s₀ H₀ ex=>(jK (bC vA (gI (Room.u1 hr) (mv 2) (mv 0) (λ_ _=>rfl)) (mv 1) (bG _)))) (λC s₀ H₀ ex=>(mv 0)))) aB))))) bS))) (@aI _ _ _ (@aP _ _ 5 _ _ _ _ sc_asked_from.nd (by rfl) (by exact (Or.inl rfl)) (aT bZ (mv 5) aJ) (by rfl) (by first | exact Or.inl rfl | exact Or.inr rfl)))))) (@aI _ _ _ (aV (mv 3))))))),?_⟩
 walk_at "go"
 intro pa hpa
 walk_at "go"
 refine ⟨by show 1<=sizeLine; decide,λpr hpr=>?_⟩
 have s1:=(aE hpa (.dK [])).trans (aE hpr (.lst [.ref bf]))
 have npr:pa≠pr:=λz=>by rw [<-z,aD] at hpr; cases hpr
 have ea1:(upd (upd H pa (.dK [])) pr (.lst [.ref bf])) pa=some (.dK []):=by rw [aK npr,aD]
 have er1:(upd (upd H pa (.dK [])) pr (.lst [.ref bf])) pr=_:=aD
 have hpr0:H pr=none:=none_of (aE hpa _) hpr
 generalize upd (upd H pa (.dK [])) pr (.lst [.ref bf])=H1 at s1 ea1 er1 ⊢
 walk_at "go"
 refine ⟨λn σ H'=>∃ (A:List (Nat × Wt)) (bs rs:List Addr) (t:Nat) (v1 v2:Option V),σ=[some (.ref bf),some (.ref ac),some (.ref ah),some (.ref pa),some (.ref pr),some (.int (t:Int)),v1,v2]/\Same H H'/\H' pa=some (.dK (fL A bs))/\WtsAt H' bs (A.map (·.2))/\H' pr=some (.lst (rs.map V.ref))/\WtsAt H' rs (cE m first A)/\
     Asking (chW cws) m first A/\t<=(cE m first A).length/\(∀ (j:Nat) w,j < t->(cE m first A)[j]?=some w->∀ f∈chW cws w,f∈A.map (·.1))/\n=1 + m.length - t,⟨_,[],[],[bf],0,_,_,rfl,s1,ea1,⟨rfl,λj r w hr=>(nomatch hr)⟩,er1,.one (s1 _ _ hbf),⟨List.nodup_nil,λj f w hj=>(nomatch hj)⟩,Ci _,λj w hj=>absurd hj (Fy _),rfl⟩,?_⟩
 rintro n σ H2 ⟨A,bs,rs,t,v1,v2,rfl,s2,ea2,wb2,er2,wr2,hask,htl,hcl,rfl⟩
 have hrl:(rs.map V.ref).length=(cE m first A).length:=by rw [Ab,wr2.1]
 have rr2:=aO er2
 walk_at "go"
 rw [hrl]
 refine gD (λhd=>?_) (λhd=>?_)
 · have hd':=Bf hd
   have ht:t < (cE m first A).length:=by omega
   have hrm:=rN (m:=m) (first:=first) hask.nd
   have htr:t < rs.length:=by rw [wr2.1]; exact ht
   have ew:(cE m first A)[t]?=some (cE m first A)[t]:=Aa ht
   have er:rs[t]?=some rs[t]:=Aa htr
   have hwt:=wr2.2 t _ _ er ew
   have hww:(cE m first A)[t]∈wl cws:=by
     rcases reach_mem.mp (Bw ht) with e | ⟨f,_,hm2⟩
     · rw [e]; exact hfw
     · exact hm.sub _ hm2
   generalize hbw:rs[t]=b at hwt er
   generalize hwe:(cE m first A)[t]=w at hwt hww ew
   clear hbw hwe hd hd'
   obtain ⟨ds,d1,d2,d3⟩:=id hch
   obtain ⟨jw,hjw,ejw⟩:=Ca.mp hww
   have ejw2:(wl cws)[jw]?=some w:=by rw [Aa hjw,ejw]
   have edw:ds[jw]?=some (ds[jw]'(by omega)):=Aa (by omega)
   have hdlH:=d3 jw w _ ejw2 edw
   have hdv:=aJH (lL cws cws.length) d1 ejw2 edw
   generalize (ds[jw]'(by omega))=dl at hdlH hdv
   have hdl:=s2 _ _ hdlH
   have d22:Rd H2 ac (.dT (dS (wl cws) ds)):=d2.elim (λe=>.inl (s2 _ _ e)) λ⟨o,e⟩=>.inr ⟨o,s2 _ _ e⟩
   refine ⟨λσ' H'=>∃ (A:List (Nat × Wt)) (bs rs:List Addr) (v1 v2:Option V),σ'=[some (.ref bf),some (.ref ac),some (.ref ah),some (.ref pa),some (.ref pr),some (.int ((t + 1:Nat):Int)),v1,v2]/\Same H H'/\H' pa=some (.dK (fL A bs))/\WtsAt H' bs (A.map (·.2))/\H' pr=some (.lst (rs.map V.ref))/\WtsAt H' rs (cE m first A)/\
     Asking (chW cws) m first A/\t + 1<=(cE m first A).length/\(∀ (j:Nat) w,j < t + 1->(cE m first A)[j]?=some w->∀ f∈chW cws w,f∈A.map (·.1)),?_,?_⟩
   · rintro σ' H' ⟨A',bs',rs',v1',v2',rfl,g1,g2,g3,g4,g5,g6,g7,g8⟩
     exact ⟨1 + m.length - (t + 1),by omega,A',bs',rs',t + 1,v1',v2',rfl,g1,g2,g3,g4,g5,g6,g7,g8,rfl⟩
   walk_at "go"
   refine cL rr2 (v:=.ref b) (eO (by rw [Ag,er]; rfl)) ?_
   walk_at "go"
   refine aQC (k:=cG w) d22 hwt hdv ?_
   have rdl:=aO hdl
   have hcl5:=(cX8 (cws.getD w.1 []) (w.2 - 1)).2
   have hcm:(((chW cws w).map one).map V.str).length=(chW cws w).length:=by rw [Ab,Ab]
   walk_at "go"
   have kt:∀ {H':Hp} {p:Addr} {u u':HO},H' p=some u->(∀ ws,u≠.tup ws)->∀ r w,H' r=some (.tup (wV w))->(upd H' p u') r=some (.tup (wV w)):=fun {H' p u u'} e ne r w h=>by
     rw [aK (λz=>by rw [z,e] at h; cases h; exact ne _ rfl)]
     exact h
   refine cN (xs:=((chW cws w).map one).map V.str) (λi σ H'=>∃ (A:List (Nat × Wt)) (bs rs:List Addr) (v2:Option V),σ=[some (.ref bf),some (.ref ac),some (.ref ah),some (.ref pa),some (.ref pr),some (.int (t:Int)),some (.ref b),v2]/\Same H H'/\H' pa=some (.dK (fL A bs))/\WtsAt H' bs (A.map (·.2))/\H' pr=some (.lst (rs.map V.ref))/\WtsAt H' rs (cE m first A)/\
       H' b=some (.tup (wV w))/\Asking (chW cws) m first A/\(cE m first A)[t]?=some w/\(∀ (j:Nat) v,j < t->(cE m first A)[j]?=some v->∀ f∈chW cws v,f∈A.map (·.1))/\∀ f∈(chW cws w).take i,f∈A.map (·.1))
     ⟨A,bs,rs,_,rfl,s2,ea2,wb2,er2,wr2,hwt,hask,ew,hcl,λf hf=>(nomatch hf)⟩ (λi σ H' _ ⟨_,_,_,_,_,e,_⟩=>aO (e _ _ hdlH)) ?_ ?_
   · clear hask ew hcl hrm htl hrl rr2 wr2 er2 wb2 ea2 er
     rintro i x σ H3 hx ⟨A,bs,rs,v2,rfl,s3,ea,wb,er,wr,hb,hask,ew,hcl,hpre⟩
     rw [Ag,Ag] at hx
     cases ef:(chW cws w)[i]? with
     | none=>rw [ef] at hx; cases hx
     | some f=>
       rw [ef] at hx
       cases hx
       have hfc:=Ak ef
       have htk:(chW cws w).take (i + 1)=(chW cws w).take i ++ [f]:=by rw [Az,ef]; rfl
       have hbl:bs.length=A.length:=by rw [wb.1,Ab]
       have hAl:=aXF hm hfw hL hask
       walk_at "go"
       refine cZR (neg:=true) (z:=one f) (.inl ea) ?_
       rw [if_pos rfl,kG hbl]
       refine gD (λhd=>?_) (λhd=>?_)
       · have hni:f ∉ A.map (·.1):=λz=>by rw [Ap z] at hd; cases hd
         walk_at "go"
         refine eU (z:=one f) ea (aY (by rw [pD hbl]; omega)) ?_
         rw [iF _ (bQE hbl hni),<-aZI (x:=(f,w)) hbl]
         have s4:Same H (upd H3 pa (.dK (fL (A ++ [(f,w)]) (bs ++ [b])))):=aW hpa s3
         have ea4:(upd H3 pa (.dK (fL (A ++ [(f,w)]) (bs ++ [b])))) pa=_:=aD
         have er4:(upd H3 pa (.dK (fL (A ++ [(f,w)]) (bs ++ [b])))) pr=_:=(aK (Ne.symm npr)).trans er
         have k4:=kt (u':=.dK (fL (A ++ [(f,w)]) (bs ++ [b]))) ea (λws z=>nomatch z)
         have wb4:=wb.keep k4
         have wr4:=wr.keep k4
         have hb4:=k4 _ _ hb
         generalize upd H3 pa (.dK (fL (A ++ [(f,w)]) (bs ++ [b])))=H4 at s4 ea4 er4 wb4 wr4 hb4 ⊢
         have ah4:=s4 _ _ hah
         clear k4 wb wr er ea s3 hb
         walk_at "go"
         refine uF ah4 λo=>?_
         have fz:(upd H4 ah (.frz o (.dT (gG m)))) ah=_:=aD
         have hkl:(gG m).length=m.length:=by unfold gG; rw [Ab]
         refine gA (n:=m.length) (λD i ys Hc=>Same (upd H4 ah (.frz o (.dT (gG m)))) Hc/\∃ qs,ys=qs.map V.ref/\WtsAt Hc qs (eC (m.take i) f)) (aY (by omega)) (λD hD=>⟨aE hD _,[],rfl,rfl,λj r w hr=>(nomatch hr)⟩) (λD i ys Hc _ r h=>⟨r.1 _ _ fz,by omega⟩) (λD ys Hc _ r=>⟨r.1 _ _ fz,hkl⟩) ?_ ?_
         · rintro D i2 ys Hc x H' A' B' hD hi2 ⟨sm,qs,rfl,wq⟩ hDc ⟨rfl,kv,b2,hkv,rfl,hb2⟩ hA' hB'
           have em:m[i2]?=some m[i2]:=Aa hi2
           unfold gG at hkv
           rw [Ag,em] at hkv
           cases hkv
           have hbt:H' b2=some (.tup (wV m[i2].1)):=hb2
           have hv:bU (gG m) (cG m[i2].1)=some (.str (one m[i2].2)):=by
             rw [jR,lY hm.nd (w:=m[i2].1) (f:=m[i2].2) (Bw hi2)]
             rfl
           have tk:m.take (i2 + 1)=m.take i2 ++ [m[i2]]:=by rw [Az,em]; rfl
           rw [tk] at hA' hB'
           generalize m[i2]=x2 at hbt hv hA' hB'
           walk_at "go"
           refine ⟨Wk.set rfl (Wk.refl _),?_⟩
           walk_at "go"
           refine aQC (k:=cG x2.1) (.inr ⟨o,sm _ _ fz⟩) hbt hv ?_
           walk_at "go"
           rw [show decide (one x2.2=one f)=decide (x2.2=f) from uX _ _]
           refine gD (λhe=>?_) (λhe=>?_)
           · have he':=Bf he
             walk_at "go"
             refine hA' _ _ hDc ⟨aW hD sm,qs ++ [b2],by rw [Al]; rfl,?_⟩
             rw [show eC (m.take i2 ++ [x2]) f=eC (m.take i2) f ++ [x2.1] by unfold eC; rw [List.filter_append,List.map_append]; simp [he']]
             exact (wq.app (.one hbt)).keep (kt hDc (λws z=>nomatch z))
           · have he':=Bx (Bt.mpr he)
             walk_at "go"
             refine hB' _ hDc ⟨sm,qs,rfl,?_⟩
             rw [show eC (m.take i2 ++ [x2]) f=eC (m.take i2) f by unfold eC; rw [List.filter_append,List.map_append]; simp [he']]
             exact wq
         · rintro D ys Hc hD ⟨sm,qs,rfl,wq⟩ hDc _
           rw [Bp] at wq
           have hD4:H4 D=none:=by
             by_cases z:D=ah
             · rw [z,aD] at hD; cases hD
             · rw [aK z] at hD; exact hD
           have su:=qQ ah4 (λo v z=>nomatch z) sm
           have eu:=eP (Hs:=H4) hDc (λo v z=>nomatch z)
           have wqu:WtsAt (unf H4 Hc) qs (eC m f):=wq.keep λr w h=>eP h (λo v z=>nomatch z)
           generalize unf H4 Hc=Hu at su eu wqu
           have eru:=su _ _ er4
           have hmr:=bI eru
           have hmd:=bI eu
           have nDr:pr≠D:=bJ er4 hD4
           have hq1:qs.length<=56:=by rw [wqu.1,yQ]; unfold ctm; exact Bb List.countP_le_length hml
           have hr1:rs.length<=57:=by rw [wr4.1]; exact Bb (rN hask.nd) (by omega)
           have hlen:(rs.map V.ref).length + (qs.map V.ref).length<=sizeLine:=bQ (by rw [Ab,Ab]; omega)
           walk_at "go"
           have kr:=kt (u':=.lst (rs.map V.ref ++ qs.map V.ref)) eru (λws z=>nomatch z)
           have hRt:=(Ae.mp ew).1
           refine ⟨A ++ [(f,w)],bs ++ [b],rs ++ qs,_,rfl,aW hpr0 (s4.trans su),?_,?_,?_,?_,?_,hask.snoc hm.nd hni hfc (Ak ew),?_,λj v hj hv=>?_,λg hg=>?_⟩
           · rw [aK npr]
             exact su _ _ ea4
           · rw [Al]
             exact ((wb4.keep λr w h=>su _ _ h).app (.one (su _ _ hb4))).keep kr
           · rw [aD,Al]
           · rw [lM]
             exact ((wr4.keep λr w h=>su _ _ h).app wqu).keep kr
           · exact kr _ _ (su _ _ hb4)
           · rw [lM,As hRt]
             exact ew
           · rw [lM,As (by omega)] at hv
             intro g hg
             rw [Al]
             exact Cm _ (hcl j v hj hv g hg)
           · rw [htk] at hg
             rw [Al]
             rcases Bi.mp hg with z | z
             · exact Cm _ (hpre g z)
             · rw [Aw.mp z]; exact Bk _ (Aw.mpr rfl)
       · have hin:f∈A.map (·.1):=by
           rw [Bool.not_eq_true,Bool.not_eq_false'] at hd
           exact Bf hd
         walk_at "go"
         refine ⟨A,bs,rs,_,rfl,s3,ea,wb,er,wr,hb,hask,ew,hcl,λg hg=>?_⟩
         rw [htk] at hg
         rcases Bi.mp hg with z | z
         · exact hpre g z
         · rw [Aw.mp z]; exact hin
   · clear hask ew hcl hrm htl hrl rr2 wr2 er2 wb2 ea2 er
     rintro σ H3 ⟨A,bs,rs,v2,rfl,s3,ea,wb,er,wr,hb,hask,ew,hcl,hpre⟩
     rw [hcm,Bp] at hpre
     walk_at "go"
     refine ⟨A,bs,rs,_,_,rfl,s3,ea,wb,er,wr,hask,(Ae.mp ew).1,λj v hj hv=>?_⟩
     by_cases hjt:j < t
     · exact hcl j v hjt hv
     · have:j=t:=by omega
       subst this
       rw [ew] at hv
       cases hv
       exact hpre
 · have hd':=Bx (Bt.mpr hd)
   walk_at "go"
   refine q pa A bs H2 hpa s2 ea2 wb2 (hask.done λw hw f hf=>?_)
   obtain ⟨j,hj,ej⟩:=Ca.mp hw
   exact hcl j w (by omega) (by rw [Aa hj,ej]) f hf
theorem xW {m:List (Wt × Nat)} {w:Wt} {f:Nat}:dH (gG m) (cG w) (.str (one f))=gG (aJB m w f):=by
 have e:((gG m).any λkv=>decide (kv.1=cG w))=(dN m w).isSome:=by
   rw [eV,jR]
   cases dN m w <;> rfl
 unfold dH aJB
 rw [e]
 by_cases h:(dN m w).isSome=true
 · rw [if_pos h,if_pos h]
   unfold gG
   rw [Cw,Cw]
   refine Cz λx _=>?_
   show (if cG x.1=cG w then (cG x.1,V.str (one f)) else (cG x.1,V.str (one x.2)))=(λx:Wt × Nat=>(cG x.1,V.str (one x.2))) (if x.1=w then (x.1,f) else x)
   by_cases ex:x.1=w
   · rw [if_pos ex,if_pos (by rw [ex])]
   · rw [if_neg ex,if_neg (λz=>ex (jY z))]
 · rw [if_neg h,if_neg h]
   unfold gG
   rw [Al]
   rfl
def kR:Sp:=λvs H Q _=>∃ (aa ah:Addr) (cws:List (List Nat)) (m:List (Wt × Nat)) (first:Wt) (A:List (Nat × Wt)) (bs:List Addr) (f0:Nat),vs=[.str (one f0),.ref aa,.ref ah]/\H aa=some (.dK (fL A bs))/\WtsAt H bs (A.map (·.2))/\Asking (chW cws) m first A/\H ah=some (.dT (gG m))/\(m.map (·.1)).Nodup/\first ∉ m.map (·.1)/\(∀ v f,(v,f) ∈ m->f ∈ chW cws v)/\f0 ∈ A.map (·.1)/\m.length<=56/\
 ∀ (m':List (Wt × Nat)) (H':Hp),(∀ b u,b≠ah->H b=some u->H' b=some u)->H' ah=some (.dT (gG m'))->m'.map (·.1)=m.map (·.1) ++ [first]->(∀ v f,(v,f)∈m'->f∈chW cws v)->(∀ f,ctm m' f=ctm m f + (if f=f0 then 1 else 0))->Q .non H'
theorem sc_hang_along:FnScope ["flag", "asked", "hung", "want", "given"] ["flag", "asked", "hung"] (aG dM):=⟨rfl,rfl,rfl,by decide +kernel,rfl,by decide +kernel,by decide +kernel⟩
theorem rJ {Zo Zz Zr Zx Zs Zp Zu Zw Zy Zt Zv Zq:Addr} {f:Addr} {fd:FuncData} (F:Fun K "hang_along" "hang_along" dM f fd) (G:Gs K mg Zo Zz Zr Zx Zs Zp Zu Zw Zy Zt Zv Zq)  : FnOk P w K mg base CX0 1 f fd ["flag", "asked", "hung"] kR:=by
 refine F.ok sc_hang_along (λvs H Q E h=>?_) (λcdv A outer s H vs Q E hr h=>?_)
 · obtain ⟨aa,ah,cws,m,first,A,bs,f0,rfl,_⟩:=h; rfl
 obtain ⟨aa,ah,cws,m,first,A,bs,f0,rfl,haa,hwb,hask,hah,nd,hnf,hmc,hf0,hml,q⟩:=h
 refine ⟨_,(@aI _ _ _ (yH Ba (bC tK (mv 0) cV (bG _)) (@aF _ _ _ _ _ (@aP _ _ 3 _ _ _ _ sc_hang_along.nd (by rfl) (by exact (Or.inl rfl)) (gI (Room.u1 hr) (mv 1) (mv 0) (λ_ _=>rfl)) (by rfl) (by first | exact Or.inl rfl | exact Or.inr rfl)) (@aF _ _ _ _ _ (@aP _ _ 4 _ _ _ _ sc_hang_along.nd (by rfl) (by exact (Or.inl rfl)) (dP Bl Ce (bZ1 (Room.u1 hr)) (mv 2) (aA (mv 3) aB)) (by rfl) (by first | exact Or.inl rfl | exact Or.inr rfl)) (@aF _ _ _ _ _ (dB (Room.u1 hr) (mv 2) (mv 3) (mv 0) rfl) (@aI _ _ _ (@aP _ _ 0 _ _ _ _ sc_hang_along.nd (by rfl) (by exact (Or.inl rfl)) (mv 4) (by rfl) (by first | exact Or.inl rfl | exact Or.inr rfl)))))))),?_⟩
 have hbl:bs.length=A.length:=by rw [hwb.1,Ab]
 have nah:aa≠ah:=λz=>by rw [z,hah] at haa; cases haa
 obtain ⟨x0,hx0,e0⟩:=Bg.mp hf0
 obtain ⟨j0,hj0,ej0⟩:=Ca.mp hx0
 have ej:A[j0]?=some (f0,x0.2):=by rw [Aa hj0,ej0,<-e0]
 walk_at "go"
 refine ⟨λn σ H'=>(∃ (m2:List (Wt × Nat)) (c j:Nat) (w:Wt) (v1 v2:Option V),σ=[some (.str (one c)),some (.ref aa),some (.ref ah),v1,v2]/\(∀ b u,b≠ah->H b=some u->H' b=some u)/\H' ah=some (.dT (gG m2))/\Along (chW cws) m A f0 m2 c j w/\n=j + 1)\/
     (∃ (m':List (Wt × Nat)) (v1 v2:Option V),σ=[some .non,some (.ref aa),some (.ref ah),v1,v2]/\(∀ b u,b≠ah->H b=some u->H' b=some u)/\H' ah=some (.dT (gG m'))/\m'.map (·.1)=m.map (·.1) ++ [first]/\(∀ v f,(v,f)∈m'->f∈chW cws v)/\(∀ f,ctm m' f=ctm m f + (if f=f0 then 1 else 0))/\n=0),
   ⟨_,.inl ⟨m,f0,j0,x0.2,none,none,rfl,λb u _ h=>h,hah,⟨rfl,hmc,λf=>rfl,ej,λv g i u hg _ _=>hg⟩,rfl⟩⟩,?_⟩
 rintro n σ H2 (⟨m2,c,j,w,v1,v2,rfl,fr,eh,al,rfl⟩ | ⟨m',v1,v2,rfl,fr,eh,hk,hc,hct,rfl⟩)
 · walk_at "go"
   rw [show (!decide (V.str (one c)=V.non))=true from rfl]
   walk_at "go"
   have hjl:=(Ae.mp al.at_).1
   have ebj:bs[j]?=some (bs[j]'(by omega)):=Aa (by omega)
   have hbt:=hwb.2 j _ w ebj (by rw [Ag,al.at_]; rfl)
   have hav:=bZ5 hask.nd hbl al.at_ ebj
   generalize (bs[j]'(by omega))=b at hbt hav
   have nb:b≠ah:=λz=>by rw [z,hah] at hbt; cases hbt
   have haa2:=fr _ _ nah haa
   have hb2:=fr _ _ nb hbt
   have hkl:(gG m2).length < sizeLine:=by
     have:m2.length=m.length:=by rw [<-Ab (f:=(·.1)) (as:=m2),al.keys,Ab]
     unfold gG
     rw [Ab]
     exact aY (by omega)
   have hdd:isD H2 ah=true:=by unfold isD; rw [eh]
   refine ⟨_,λσ' H' h=>h,?_⟩
   walk_at "go"
   refine pL (z:=one c) (.inl haa2) hav ?_
   walk_at "go"
   refine aQW (k:=cG w) (.inl eh) hb2 ?_
   rw [jR]
   have fr2:∀ o,∀ b u,b≠ah->H b=some u->(upd H2 ah o) b=some u:=λo b u hb hu=>by rw [aK hb]; exact fr b u hb hu
   rcases (hask.ok j c w al.at_).2 with rfl | ⟨g,i,v,hij,hi,hg⟩
   · obtain ⟨l1,l2,l3,l4⟩:=al.last hask hnf
     rw [l1]
     walk_at "go"
     refine oH (k:=cG w) eh hb2 hkl ?_
     rw [xW,show aJB m2 w c=m2 ++ [(w,c)] by unfold aJB; rw [l1]; rfl]
     walk_at "go"
     exact ⟨0,by omega,.inr ⟨m2 ++ [(w,c)],_,_,rfl,fr2 _,aD,l2,l3,l4,rfl⟩⟩
   · obtain ⟨l1,l2⟩:=al.step hask nd hg hi hij
     rw [l1]
     walk_at "go"
     refine oH (k:=cG w) eh hb2 hkl ?_
     rw [xW,show aJB m2 w c=m2.map λx=>if x.1=w then (x.1,c) else x by unfold aJB; rw [l1]; rfl]
     walk_at "go"
     exact ⟨i + 1,by omega,.inl ⟨_,g,i,v,_,_,rfl,fr2 _,aD,l2,rfl⟩⟩
 · walk_at "go"
   exact q m' H2 fr eh hk hc hct
def fP (aC:Addr):Sp:=λvs H Q _=>∃ (ea p q:Addr) (xs ys:List V),vs=[.ref ea,.ref p,.ref q]/\H ea=some (eK ea aC none)/\rdL H p=some xs/\rdL H q=some ys/\
 ∀ (dx l1 l2:Addr) (H':Hp),(∀ b u,b≠ea->H b=some u->H' b=some u)->H dx=none->dx≠ea->H' ea=some (eK ea aC (some dx))->H' dx=some (xdO dx [("flags",.ref l2),("wants",.ref l1)])->H' l1=some (.lst xs)->H' l2=some (.lst ys)->H l1=none->H l2=none->Q .non H'
theorem uO:FnScope ["self", "wants", "flags"] ["self", "wants", "flags"] (aG eJ):=⟨rfl,rfl,rfl,by decide +kernel,rfl,by decide +kernel,by decide +kernel⟩
theorem vD {Zo Zz Zr Zx Zs Zp Zu Zw Zy Zt Zv Zq:Addr} {f:Addr} {fd:FuncData} (F:Fun K "__init__" "Lack.__init__" eJ f fd) (G:Gs K mg Zo Zz Zr Zx Zs Zp Zu Zw Zy Zt Zv Zq)  : FnOk P w K mg base CX0 1 f fd ["self", "wants", "flags"] (fP Zo):=by
 refine F.ok uO (λvs H Q E h=>?_) (λcdv A outer s H vs Q E hr h=>?_)
 · obtain ⟨ea,p,q,xs,ys,rfl,_⟩:=h; rfl
 obtain ⟨ea,p,q,xs,ys,rfl,he,hp,hq,qq⟩:=h
 refine ⟨_,(@aF _ _ _ _ _ (cK (xV rfl G.c_TowerError G.t1_TowerError G.t2_TowerError G.t3_TowerError (aA (mv 0) (aA (bM lG rfl G.b_list fI (aA (mv 1) aB)) (aA (bM lG rfl G.b_list fI (aA (mv 2) aB)) aB))))) (@aF _ _ _ _ _ (uA (mv 0) (bM lG rfl G.b_list fI (aA (mv 1) aB)) rfl) (@aI _ _ _ (uA (mv 0) (bM lG rfl G.b_list fI (aA (mv 2) aB)) rfl)))),?_⟩
 walk_at "go"
 intro l1 hl1
 have s1:=aE hl1 (.lst xs)
 generalize upd H l1 (.lst xs)=H1 at s1 ⊢
 have hq1:=aH s1 hq
 walk_at "go"
 intro l2 hl2
 have s2:=s1.trans (aE hl2 (.lst ys))
 generalize upd H1 l2 (.lst ys)=H2 at s2 ⊢
 have he2:=s2 _ _ he
 walk_at "go"
 refine ⟨ea,[.ref l1,.ref l2],Zo,Zz,none,rfl,by show 2<=sizeLine; decide,he2,(λ_ z=>nomatch z),G.xc_Lack,?_⟩
 have hp2:=aH s2 hp
 walk_at "go"
 intro l3 hl3
 have s3:=s2.trans (aE hl3 (.lst xs))
 have e3:(upd H2 l3 (.lst xs)) l3=_:=aD
 generalize upd H2 l3 (.lst xs)=H3 at s3 e3 ⊢
 have he3:=s3 _ _ he
 walk_at "go"
 refine ⟨ea,Zo,Zz,rfl,G.xc_Lack,G.xn_Lack_wants,.inl ⟨he3,λdx hdx=>?_⟩⟩
 have nde:dx≠ea:=λz=>by rw [z,he3] at hdx; cases hdx
 have fr4:∀ b u,b≠ea->H b=some u->(upd (upd H3 ea (eK ea Zo (some dx))) dx (xdO dx [("wants",.ref l3)])) b=some u:=λb u hb hu=>by
   have e:=s3 _ _ hu
   rw [aK (λz=>by rw [z,hdx] at e; cases e),aK hb]
   exact e
 have ee4:(upd (upd H3 ea (eK ea Zo (some dx))) dx (xdO dx [("wants",.ref l3)])) ea=some (eK ea Zo (some dx)):=by rw [aK nde.symm,aD]
 have ed4:(upd (upd H3 ea (eK ea Zo (some dx))) dx (xdO dx [("wants",.ref l3)])) dx=_:=aD
 have n3e:l3≠ea:=λz=>by rw [z,he3] at e3; cases e3
 have n3d:l3≠dx:=λz=>by rw [z,hdx] at e3; cases e3
 have el4:(upd (upd H3 ea (eK ea Zo (some dx))) dx (xdO dx [("wants",.ref l3)])) l3=some (.lst xs):=by rw [aK n3d,aK n3e]; exact e3
 have hqe:q≠ea:=λz=>by rw [z] at hq; unfold rdL at hq; rw [he] at hq; cases hq
 have hq4:rdL (upd (upd H3 ea (eK ea Zo (some dx))) dx (xdO dx [("wants",.ref l3)])) q=some ys:=by
   have hq3:=aH s3 hq
   rw [aQK (λz=>by rw [z] at hq3; unfold rdL at hq3; rw [hdx] at hq3; cases hq3),aQK hqe]
   exact hq3
 generalize upd (upd H3 ea (eK ea Zo (some dx))) dx (xdO dx [("wants",.ref l3)])=H4 at fr4 ee4 ed4 el4 hq4 ⊢
 walk_at "go"
 intro l4 hl4
 have s5:=aE hl4 (.lst ys)
 have e5:(upd H4 l4 (.lst ys)) l4=_:=aD
 have ee5:=s5 _ _ ee4
 have ed5:=s5 _ _ ed4
 have el5:=s5 _ _ el4
 have n4d:l4≠dx:=λz=>by rw [z,ed4] at hl4; cases hl4
 have n4e:l4≠ea:=λz=>by rw [z,ee4] at hl4; cases hl4
 have h40:H l4=none:=by
   cases e:H l4 with
   | none=>rfl
   | some u=>rw [fr4 _ _ n4e e] at hl4; cases hl4
 generalize upd H4 l4 (.lst ys)=H5 at s5 e5 ee5 ed5 el5 ⊢
 walk_at "go"
 refine ⟨ea,Zo,Zz,rfl,G.xc_Lack,G.xn_Lack_flags,.inr ⟨dx,_,ee5,ed5,(by show 1 < 100; decide),?_⟩⟩
 refine qq dx l3 l4 _ (λb u hb hu=>?_) (none_of s3 hdx) nde (by rw [aK nde.symm]; exact ee5) aD (by rw [aK n3d]; exact el5) (by rw [aK n4d]; exact e5) (none_of s2 hl3) h40
 have e:=s5 _ _ (fr4 b u hb hu)
 rw [aK (λz=>by have q9:=s3 _ _ hu; rw [z,hdx] at q9; cases q9)]
 exact e
structure LackOk (cws:List (List Nat)) (n:Nat->Int) (W:List Wt) (F:List Nat):Prop where
 sub:W.Sublist (wl cws)
 flags:∃ p:Nat->Bool,F=flagsT.cps.toList.filter p
 all:∀ w∈W,∀ f∈chW cws w,f∈F
 few:(F.map n).sum < (W.length:Int)
def ctn (fs:List Nat) (c:Nat):Nat:=fs.countP λx=>decide (x=c)
theorem nH (g:Nat->Nat):∀ L:List Nat,(L.map λc=>((g c:Nat):Int)).sum=(((L.map g).sum:Nat):Int)
 | []=>rfl
 | c :: r=>by
   rw [Ar,Ck,Ar,Ck,nH g r]
   omega
theorem cXV {cws:List (List Nat)} {n0:Nat->Int} {m:List (Wt × Nat)} {first:Wt} {A:List (Nat × Wt)} {fl:Nat->Option Int} {l r:List Wt} (hw:wl cws=l ++ first :: r) (hk:m.map (·.1)=l) (hL:∀ c∈cws,c.length<=7/\∀ d∈c,bK d) (hmo:HungOk cws m) (hfw:first∈wl cws)
   (hA:Asked (chW cws) m first A) (hct:∀ c,aL fl c=n0 c - (ctm m c:Int)/\0<=aL fl c) (h0:∀ c∈A.map (·.1),¬ 0 < aL fl c):LackOk cws n0 (jU m first A (wl cws)) (flagsT.cps.toList.filter λc=>decide (c∈A.map (·.1))):=by
 have hAf:∀ c∈A.map (·.1),lE c:=λc hc=>by
   obtain ⟨x,hx,rfl⟩:=Bg.mp hc
   obtain ⟨j,hj,e⟩:=Ca.mp hx
   have hj2:A[j]?=some (x.1,x.2):=by rw [Aa hj,e]
   exact bZ9 hL (bZS hmo hfw hA.toAsking hj2) (hA.ok j _ _ hj2).1
 have hF:∀ c,c∈flagsT.cps.toList.filter (λc=>decide (c∈A.map (·.1))) ↔ c∈A.map (·.1):=λc=>by
   rw [Ct,Bj]
   exact ⟨λh=>h.2,λh=>⟨flags_mem.mpr (hAf c h),h⟩⟩
 have ndF:(flagsT.cps.toList.filter λc=>decide (c∈A.map (·.1))).Nodup:=List.Nodup.sublist Eu (by decide)
 have nd:=lL cws cws.length
 replace nd:(wl cws).Nodup:=nd
 refine ⟨Eu,⟨_,rfl⟩,λw hwm f hf=>?_,?_⟩
 · refine (hF f).mpr ?_
   have h2:=(lackW_mem.mp hwm).2
   by_cases e:w=first
   · subst e
     exact hA.all1 f hf
   · cases eg:dN m w with
     | none=>rw [qI e eg] at h2; cases h2
     | some g=>
       rw [qJ e eg] at h2
       exact hA.all w g (yD eg) (Bf h2) f hf
 · have e1:(jU m first A (wl cws)).length=1 + m.countP (λx=>decide (x.2∈A.map (·.1))):=by
     rw [hw] at nd ⊢
     exact bQ8 hk nd
   have e2:m.countP (λx=>decide (x.2∈A.map (·.1)))=m.countP (λx=>decide (x.2∈flagsT.cps.toList.filter λc=>decide (c∈A.map (·.1)))):=by
     congr 1
     funext x
     exact Dh.mpr (hF x.2).symm
   have e3:=dQ2 m ndF
   have e4:(flagsT.cps.toList.filter λc=>decide (c∈A.map (·.1))).map n0=(flagsT.cps.toList.filter λc=>decide (c∈A.map (·.1))).map λc=>((ctm m c:Nat):Int):=Cz λc hc=>by
     have h1:=hct c
     have h2:=h0 c ((hF c).mp hc)
     omega
   rw [e4,nH,e1,e2,e3]
   omega
def jI (aC:Addr):Sp:=λvs H Q E=>∃ (a b:Addr) (kvs:List (Key × V)) (f:Nat->Option Int) (cws:List (List Nat)),vs=[.ref a,.ref b]/\Rd H a (.dK kvs)/\Lk kvs f/\rdL H b=some ((cws.map aZ).map V.str)/\cws.length<=8/\(∀ c∈cws,c.length<=7/\∀ d∈c,bK d)/\
 (∀ (r:Addr) (ps:List Addr) (fs:List Nat) (H':Hp),H r=none->Same H H'->H' r=some (.lst (ps.map V.ref))->(∀ p∈ps,p≠r)->Lsts H H' ps ((List.range cws.length).map (lJ cws fs))->fs.length=(wl cws).length->(∀ (j:Nat) w g,(wl cws)[j]?=some w->fs[j]?=some g->g∈chW cws w)->(∀ c,(ctn fs c:Int)<=aL (bO (aL f)) c)->Q (.ref r) H')/\
 (∀ (dx l1 l2:Addr) (rs:List Addr) (W:List Wt) (F:List Nat) (H':Hp),Same H H'->H' dx=some (xdO dx [("flags",.ref l2),("wants",.ref l1)])->H' l1=some (.lst (rs.map V.ref))->WtsAt H' rs W->H' l2=some (.lst ((F.map one).map V.str))->LackOk cws (aL (bO (aL f))) W F->H l1=none->H l2=none->E (.ref aC) (some dx) H')
theorem sc_hang_all:FnScope ["locker", "words", "choices", "left", "hung", "first", "asked", "free", "wants"] ["locker", "words"] (aG cP):=⟨rfl,rfl,rfl,by decide +kernel,rfl,by decide +kernel,by decide +kernel⟩
theorem xA {Zo Zz Zr Zx Zs Zp Zu Zw Zy Zt Zv Zq:Addr} {f:Addr} {fd:FuncData} (F:Fun K "hang_all" "hang_all" cP f fd) (G:Gs K mg Zo Zz Zr Zx Zs Zp Zu Zw Zy Zt Zv Zq) (c_choices_of:Cal P w K mg base 2 "choices_of" ["words"] kU) (c_plain_locker:Cal P w K mg base 1 "plain_locker" ["locker"] dU) (c_hoists_of:Cal P w K mg base 1 "hoists_of" ["words", "flags"] lV) (c_asked_from:Cal P w K mg base 1 "asked_from" ["first", "choices", "hung"] kT) (c_hang_along:Cal P w K mg base 1 "hang_along" ["flag", "asked", "hung"] kR) (c_Lack_init:aQA P w K mg base 1 Zo ["self", "wants", "flags"] (fP Zo)):FnOk P w K mg base (CXr P w) 3 f fd ["locker", "words"] (jI Zo):=by
 refine F.okX sc_hang_all (λvs H Q E h=>?_) (λcdv A outer s H vs Q E hr h=>?_)
 · obtain ⟨a,b,kvs,f,cws,rfl,_⟩:=h; rfl
 obtain ⟨a,b,kvs,f,cws,rfl,ha,lk,hb,h8,hL,q,qe⟩:=h
 refine ⟨_,(@aF _ _ _ _ _ (@aP _ _ 2 _ _ _ _ sc_hang_all.nd (by rfl) (by exact (Or.inl rfl)) (aX c_choices_of hr (by decide) rfl (aA (mv 1) aB)) (by rfl) (by first | exact Or.inl rfl | exact Or.inr rfl)) (@aF _ _ _ _ _ (@aP _ _ 3 _ _ _ _ sc_hang_all.nd (by rfl) (by exact (Or.inr rfl)) (aX c_plain_locker hr (by decide) rfl (aA (mv 0) aB)) (by rfl) (by first | exact Or.inl rfl | exact Or.inr rfl)) (@aF _ _ _ _ _ (@aP _ _ 4 _ _ _ _ sc_hang_all.nd (by rfl) (by exact (Or.inr rfl)) qD (by rfl) (by first | exact Or.inl rfl | exact Or.inr rfl)) (@aF _ _ _ _ _ (aQU (bP PassesOwn.leaving rfl (mM (mv 2)) (aQ (i:=5) sc_hang_all.nd rfl (Or.inr rfl)) (@aF _ _ _ _ _ (@aP _ _ 6 _ _ _ _ sc_hang_all.nd (by rfl) (by exact (Or.inr rfl)) (aX c_asked_from hr (by decide) rfl (aA (mv 5) (aA (mv 2) (aA (mv 4) aB)))) (by rfl) (by first | exact Or.inl rfl | exact Or.inr rfl)) (@aF _ _ _ _ _ (aQU (oO (i:=7) sc_hang_all.nd rfl (Or.inl rfl) rfl (cQH (mv 6)) (fZ (N:=["flag", "left"]) ["locker", "words", "choices", "left", "hung", "first", "asked", "free", "wants"] (aG cP) [none,some 3] rfl rfl rfl (λx h=>cA h) (by decide +kernel)) (by decide +kernel) rfl (by decide +kernel) (λC s₀ H₀ ex=>(aQ (i:=0) (show List.Nodup (["flag", "left"]:List Str) by decide +kernel) rfl (Or.inl rfl))) (λC s₀ H₀ ex=>(jK (bC cXM (dP Bl Ce (nP (Room.u1 hr)) (mv 1) (aA (mv 0) (aA aJ aB))) aJ (bG _)))) (λC s₀ H₀ ex=>(mv 0)))) (@aF _ _ _ _ _ (cT (bC (bZO hr.units0) (mv 7) (bE aB) (bG _)) (@aF _ _ _ _ _ (aQU (oO (i:=8) sc_hang_all.nd rfl (Or.inl rfl) rfl (mM (mv 2)) (fZ (N:=["want", "first", "asked", "hung"]) ["locker", "words", "choices", "left", "hung", "first", "asked", "free", "wants"] (aG cP) [none,some 5,some 6,some 4] rfl rfl rfl (λx h=>cA h) (by decide +kernel)) (by decide +kernel) rfl (by decide +kernel) (λC s₀ H₀ ex=>(aQ (i:=0) (show List.Nodup (["want", "first", "asked", "hung"]:List Str) by decide +kernel) rfl (Or.inl rfl))) (λC s₀ H₀ ex=>(jK (PW.pt (lT (bC (dJS hr.units0) (mv 0) (mv 1) (bG _)) (nL (bC (dQH (Room.u1 hr)) (dP Bl Ce (bZ1 (Room.u1 hr)) (mv 3) (aA (mv 0) aB)) (mv 2) (by rfl))))))) (λC s₀ H₀ ex=>(mv 0)))) (@aI _ _ _ (mV oK rfl rfl rfl G.c_Lack G.xm_Lack c_Lack_init hr (by decide) (aA (mv 8) (aA (dC rfl (mR (kE rfl G.s_FLAGS)) (fZ (N:=["flag", "asked"]) ["locker", "words", "choices", "left", "hung", "first", "asked", "free", "wants"] (aG cP) [none,some 6] rfl rfl rfl (λx h=>cA h) (by decide +kernel)) (by decide +kernel) rfl (by decide +kernel) (λC s₀ H₀ ex=>(aQ (i:=0) (show List.Nodup (["flag", "asked"]:List Str) by decide +kernel) rfl (Or.inl rfl))) (λC s₀ H₀ ex=>(jK (bC (cJF (Room.u1 hr)) (mv 0) (mv 1) (by rfl)))) (λC s₀ H₀ ex=>(mv 0))) aB))))) bS) (@aF _ _ _ _ _ (dB (Room.u1 hr) (mv 3) (bH cC (mv 7) aJ (λ_ _=>rfl)) (aT jE (gI (Room.u1 hr) (mv 3) (bH cC (mv 7) aJ (λ_ _=>rfl)) (λ_ _=>rfl)) aJ) rfl) (@aI _ _ _ (cK (aX c_hang_along hr (by decide) rfl (aA (bH cC (mv 7) aJ (λ_ _=>rfl)) (aA (mv 6) (aA (mv 4) aB)))))))))))) (@aI _ _ _ (aV (aX c_hoists_of hr (by decide) rfl (aA (mv 1) (aA (bQW (dC rfl (mM (mv 2)) (fZ (N:=["want", "hung"]) ["locker", "words", "choices", "left", "hung", "first", "asked", "free", "wants"] (aG cP) [none,some 4] rfl rfl rfl (λx h=>cA h) (by decide +kernel)) (by decide +kernel) rfl (by decide +kernel) (λC s₀ H₀ ex=>(aQ (i:=0) (show List.Nodup (["want", "hung"]:List Str) by decide +kernel) rfl (Or.inl rfl))) (λC s₀ H₀ ex=>gS) (λC s₀ H₀ ex=>(gI (Room.u1 hr) (mv 1) (mv 0) (λ_ _=>rfl))))) aB))))))))),?_⟩
 have h7:∀ c∈cws,c.length<=7:=λc hc=>(hL c hc).1
 have hlw:(wl cws).length<=56:=Bb (oU h7 _) (by omega)
 walk_at "go"
 refine ⟨b,cws,rfl,hb,h8,h7,λac H1 hac s1 hch=>?_⟩
 walk_at "go"
 refine ⟨a,kvs,f,rfl,ha.elim (λe=>.inl (s1 _ _ e)) (λ⟨o,e⟩=>.inr ⟨o,s1 _ _ e⟩),lk,λal H2 hal s2 el=>?_⟩
 walk_at "go"
 intro ah hah
 have s3:=s2.trans (aE hah (.dT []))
 have eh3:(upd H2 ah (.dT [])) ah=_:=aD
 have el3:=aE hah (.dT []) _ _ el
 generalize upd H2 ah (.dT [])=H3 at s3 eh3 el3 ⊢
 obtain ⟨ds,dl,ed,hds⟩:=hch
 rw [Bp] at ed
 have ed3:=s3 _ _ ed
 walk_at "go"
 refine uF ed3 λo=>?_
 have fz:(upd H3 ac (.frz o (.dT (dS (wl cws) ds)))) ac=_:=aD
 have kl:(dS (wl cws) ds).length=(wl cws).length:=sF dl
 have nac:ah≠ac:=λz=>by have e:=s2 _ _ ed; rw [<-z,hah] at e; cases e
 have nla:al≠ac:=λz=>by rw [z,ed3] at el3; cases el3
 have nlh:al≠ah:=λz=>by rw [z,eh3] at el3; cases el3
 have s13:Same H1 H3:=s3
 have hah1:H1 ah=none:=none_of s2 hah
 generalize hn0:aL (bO (aL f))=n0
 refine bXH (λi σ H'=>∃ (m:List (Wt × Nat)) (kl2:List (Key × V)) (fl:Nat->Option Int) (v5 v6 v7 v8:Option V),σ=[some (.ref a),some (.ref b),some (.ref ac),some (.ref al),some (.ref ah),v5,v6,v7,v8]/\(∀ p u,p≠ac->p≠al->p≠ah->H1 p=some u->H' p=some u)/\H' ac=some (.frz o (.dT (dS (wl cws) ds)))/\H' ah=some (.dT (gG m))/\H' al=some (.dK kl2)/\Lk kl2 fl/\kl2.length<=27/\m.map (·.1)=(wl cws).take i/\(∀ v g,(v,g)∈m->g∈chW cws v)/\(∀ c,aL fl c=n0 c - (ctm m c:Int)/\0<=aL fl c))
   ⟨[],_,bO (aL f),_,_,_,_,rfl,λp u h1 h2 h3 hu=>by rw [aK h1]; exact s13 _ _ hu,fz,by rw [aK nac]; exact eh3,by rw [aK nla]; exact el3,gY _,by unfold kvL; rw [Ab]; exact iS _ _,rfl,(λv g hv=>nomatch hv),λc=>?_⟩ (λi σ H' _ ⟨_,_,_,_,_,_,_,_,_,e,_⟩=>e) ?_ ?_
 · rw [hn0]
   refine ⟨by show n0 c=n0 c - ((0:Nat):Int); omega,?_⟩
   rw [<-hn0]
   show 0<=(bO (aL f) c).getD 0
   unfold bO
   split
   · rename_i h; exact Int.le_of_lt h.2
   · exact Fn 0
 · rintro i kv bf σ H4 hkv hbf ⟨m,kl2,fl,v5,v6,v7,v8,rfl,fr,ec,eh,el4,lkl,l27,hk,hmc,hct⟩
   have hi:i < (wl cws).length:=by rw [<-kl]; exact (Ae.mp hkv).1
   have ew:(wl cws)[i]?=some (wl cws)[i]:=Aa hi
   have ekv:kv=(cG (wl cws)[i],V.ref (ds[i]'(by omega))):=by
     unfold dS at hkv
     rw [Fh,ew,Aa (show i < ds.length by omega)] at hkv
     exact (Br hkv).symm
   rw [ekv] at hbf
   have hnd:=lL cws cws.length
   have hfw:(wl cws)[i]∈wl cws:=Bw hi
   have htk:(wl cws).take (i + 1)=(wl cws).take i ++ [(wl cws)[i]]:=by rw [Az,ew]; rfl
   have hfn:(wl cws)[i] ∉ m.map (·.1):=by
     rw [hk]
     intro z
     obtain ⟨j,hj,ej⟩:=Ca.mp z
     rw [Bo] at hj
     rw [List.getElem_take] at ej
     have:=(Fp hnd).mp ej
     omega
   have hml:m.length<=56:=by
     have e:m.length=(m.map (·.1)).length:=(Ab _).symm
     rw [e,hk,Bo]
     omega
   have hmo:HungOk cws m:=⟨by rw [hk]; exact hnd.sublist (Ge ..),λx hx=>List.mem_of_mem_take (by rw [<-hk]; exact Bg.mpr ⟨x,hx,rfl⟩)⟩
   have hcr:ChRd H4 ac cws:=⟨ds,dl,.inr ⟨o,ec⟩,λj w d hw hd=>by
     have h1:=hds j w d (Ae.mp hw).1 hw hd
     exact fr d _ (λz=>by rw [z,ed] at h1; cases h1) (λz=>by rw [z,hal] at h1; cases h1) (λz=>by rw [z,hah1] at h1; cases h1) h1⟩
   replace hbf:H4 bf=some (.tup (wV (wl cws)[i])):=hbf
   clear ekv hkv
   generalize (wl cws)[i]=first at hbf ew hfw htk hfn
   walk_at "go"
   refine ⟨bf,ac,ah,cws,m,first,rfl,hbf,hfw,hcr,eh,hmo,hml,h8,hL,λpa A bs H5 hpa s5 ea wb hask=>?_⟩
   have el5:=s5 _ _ el4
   have hbl:bs.length=A.length:=by rw [wb.1,Ab]
   have hA27:=aXF hmo hfw hL hask.toAsking
   have hdl5:=nI el5
   walk_at "go"
   refine dXQ ea λoa=>?_
   have fza:(upd H5 pa (.frz oa (.dK (fL A bs)))) pa=_:=aD
   have nlp:al≠pa:=λz=>by rw [z,hpa] at el4; cases el4
   have elf:(upd H5 pa (.frz oa (.dK (fL A bs)))) al=_:=(aK nlp).trans el5
   refine gA (n:=A.length) (λD i ys Hc=>Same (upd H5 pa (.frz oa (.dK (fL A bs)))) Hc/\ys=((((A.take i).map (·.1)).filter λc=>decide (0 < aL fl c)).map one).map V.str) (aY (by omega)) (λD hD=>⟨aE hD _,rfl⟩) (λD i ys Hc _ r h=>⟨r.1 _ _ fza,by rw [pD hbl]; exact h⟩) (λD ys Hc _ r=>⟨r.1 _ _ fza,pD hbl⟩) ?_ ?_
   · rintro D i2 ys Hc x H' A' B' hD hi2 ⟨sm,rfl⟩ hDc ⟨rfl,kv,hkv,rfl⟩ hA' hB'
     have eA:A[i2]?=some A[i2]:=Aa hi2
     unfold fL at hkv
     rw [Fh,eA,Aa (show i2 < bs.length by omega)] at hkv
     cases hkv
     have tk:A.take (i2 + 1)=A.take i2 ++ [A[i2]]:=by rw [Az,eA]; rfl
     rw [tk,Al,Fe] at hA' hB'
     generalize A[i2]=xa at hA' hB'
     have elc:=sm _ _ elf
     have hdc:=nI elc
     dsimp only [kV]
     walk_at "go"
     refine ⟨Wk.set rfl (Wk.refl _),?_⟩
     walk_at "go"
     refine nW (z:=one xa.1) (.inl elc) ?_
     rw [lkl.val xa.1,gJ]
     walk_at "go"
     refine gD (λhe=>?_) (λhe=>?_)
     · have he':=Bf he
       walk_at "go"
       refine hA' _ _ hDc ⟨aW hD sm,?_⟩
       rw [show ([xa].map (·.1)).filter (λc=>decide (0 < aL fl c))=[xa.1] by simp [he'],List.map_append,List.map_append]
       rfl
     · have he':=Bx (Bt.mpr he)
       walk_at "go"
       refine hB' _ hDc ⟨sm,?_⟩
       rw [show ([xa].map (·.1)).filter (λc=>decide (0 < aL fl c))=[] by simp; omega,List.append_nil]
   · rintro D ys Hc hD ⟨sm,rfl⟩ hDc _
     rw [Bp] at hDc
     have su:=qQ ea (λo v z=>nomatch z) sm
     have eu:=eP (Hs:=H5) hDc (λo v z=>nomatch z)
     refine oR ?_
     unfold bJV
     dsimp only
     generalize unf H5 Hc=H6 at su eu ⊢
     have s46:=s5.trans su
     have ea6:=su _ _ ea
     have wb6:WtsAt H6 bs (A.map (·.2)):=wb.keep λr w h=>su _ _ h
     have ec6:=s46 _ _ ec
     have eh6:=s46 _ _ eh
     have el6:=s46 _ _ el4
     have hbf6:=s46 _ _ hbf
     have fr6:∀ p u,p≠ac->p≠al->p≠ah->H1 p=some u->H6 p=some u:=λp u h1 h2 h3 hu=>s46 _ _ (fr p u h1 h2 h3 hu)
     have hD4:H4 D=none:=by
       have h5:H5 D=none:=by
         by_cases z:D=pa
         · rw [z,aD] at hD; cases hD
         · rw [aK z] at hD; exact hD
       exact none_of s5 h5
     clear sm hDc hD fza elf hdl5 el5
     walk_at "go"
     refine ⟨by decide,λpe hpe=>?_⟩
     refine vK (neg:=false) (aH (aE hpe _) (aO eu)) bV (dG _) rfl ?_
     have s67:=aE hpe (.lst [])
     generalize upd H6 pe (.lst [])=H7 at s67 ⊢
     have en:∀ xs:List V,kN xs []=xs.isEmpty:=λxs=>by cases xs <;> rfl
     rw [if_neg (by decide),en]
     cases hfr:(A.map (·.1)).filter (λc=>decide (0 < aL fl c)) with
     | nil=>
       rw [hfr] at eu
       rw [show (List.map V.str (List.map one [])).isEmpty=true from rfl]
       have ec7:=s67 _ _ ec6
       have eh7:=s67 _ _ eh6
       have ea7:=s67 _ _ ea6
       have hbf7:=s67 _ _ hbf6
       have fr7:∀ p u,p≠ac->p≠al->p≠ah->H1 p=some u->H7 p=some u:=λp u h1 h2 h3 hu=>s67 _ _ (fr6 p u h1 h2 h3 hu)
       clear eu wb6 hpe s67 fr6 fr ec6 eh6 ea6 hbf6 el6 su hD4 s46 hpa s5 ea wb el4 nlp
       walk_at "go"
       refine bQK ec7 ?_
       refine gA (n:=(wl cws).length) (λD i ys Hc=>Same H7 Hc/\∃ rs,ys=rs.map V.ref/\WtsAt Hc rs (jU m first A ((wl cws).take i))) (aY (by omega)) (λD hD=>⟨aE hD _,[],rfl,rfl,λj r w hr=>nomatch hr⟩) (λD i ys Hc _ r h=>⟨r.1 _ _ ec7,by rw [kl]; exact h⟩) (λD ys Hc _ r=>⟨r.1 _ _ ec7,kl⟩) ?_ ?_
       · rintro D i2 ys Hc x H' A' B' hD hi2 ⟨sm,rs,rfl,hwt⟩ hDc ⟨rfl,kv,bk,hkv,rfl,hbk⟩ hA' hB'
         have ew2:(wl cws)[i2]?=some (wl cws)[i2]:=Aa hi2
         have ekv:kv=(cG (wl cws)[i2],V.ref (ds[i2]'(by omega))):=by
           unfold dS at hkv
           rw [Fh,ew2,Aa (show i2 < ds.length by omega)] at hkv
           exact (Br hkv).symm
         rw [ekv] at hbk
         replace hbk:H' bk=some (.tup (wV (wl cws)[i2])):=hbk
         have tk:(wl cws).take (i2 + 1)=(wl cws).take i2 ++ [(wl cws)[i2]]:=by rw [Az,ew2]; rfl
         rw [tk] at hA' hB'
         clear ekv hkv ew2 tk
         generalize (wl cws)[i2]=wx at hbk hA' hB'
         have ehc:=sm _ _ eh7
         have eac:=sm _ _ ea7
         have hfc:=sm _ _ hbf7
         have yes:iY m first A wx=true->A' (.ref bk) H':=λhb=>by
           refine hA' _ _ hDc ⟨aW hD sm,rs ++ [bk],by rw [Al]; rfl,?_⟩
           rw [qK,hb,if_pos rfl]
           refine WtsAt.keep (hwt.app (.one hbk)) λr w h=>?_
           rw [aK (λz=>by rw [z,hDc] at h; cases h)]
           exact h
         have no:iY m first A wx=false->B' H':=λhb=>by
           refine hB' _ hDc ⟨sm,rs,rfl,?_⟩
           rw [qK,hb,if_neg (by decide),Bu]
           exact hwt
         clear hA' hB'
         walk_at "go"
         refine ⟨Wk.set rfl (Wk.refl _),?_⟩
         walk_at "go"
         refine dZX hbk hfc ?_
         have hd2:decide ((wx.1:Int)=(first.1:Int)/\(wx.2:Int)=(first.2:Int))=decide (wx=first):=Dh.mpr ⟨λh=>Prod.ext (by omega) (by omega),λh=>by rw [h]; exact ⟨rfl,rfl⟩⟩
         rw [hd2]
         by_cases e:wx=first
         · rw [Ap e]
           walk_at "go"
           exact yes (vE e)
         · rw [Au e]
           have hdd:isD H' ah=true:=by unfold isD; rw [ehc]
           walk_at "go"
           refine aQW (k:=cG wx) (.inl ehc) hbk ?_
           rw [jR]
           cases eg:dN m wx with
           | none=>
             refine dXC (.inl eac) ?_
             walk_at "go"
             exact no (qI e eg)
           | some g=>
             have hlb:=qJ (A:=A) e eg
             refine cXD (z:=one g) (.inl eac) ?_
             rw [kG hbl]
             refine gD (λhg=>?_) (λhg=>?_)
             · walk_at "go"
               exact yes (hlb.trans hg)
             · walk_at "go"
               exact no (hlb.trans (Bt.mpr hg))
       · rintro D ys Hc hD ⟨sm,rs,rfl,hwt⟩ hDc _
         rw [Bp] at hwt
         have su:=aJ2 sm
         have eu:=eP (Hs:=H7) hDc (λo v z=>nomatch z)
         have hwu:WtsAt (unf H7 Hc) rs (jU m first A (wl cws)):=hwt.keep λr w h=>eP h λo v z=>nomatch z
         refine oR ?_
         unfold bJV
         dsimp only
         generalize unf H7 Hc=H8 at su eu hwu ⊢
         have ea8:=su _ _ ea7
         walk_at "go"
         refine aXR (λc=>if decide (c∈A.map (·.1))=true then some (.str (one c)) else none) (by decide) (λi3 c Hc2 A' B' hc sm2 hA'=>?_) (λD2 H9 hD2 s9 hr9=>?_)
         · have r:=hA' _ (Same.refl _)
           walk_at "go"
           refine ⟨Wk.set rfl (Wk.refl _),?_⟩
           walk_at "go"
           refine cZR (z:=one c) (neg:=false) (.inl (sm2 _ _ ea8)) ?_
           rw [if_neg (by decide),kG hbl]
           refine gD (λhg=>?_) (λhg=>?_)
           · rw [if_pos hg] at r
             walk_at "go"
             exact r
           · rw [if_neg hg] at r
             exact r
         · have ef:(Str.ofString "abcdefghijklmnopqrstuvw1234").cps.toList.filterMap (λc=>if decide (c∈A.map (·.1))=true then some (V.str (one c)) else none)=((flagsT.cps.toList.filter λc=>decide (c∈A.map (·.1))).map one).map V.str:=by
             rw [show (Str.ofString "abcdefghijklmnopqrstuvw1234")=flagsT from rfl]
             generalize flagsT.cps.toList=L
             induction L with
             | nil=>rfl
             | cons c r ih=>
               rw [Dm,Fa]
               by_cases hg:decide (c∈A.map (·.1))=true
               · rw [if_pos hg,if_pos hg,Ar,Ar,<-ih]
               · rw [if_neg hg,if_neg hg,<-ih]
           rw [ef] at hr9
           have eD9:=s9 _ _ eu
           walk_at "go"
           refine ⟨by show 2<=sizeLine; decide,λea hea=>⟨ea,D,D2,_,_,rfl,aD,aH (aE hea _) (aO eD9),aH (aE hea _) (aO hr9),λdx l1 l2 H' frx hdx nde e1 e2 e3 e4 hl1 hl2=>⟨rfl,some dx,e1,?_⟩⟩⟩
           have n1:l1≠ea:=λz=>by rw [z,e1] at e3; cases e3
           have n2:l2≠ea:=λz=>by rw [z,e1] at e4; cases e4
           have go9:∀ b u,H9 b=some u->(del H' ea) b=some u:=λb u hu=>by
             have nb:b≠ea:=λz=>by rw [z,hea] at hu; cases hu
             rw [dO nb]
             exact frx b u nb (by rw [aK nb]; exact hu)
           have hto:∀ b u,H b=some u->H9 b=some u:=λb u hu=>by
             refine s9 _ _ (su _ _ (fr7 b u (λz=>by rw [z,hac] at hu; cases hu) (λz=>?_) (λz=>?_) (s1 _ _ hu)))
             · have:=s1 _ _ hu
               rw [z,hal] at this
               cases this
             · have:=s1 _ _ hu
               rw [z,hah1] at this
               cases this
           refine qe dx l1 l2 rs _ _ (del H' ea) (λb u hu=>go9 _ _ (hto b u hu)) ((dO nde).trans e2) ((dO n1).trans e3) (hwu.keep λr w h=>go9 _ _ (s9 _ _ h)) ((dO n2).trans e4) ?_ (none_of hto (by rw [aK n1] at hl1; exact hl1)) (none_of hto (by rw [aK n2] at hl2; exact hl2))
           · rw [hn0]
             refine cXV (l:=(wl cws).take i) (r:=(wl cws).drop (i + 1)) (fl:=fl) ?_ hk hL hmo hfw hask hct (λc hc=>?_)
             · have e:=List.take_append_drop (i + 1) (wl cws)
               rw [htk,List.append_assoc] at e
               exact e.symm
             · have:=List.filter_eq_nil_iff.mp hfr c hc
               rw [Bj] at this
               exact this
     | cons f0 fr0=>
       rw [hfr] at eu
       rw [show (List.map V.str (List.map one (f0 :: fr0))).isEmpty=false from rfl]
       have hf0m:f0∈(A.map (·.1)).filter (λc=>decide (0 < aL fl c)):=by rw [hfr]; exact Aq
       rw [Ct,Bj] at hf0m
       obtain ⟨hf0A,hf0p⟩:=hf0m
       obtain ⟨n1,hn1⟩:∃ n1,fl f0=some n1:=by
         cases e:fl f0 with
         | none=>rw [show aL fl f0=0 by unfold aL; rw [e]; rfl] at hf0p; omega
         | some n=>exact ⟨n,rfl⟩
       have hcn1:aL fl f0=n1:=by unfold aL; rw [hn1]; rfl
       have el7:=s67 _ _ el6
       have ea7:=s67 _ _ ea6
       have eh7:=s67 _ _ eh6
       have ec7:=s67 _ _ ec6
       have eD7:=s67 _ _ eu
       have wb7:WtsAt H7 bs (A.map (·.2)):=wb6.keep λr w h=>s67 _ _ h
       have hdl7:=nI el7
       have at0:atI (List.map V.str (List.map one (f0 :: fr0))) 0=some (V.str (one f0)):=eO (show (List.map V.str (List.map one (f0 :: fr0)))[0]?=some (V.str (one f0)) from rfl)
       walk_at "go"
       refine cL (aO eD7) (v:=.str (one f0)) at0 ?_
       walk_at "go"
       refine pL (z:=one f0) (.inl el7) (by rw [lkl.val f0,hn1]; rfl) ?_
       walk_at "go"
       refine cL (aO eD7) (v:=.str (one f0)) at0 ?_
       walk_at "go"
       refine eU (z:=one f0) el7 (aY (by omega)) ?_
       have nDl:D≠al:=λz=>by rw [z] at hD4; rw [hD4] at el4; cases el4
       have npl:pa≠al:=λz=>by rw [z] at hpa; rw [hpa] at el4; cases el4
       have nhl:ah≠al:=Ne.symm nlh
       have ncl:ac≠al:=Ne.symm nla
       have el8:(upd H7 al (.dK (dH kl2 (Sum.inr (one f0)) (V.int (n1 - 1))))) al=_:=aD
       have ea8:(upd H7 al (.dK (dH kl2 (Sum.inr (one f0)) (V.int (n1 - 1))))) pa=_:=(aK npl).trans ea7
       have eh8:(upd H7 al (.dK (dH kl2 (Sum.inr (one f0)) (V.int (n1 - 1))))) ah=_:=(aK nhl).trans eh7
       have ec8:(upd H7 al (.dK (dH kl2 (Sum.inr (one f0)) (V.int (n1 - 1))))) ac=_:=(aK ncl).trans ec7
       have eD8:(upd H7 al (.dK (dH kl2 (Sum.inr (one f0)) (V.int (n1 - 1))))) D=_:=(aK nDl).trans eD7
       have wb8:WtsAt (upd H7 al (.dK (dH kl2 (Sum.inr (one f0)) (V.int (n1 - 1))))) bs (A.map (·.2)):=wb7.keep λr w h=>by
         rw [aK (λz=>by rw [z,el7] at h; cases h)]
         exact h
       have fr8:∀ p u,p≠ac->p≠al->p≠ah->H1 p=some u->(upd H7 al (.dK (dH kl2 (Sum.inr (one f0)) (V.int (n1 - 1))))) p=some u:=λp u h1 h2 h3 hu=>by
         rw [aK h2]
         exact s67 _ _ (fr6 p u h1 h2 h3 hu)
       generalize upd H7 al (.dK (dH kl2 (Sum.inr (one f0)) (V.int (n1 - 1))))=H8 at el8 ea8 eh8 ec8 eD8 wb8 fr8 ⊢
       walk_at "go"
       refine cL (aO eD8) (v:=.str (one f0)) at0 ?_
       walk_at "go"
       refine ⟨pa,ah,cws,m,first,A,bs,f0,rfl,ea8,wb8,hask.toAsking,eh8,hmo.nd,hfn,hmc,hf0A,hml,λm' H9 fr9 eh9 hk9 hc9 hct9=>?_⟩
       walk_at "go"
       refine ⟨m',_,_,_,_,_,_,rfl,λp u h1 h2 h3 hu=>fr9 p u h3 (fr8 p u h1 h2 h3 hu),fr9 _ _ (Ne.symm nac) ec8,eh9,fr9 _ _ nlh el8,lkl.put f0 (n1 - 1),?_,?_,hc9,λc=>?_⟩
       · have hv:bU kl2 (Sum.inr (one f0))≠none:=by rw [lkl.val f0,hn1]; exact λz=>nomatch z
         have e:=Df List.length (wD kl2 (Sum.inr (one f0)) (.int (n1 - 1)) hv)
         rw [Ab,Ab] at e
         omega
       · rw [hk9,hk,htk]
       · have h1:=hct c
         have h2:=hct9 c
         have h3:aL (λd=>if d=f0 then some (n1 - 1) else fl d) c=if c=f0 then n1 - 1 else aL fl c:=by
           show ((if c=f0 then some (n1 - 1) else fl c):Option Int).getD 0=_
           by_cases z:c=f0
           · rw [if_pos z,if_pos z]; rfl
           · rw [if_neg z,if_neg z]; rfl
         rw [h3]
         by_cases z:c=f0
         · subst z
           rw [if_pos rfl] at h2 ⊢
           omega
         · rw [if_neg z] at h2 ⊢
           omega
 · rintro σ H4 ⟨m,kl2,fl,v5,v6,v7,v8,rfl,fr,ec,eh,el4,lkl,l27,hk,hmc,hct⟩
   rw [kl,Bp] at hk
   have ec5:=uB (Hs:=H3) ec (λo v z=>by rw [ed3] at z; cases z)
   have eh5:=eP (Hs:=H3) eh (λo v z=>nomatch z)
   have sh5:Same H (unf H3 H4):=λb u hu=>by
     have h1:=s1 _ _ hu
     have h4:=fr b u (λz=>by rw [z,hac] at hu; cases hu) (λz=>by rw [z,hal] at h1; cases h1) (λz=>by rw [z,hah1] at h1; cases h1) h1
     by_cases hf:∃ o v,u=.frz o v
     · obtain ⟨o',v',rfl⟩:=hf
       exact lW h4 (s13 _ _ h1)
     · exact eP h4 λo v z=>hf ⟨o,v,z⟩
   unfold bJV
   dsimp only
   generalize unf H3 H4=H5 at ec5 eh5 sh5 ⊢
   have hml:m.length=(wl cws).length:=by rw [<-hk,Ab]
   have hnd:(m.map (·.1)).Nodup:=by rw [hk]; exact lL cws cws.length
   walk_at "go"
   refine uF ec5 λo2=>?_
   have fz2:(upd H5 ac (.frz o2 (.dT (dS (wl cws) ds)))) ac=_:=aD
   have eh6:(upd H5 ac (.frz o2 (.dT (dS (wl cws) ds)))) ah=_:=(aK nac).trans eh5
   refine gA (n:=(wl cws).length) (λD i ys Hc=>Same (upd H5 ac (.frz o2 (.dT (dS (wl cws) ds)))) Hc/\ys=(((m.take i).map (·.2)).map one).map V.str) (aY (by omega)) (λD hD=>⟨aE hD _,rfl⟩) (λD i ys Hc _ r h=>⟨r.1 _ _ fz2,by rw [kl]; exact h⟩) (λD ys Hc _ r=>⟨r.1 _ _ fz2,kl⟩) ?_ ?_
   · rintro D i2 ys Hc x H' A' B' hD hi2 ⟨sm,rfl⟩ hDc ⟨rfl,kv,bk,hkv,rfl,hbk⟩ hA' hB'
     have ew2:(wl cws)[i2]?=some (wl cws)[i2]:=Aa hi2
     have ekv:kv=(cG (wl cws)[i2],V.ref (ds[i2]'(by omega))):=by
       unfold dS at hkv
       rw [Fh,ew2,Aa (show i2 < ds.length by omega)] at hkv
       exact (Br hkv).symm
     rw [ekv] at hbk
     have em:m[i2]?=some m[i2]:=Aa (by omega)
     have e1:m[i2].1=(wl cws)[i2]:=by
       have e0:(m.map (·.1))[i2]?=some (wl cws)[i2]:=by rw [hk]; exact ew2
       rw [Ag,em] at e0
       exact Br e0
     have tk:m.take (i2 + 1)=m.take i2 ++ [m[i2]]:=by rw [Az,em]; rfl
     rw [tk] at hA'
     replace hbk:H' bk=some (.tup ((cG m[i2].1).map kV)):=by rw [e1]; exact hbk
     have hval:bU (gG m) (cG m[i2].1)=some (.str (one m[i2].2)):=by
       have hm2:(m[i2].1,m[i2].2)∈m:=Ak em
       rw [jR,lY hnd hm2]
       rfl
     clear ekv hkv ew2 tk e1 em
     generalize m[i2]=mx at hbk hA' hval
     have ehc:=sm _ _ eh6
     walk_at "go"
     refine ⟨Wk.set rfl (Wk.refl _),?_⟩
     walk_at "go"
     refine aQC (k:=cG mx.1) (.inl ehc) hbk hval ?_
     refine hA' _ _ hDc ⟨aW hD sm,?_⟩
     rw [Al,Al,Al]
     rfl
   · rintro D ys Hc hD ⟨sm,rfl⟩ hDc _
     rw [<-hml,Bp] at hDc
     have su:=qQ ec5 (λo v z=>nomatch z) sm
     have eu:=eP (Hs:=H5) hDc (λo v z=>nomatch z)
     generalize unf H5 Hc=H6 at su eu ⊢
     have s06:=sh5.trans su
     refine ⟨b,D,cws,m.map (·.2),rfl,aH s06 hb,aO eu,h8,h7,λr ps H7 hr s7 er hne hls=>?_⟩
     refine q r ps (m.map (·.2)) H7 (none_of s06 hr) (s06.trans s7) er hne (hls.older s06) (by rw [Ab,hml]) (λj w g hw hg=>?_) (λc=>?_)
     · rw [<-hk,Ag] at hw
       rw [Ag] at hg
       cases em:m[j]? with
       | none=>rw [em] at hw; cases hw
       | some x=>
         rw [em] at hw hg
         cases hw
         cases hg
         exact hmc x.1 x.2 (Ak em)
     · rw [hn0]
       have h1:=hct c
       have h2:ctn (m.map (·.2)) c=ctm m c:=by
         unfold ctn ctm
         rw [List.countP_map]
         rfl
       rw [h2]
       omega
def CanH (n:Nat->Int) (cws:List (List Nat)):Prop:=∃ fs:List Nat,fs.length=(wl cws).length/\(∀ (j:Nat) w g,(wl cws)[j]?=some w->fs[j]?=some g->g∈chW cws w)/\∀ c,(ctn fs c:Int)<=n c
theorem aQ8 (x:Nat):∀ {F:List Nat},F.Nodup->(F.map λc=>if x=c then 1 else 0).sum=if x∈F then 1 else 0
 | [],_=>rfl
 | c :: r,h=>by
   have n1:=By.mp h
   rw [Ar,Ck,aQ8 x n1.2]
   by_cases e:x=c
   · subst e
     rw [if_pos rfl,if_neg n1.1,if_pos Aq]
   · rw [if_neg e]
     by_cases m:x∈r
     · rw [if_pos m,if_pos (An _ m)]
     · rw [if_neg m,if_neg λz=>(Bc.mp z).elim e m]
theorem aQ6 (g h:Nat->Nat):∀ F:List Nat,(F.map λc=>g c + h c).sum=(F.map g).sum + (F.map h).sum
 | []=>rfl
 | c :: r=>by
   rw [Ar,Ck,aQ6 g h r,Ar,Ck,Ar,Ck]
   omega
theorem aQ9 {F:List Nat} (nd:F.Nodup):∀ fs:List Nat,(F.map (ctn fs)).sum=fs.countP λx=>decide (x∈F)
 | []=>by
   have:∀ F:List Nat,(F.map (ctn [])).sum=0:=λF=>by
     induction F with
     | nil=>rfl
     | cons c r ih=>rw [Ar,Ck,ih]; rfl
   rw [this]
   rfl
 | x :: r=>by
   have e:ctn (x :: r)=λc=>ctn r c + if x=c then 1 else 0:=by
     funext c
     unfold ctn
     rw [Di]
     by_cases h:x=c
     · rw [if_pos h,if_pos (Ap h)]
     · rw [if_neg h,if_neg (by rw [Bj]; exact h)]
   rw [e,aQ6,aQ9 nd r,aQ8 x nd,Di]
   by_cases h:x∈F
   · rw [if_pos h,if_pos (Ap h)]
   · rw [if_neg h,if_neg (by rw [Bj]; exact h)]
theorem pN {α β:Type} {p:α->Bool} {q:β->Bool}:∀ (L:List α) (M:List β),L.length=M.length->(∀ (j:Nat) a b,L[j]?=some a->M[j]?=some b->p a=true->q b=true)->L.countP p<=M.countP q
 | [],_,_,_=>Ci _
 | a :: L,[],h,_=>by cases h
 | a :: L,b :: M,h,hpq=>by
   rw [Di,Di]
   have ih:=pN L M (by simpa using h) λj x y hx hy=>hpq (j + 1) x y hx hy
   have h0:=hpq 0 a b rfl rfl
   by_cases pa:p a=true
   · rw [if_pos pa,if_pos (h0 pa)]; omega
   · rw [if_neg pa]; omega
theorem xQ {g h:Nat->Int} (e:∀ c,g c<=h c):∀ F:List Nat,(F.map g).sum<=(F.map h).sum
 | []=>Fn _
 | c :: r=>by
   rw [Ar,Ck,Ar,Ck]
   have:=xQ e r
   have:=e c
   omega
theorem aJQ {W L:List Wt} (s:W.Sublist L):W.length<=L.countP λw=>decide (w∈W):=by
 have h:=s.countP_le (p:=λw=>decide (w∈W))
 have e:W.countP (λw=>decide (w∈W))=W.length:=List.countP_eq_length.mpr λw hw=>Ap hw
 omega
theorem aQ7 {cws:List (List Nat)} {n:Nat->Int} {W:List Wt} {F:List Nat} (h:LackOk cws n W F):F.Nodup:=by
 obtain ⟨p,rfl⟩:=h.flags
 exact List.Nodup.sublist Eu (by decide)
theorem vX {cws:List (List Nat)} {n:Nat->Int} {W:List Wt} {F:List Nat} (h:LackOk cws n W F):¬ CanH n cws:=by
 rintro ⟨fs,hl,hch,hct⟩
 have h1:=aJQ h.sub
 have h2:((wl cws).countP λw=>decide (w∈W))<=fs.countP λx=>decide (x∈F):=pN _ _ hl.symm λj w g hw hg hp=>Ap (h.all w (Bf hp) g (hch j w g hw hg))
 have h3:=aQ9 (aQ7 h) fs
 have h4:=xQ hct F
 rw [nH (ctn fs) F] at h4
 have h5:=h.few
 omega
def pQ:Sp:=λvs H Q _=>∃ (a b:Addr) (kvs:List (Key × V)) (f:Nat->Option Int) (cws:List (List Nat)),vs=[.ref a,.ref b]/\Rd H a (.dK kvs)/\Lk kvs f/\rdL H b=some ((cws.map aZ).map V.str)/\cws.length<=8/\(∀ c∈cws,c.length<=7/\∀ d∈c,bK d)/\
 (CanH (aL (bO (aL f))) cws->∀ H',Same H H'->Q .non H')/\(∀ (t l1 l2:Addr) (rs:List Addr) (W:List Wt) (F:List Nat) (H':Hp),Same H H'->H t=none->H' t=some (.tup [.ref l1,.ref l2])->H' l1=some (.lst (rs.map V.ref))->WtsAt H' rs W->H' l2=some (.lst ((F.map one).map V.str))->LackOk cws (aL (bO (aL f))) W F->H l1=none->H l2=none->Q (.ref t) H')
theorem sc_lack_of:FnScope ["locker", "words", "lack"] ["locker", "words"] (aG fX):=⟨rfl,rfl,rfl,by decide +kernel,rfl,by decide +kernel,by decide +kernel⟩
theorem aQS {Zo Zz Zr Zx Zs Zp Zu Zw Zy Zt Zv Zq:Addr} {f:Addr} {fd:FuncData} (F:Fun K "lack_of" "lack_of" fX f fd) (G:Gs K mg Zo Zz Zr Zx Zs Zp Zu Zw Zy Zt Zv Zq) (c_hang_all:oE P w K mg base 3 "hang_all" ["locker", "words"] (jI Zo)):FnOk P w K mg base CX0 4 f fd ["locker", "words"] pQ:=by
 refine F.ok sc_lack_of (λvs H Q E h=>?_) (λcdv A outer s H vs Q E hr h=>?_)
 · obtain ⟨a,b,kvs,f,cws,rfl,_⟩:=h; rfl
 obtain ⟨a,b,kvs,f,cws,rfl,ha,lk,hb,h8,hL,q1,q2⟩:=h
 refine ⟨_,(@aF _ _ _ _ _ (bJF (i:=2) rfl rfl rfl sc_lack_of.nd rfl rfl rfl G.c_Lack (λpins R=>(@aI _ _ _ (cK (tF c_hang_all (lF rfl) hr (by decide) rfl (aA (mv 0) (aA (mv 1) aB)))))) (λpins ea=>(@aI _ _ _ (aV (jN (aA (mE (K:=K) rfl (mv 2) rfl) (aA (mE (K:=K) rfl (mv 2) rfl) aB))))))) (@aI _ _ _ (aV cV))),?_⟩
 walk_at "go"
 refine ⟨a,b,kvs,f,cws,rfl,ha,lk,hb,h8,hL,λrh ps fs H1 hrh s1 er hne hls hfl hch hct=>?_,λdx l1 l2 rs W F H1 s1 ed el1 hwt el2 hlo hn1 hn2=>⟨G.m_Lack,λea hea=>?_⟩⟩
 · walk_at "go"
   exact q1 ⟨fs,hfl,hch,hct⟩ _ s1
 · have k2:=aE hea (jS ea (.ref Zo) (some dx))
   have e2:(upd H1 ea (jS ea (.ref Zo) (some dx))) ea=_:=aD
   have ed2:=k2 _ _ ed
   generalize upd H1 ea (jS ea (.ref Zo) (some dx))=H2 at k2 e2 ed2 ⊢
   walk_at "go"
   refine ⟨ea,Zo,dx,_,_,rfl,.inl e2,ed2,G.xx_Lack,G.xn_Lack_wants,rfl,?_⟩
   walk_at "go"
   refine ⟨ea,Zo,dx,_,_,rfl,.inl e2,ed2,G.xx_Lack,G.xn_Lack_flags,rfl,?_⟩
   walk_at "go"
   refine ⟨by show 2<=sizeLine; decide,λt ht=>?_⟩
   have s3:=k2.trans (aE ht (.tup [.ref l1,.ref l2]))
   exact q2 t l1 l2 rs W F _ (s1.trans s3) (none_of (s1.trans k2) ht) aD (s3 _ _ el1) ⟨hwt.1,λj p w hp hw=>s3 _ _ (hwt.2 j p w hp hw)⟩ (s3 _ _ el2) hlo hn1 hn2
theorem jZ {ks:List Nat} {j:Nat} {x:V} (h:(ks.map λk=>V.int ((k:Nat):Int))[j]?=some x):∃ k,ks[j]?=some k/\x=.int ((k:Nat):Int):=by
 rw [Ag] at h
 cases e:ks[j]? with
 | none=>rw [e] at h; cases h
 | some k=>rw [e] at h; cases h; exact ⟨k,rfl,rfl⟩
def cJ:List Nat->Nat->List (List Nat)
 | _,0=>[[]]
 | ks,m + 1=>(List.range ks.length).flatMap λj=>(cJ (ks.drop (j + 1)) m).map λl=>ks.getD j 0 :: l
theorem fY (ks:List Nat):cJ ks 0=[[]]:=by cases ks <;> rfl
theorem iT (ks:List Nat) (m:Nat):cJ ks (m + 1)=(List.range ks.length).flatMap λj=>(cJ (ks.drop (j + 1)) m).map λl=>ks.getD j 0 :: l:=by rw [cJ]
theorem yA {x:Nat} {l:List Nat}:∀ {ks:List Nat},(x :: l).Sublist ks->∃ j,j < ks.length/\ks.getD j 0=x/\l.Sublist (ks.drop (j + 1))
 | [],h=>by cases h
 | k :: ks,h=>by
   rcases List.sublist_cons_iff.mp h with e | ⟨r,e,hr⟩
   · obtain ⟨j,h1,h2,h3⟩:=yA e
     exact ⟨j + 1,Nat.succ_lt_succ h1,h2,h3⟩
   · cases e
     exact ⟨0,Nat.succ_pos _,rfl,hr⟩
theorem mem_combs:∀ {m:Nat} {ks l:List Nat},l∈cJ ks m ↔ l.Sublist ks/\l.length=m
 | 0,ks,l=>by
   rw [fY,Aw]
   constructor
   · rintro rfl
     exact ⟨List.nil_sublist _,rfl⟩
   · exact λh=>List.eq_nil_of_length_eq_zero h.2
 | m + 1,ks,l=>by
   rw [iT,Gp]
   constructor
   · rintro ⟨j,hj,hl⟩
     rw [Cc] at hj
     obtain ⟨l',h1,rfl⟩:=Bg.mp hl
     obtain ⟨h2,h3⟩:=mem_combs.mp h1
     refine ⟨?_,by rw [Ay,h3]⟩
     have e:ks.getD j 0 :: ks.drop (j + 1)=ks.drop j:=by
       rw [Ad,Aa hj]
       exact (List.drop_eq_getElem_cons hj).symm
     have h4:(ks.getD j 0 :: l').Sublist (ks.getD j 0 :: ks.drop (j + 1)):=h2.cons_cons _
     rw [e] at h4
     exact h4.trans (List.drop_sublist _ _)
   · rintro ⟨h1,h2⟩
     cases l with
     | nil=>cases h2
     | cons x l=>
       obtain ⟨j,h3,h4,h5⟩:=yA h1
       exact ⟨j,List.mem_range.mpr h3,List.mem_map.mpr ⟨l,mem_combs.mpr ⟨h5,by simpa using h2⟩,by rw [h4]⟩⟩
theorem mT {α β:Type} (f:α->List β) (b:Nat):∀ (L:List α),(∀ x∈L,(f x).length<=b)->(L.flatMap f).length<=L.length * b
 | [],_=>Ci _
 | x :: r,h=>by
   rw [Eo,Aj,Ay,Nat.succ_mul]
   have h1:=mT f b r λy hy=>h y (An _ hy)
   have h2:=h x Aq
   omega
theorem iG:∀ {m:Nat} {ks:List Nat},ks.length<=6->(cJ ks m).length<=6 ^ m
 | 0,ks,_=>by rw [fY]; decide
 | m + 1,ks,h=>by
   rw [iT]
   refine Bb (mT _ (6 ^ m) _ λj _=>?_) ?_
   · rw [Ab]
     exact iG (by rw [Co]; omega)
   · rw [Cg,Nat.pow_succ,Nat.mul_comm]
     exact Nat.mul_le_mul_left _ h
theorem bQO (ks:List Nat) (j:Nat):(ks.map λk=>V.int ((k:Nat):Int)).drop j=((ks.drop j).map λk=>V.int ((k:Nat):Int)):=(List.map_drop ..).symm
theorem aJU {xs:List V} {k:Nat}:rE xs (some ((k:Nat):Int)) none=xs.drop k:=by
 unfold rE
 show (xs.drop (if ((k:Nat):Int) < 0 then (((k:Nat):Int) + (xs.length:Int)).toNat else min ((k:Nat):Int).toNat xs.length)).take (xs.length - (if ((k:Nat):Int) < 0 then (((k:Nat):Int) + (xs.length:Int)).toNat else min ((k:Nat):Int).toNat xs.length))=_
 rw [if_neg (by omega),Fl]
 by_cases h:k<=xs.length
 · rw [Nat.min_eq_left h,Bh (by rw [Co]; omega)]
 · rw [Gm (by omega),List.drop_length,List.take_nil,List.drop_eq_nil_of_le (by omega)]
def nM (ks:List Nat) (m i:Nat):List (List Nat):=(List.range i).flatMap λj=>(cJ (ks.drop (j + 1)) m).map λl=>ks.getD j 0 :: l
theorem xT (ks:List Nat) (m i:Nat):nM ks m (i + 1)=nM ks m i ++ (cJ (ks.drop (i + 1)) m).map λl=>ks.getD i 0 :: l:=by
 unfold nM
 rw [Cf,Dy,Eo,List.flatMap_nil,Bu]
theorem eQ7 {m:Nat} (h:m<=7):6 ^ m<=279936:=Bb (Nat.pow_le_pow_right (by decide) h) (by decide)
theorem yX {ks:List Nat} {m i:Nat} (h:ks.length<=6):(nM ks m i).length<=i * 6 ^ m:=by
 have:=mT (λj=>(cJ (ks.drop (j + 1)) m).map λl=>ks.getD j 0 :: l) (6 ^ m) (List.range i) λj _=>by
   rw [Ab]
   exact iG (by rw [Co]; omega)
 rwa [Cg] at this
theorem yR {ps:List Addr} {j:Nat} {x:V} (h:(ps.map V.ref)[j]?=some x):∃ p,ps[j]?=some p/\x=.ref p:=by
 rw [Ag] at h
 cases e:ps[j]? with
 | none=>rw [e] at h; cases h
 | some p=>rw [e] at h; cases h; exact ⟨p,rfl,rfl⟩
theorem zW (k:Nat) (L:List (List Nat)):(List.range L.length).map (λj=>V.int ((k:Nat):Int) :: ((L.getD j []).map λk=>V.int ((k:Nat):Int)))=(L.map λl=>k :: l).map λl=>(l.map λk=>V.int ((k:Nat):Int)):=by
 rw [Cw]
 have h:∀ n,n<=L.length->(List.range n).map (λj=>V.int ((k:Nat):Int) :: ((L.getD j []).map λk=>V.int ((k:Nat):Int)))=(L.take n).map ((λl=>(l.map λk=>V.int ((k:Nat):Int))) ∘ λl=>k :: l):=λn=>by
   induction n with
   | zero=>intro _; rfl
   | succ n ih=>
     intro hn
     have e:L[n]?=some L[n]:=Aa (by omega)
     rw [Cf,Al,ih (by omega),Az,e,Al]
     refine Df _ ?_
     show [V.int ((k:Nat):Int) :: ((L.getD n []).map λk=>V.int ((k:Nat):Int))]=[((k :: L[n]).map λk=>V.int ((k:Nat):Int))]
     rw [Ad,e]
     rfl
 have r:=h L.length (Ah _)
 rwa [Bp] at r
def cM (n:Nat):Sp:=λvs H Q _=>∃ (b:Addr) (ks:List Nat) (m:Nat),vs=[.ref b,.int ((m:Nat):Int)]/\rdL H b=some (ks.map λk=>V.int ((k:Nat):Int))/\ks.length<=6/\m < n/\m<=7/\
 ∀ (r:Addr) (ps:List Addr) (H':Hp),H r=none->Same H H'->H' r=some (.lst (ps.map V.ref))->Lsts H H' ps ((cJ ks m).map λl=>(l.map λk=>V.int ((k:Nat):Int)))->(∀ p∈ps,p≠r)->Q (.ref r) H'
theorem nG:∀ vs H Q E,¬ cM 0 vs H Q E:=λvs H Q E ⟨_,_,_,_,_,_,h,_⟩=>Fy _ h
theorem sc_rising_lists:FnScope ["numbers", "many", "lists", "at", "number", "behind"] ["numbers", "many"] (aG cI):=⟨rfl,rfl,rfl,by decide +kernel,rfl,by decide +kernel,by decide +kernel⟩
theorem oF {Zo Zz Zr Zx Zs Zp Zu Zw Zy Zt Zv Zq:Addr} {f:Addr} {fd:FuncData} {d n:Nat} (F:Fun K "rising_lists" "rising_lists" cI f fd) (G:Gs K mg Zo Zz Zr Zx Zs Zp Zu Zw Zy Zt Zv Zq) (c_rising_lists:Cal P w K mg base (d + 1) "rising_lists" ["numbers", "many"] (cM n)):FnOk P w K mg base CX0 (d + 2) f fd ["numbers", "many"] (cM (n + 1)):=by
 refine F.ok sc_rising_lists (λvs H Q E h=>?_) (λcdv A outer s H vs Q E hr h=>?_)
 · obtain ⟨b,ks,m,rfl,_⟩:=h; rfl
 obtain ⟨b,ks,m,rfl,hb,h6,hmn,h7,q⟩:=h
 refine ⟨_,(@aF _ _ _ _ _ (cT (bC vA (mv 1) aJ (bG _)) (@aI _ _ _ (aV (bE (aA (bE aB) aB)))) bS) (@aF _ _ _ _ _ (@aP _ _ 2 _ _ _ _ sc_rising_lists.nd (by rfl) (by exact (Or.inl rfl)) (bE aB) (by rfl) (by first | exact Or.inl rfl | exact Or.inr rfl)) (@aF _ _ _ _ _ (bP Ba rfl (tM rfl G.b_enumerate (aA (mv 0) aB)) (kI (K:=K) (i:=3) (j:=4) (by rfl) (by rfl) sc_rising_lists.nd (by rfl) (by exact (Or.inl rfl)) (by exact Or.inl rfl) (by rfl) (by exact (Or.inr rfl)) (by exact Or.inl rfl)) (@aF _ _ _ _ _ (@aP _ _ 5 _ _ _ _ sc_rising_lists.nd (by rfl) (by exact (Or.inl rfl)) (aX c_rising_lists hr (Ah _) rfl (aA (vS dZK (mv 0) (uC (aT bZ (mv 3) aJ)) cZB) (aA (aT jE (mv 1) aJ) aB))) (by rfl) (by first | exact Or.inl rfl | exact Or.inr rfl)) (@aI _ _ _ (cK (dD Bq Dr Ds vM (mv 2) (aA (dC rfl (bW (mv 5)) (fZ (N:=["rest", "number"]) ["numbers", "many", "lists", "at", "number", "behind"] (aG cI) [none,some 4] rfl rfl rfl (λx h=>cA h) (by decide +kernel)) (by decide +kernel) rfl (by decide +kernel) (λC s₀ H₀ ex=>(aQ (i:=0) (show List.Nodup (["rest", "number"]:List Str) by decide +kernel) rfl (Or.inl rfl))) (λC s₀ H₀ ex=>gS) (λC s₀ H₀ ex=>(aT bZ (bE (aA (mv 1) aB)) (mv 0)))) aB)))))) (@aI _ _ _ (aV (mv 2)))))),?_⟩
 cases m with
 | zero=>
   walk_at "go"
   rw [show decide (((0:Nat):Int)=0)=true from rfl]
   walk_at "go"
   refine ⟨by decide,λp hp=>?_⟩
   have s1:=aE hp (.lst [])
   have e1:(upd H p (.lst [])) p=some (.lst ((([]:List Nat)).map λk=>V.int ((k:Nat):Int))):=aD
   generalize upd H p (.lst [])=H1 at s1 e1 ⊢
   walk_at "go"
   refine ⟨by show 1<=sizeLine; decide,λr hr=>?_⟩
   have s2:=aE hr (.lst [.ref p])
   have npr:p≠r:=λz=>by rw [z,hr] at e1; cases e1
   refine q r [p] _ (none_of s1 hr) (s1.trans s2) aD ?_ (λz hz=>by rw [Aw.mp hz]; exact npr)
   rw [fY]
   exact Lsts.snoc (ps:=[]) (fs:=[]) .nil hp (s2 _ _ e1)
 | succ m=>
   have h6m:=eQ7 (m:=m + 1) h7
   rw [Nat.pow_succ] at h6m
   walk_at "go"
   rw [show decide (((m + 1:Nat):Int)=0)=false from Au (by omega)]
   walk_at "go"
   refine ⟨by decide,λp hp=>?_⟩
   have s1:=aE hp (.lst [])
   have e1:(upd H p (.lst [])) p=some (.lst (([]:List Addr).map V.ref)):=aD
   generalize upd H p (.lst [])=H1 at s1 e1 ⊢
   have hb1:=aH s1 hb
   walk_at "go"
   refine aQ4 (xs:=(ks.map λk=>V.int ((k:Nat):Int))) (λi σ H'=>∃ (ps:List Addr) (v3 v4 v5:Option V),σ=[some (.ref b),some (.int ((m + 1:Nat):Int)),some (.ref p),v3,v4,v5]/\Same H H'/\H' p=some (.lst (ps.map V.ref))/\Lsts H H' ps ((nM ks m i).map λl=>(l.map λk=>V.int ((k:Nat):Int)))/\∀ z∈ps,z≠p)
     ⟨[],_,_,_,rfl,s1,e1,.nil,λz hz=>nomatch hz⟩ (λi σ H' _ ⟨_,_,_,_,_,e,_⟩=>aH e hb) ?_ ?_
   · rintro i x σ H2 pt hx ⟨ps,v3,v4,v5,rfl,s2,e2,ls,nd⟩ hpt
     obtain ⟨k,ek,rfl⟩:=jZ hx
     have hi:i < ks.length:=(Ae.mp ek).1
     have hps:ps.length=(nM ks m i).length:=by rw [ls.1,Ab]
     have hpl:=yX (m:=m) (i:=i) h6
     have hpl2:i * 6 ^ m<=5 * 6 ^ m:=Nat.mul_le_mul_right _ (by omega)
     have s3:=s2.trans (aE hpt (.tup [.int ((0 + i:Nat):Int),.int ((k:Nat):Int)]))
     have s23:=aE hpt (.tup [.int ((0 + i:Nat):Int),.int ((k:Nat):Int)])
     have et3:(upd H2 pt (.tup [.int ((0 + i:Nat):Int),.int ((k:Nat):Int)])) pt=some (.tup [.int ((0 + i:Nat):Int),.int ((k:Nat):Int)]):=aD
     generalize upd H2 pt (.tup [.int ((0 + i:Nat):Int),.int ((k:Nat):Int)])=H3 at s3 s23 et3 ⊢
     have hb3:=aH s3 hb
     have tt3:=kH et3
     walk_at "go"
     rw [show ((0 + i:Nat):Int) + 1=((i + 1:Nat):Int) by omega]
     intro ra hra
     rw [aJU,bQO]
     have s4:=aE hra (.lst ((ks.drop (i + 1)).map λk=>V.int ((k:Nat):Int)))
     have e4:rdL (upd H3 ra (.lst ((ks.drop (i + 1)).map λk=>V.int ((k:Nat):Int)))) ra=some ((ks.drop (i + 1)).map λk=>V.int ((k:Nat):Int)):=bV
     generalize upd H3 ra (.lst ((ks.drop (i + 1)).map λk=>V.int ((k:Nat):Int)))=H4 at s4 e4 ⊢
     have s24:=s23.trans s4
     walk_at "go"
     rw [show ((m + 1:Nat):Int) - 1=((m:Nat):Int) by omega]
     refine ⟨ra,ks.drop (i + 1),m,rfl,e4,by rw [Co]; omega,by omega,by omega,λrb qs H5 hrb s5 e5 lq nq=>?_⟩
     have s25:=s24.trans s5
     have rb5:=aO e5
     have rp5:=aO (s25 _ _ e2)
     have hqs:qs.length=(cJ (ks.drop (i + 1)) m).length:=by rw [lq.1,Ab]
     have hql:(cJ (ks.drop (i + 1)) m).length<=6 ^ m:=iG (by rw [Co]; omega)
     walk_at "go"
     refine cQJ (λj=>V.int ((k:Nat):Int) :: (((cJ (ks.drop (i + 1)) m).getD j []).map λk=>V.int ((k:Nat):Int))) rb5 (by rw [Ab,hqs]; exact Ec (Bb hql (Bb (Nat.le_mul_of_pos_right _ (by decide:0 < 6)) h6m)) (by decide)) (λj x Hc A B hx sm hA=>?_) (λD Hd us hD sd eD hul lu nu=>?_)
     · obtain ⟨u,eu,rfl⟩:=yR hx
       have hj:j < (cJ (ks.drop (i + 1)) m).length:=by rw [<-hqs]; exact (Ae.mp eu).1
       obtain ⟨l,el⟩:∃ l,(cJ (ks.drop (i + 1)) m)[j]?=some l:=⟨_,Aa hj⟩
       have hu:=sm _ _ (lq.2 j u (l.map λk=>V.int ((k:Nat):Int)) eu (by rw [Ag,el]; rfl)).2
       have hll:l.length=m:=(mem_combs.mp (Ak el)).2
       have hgl:(cJ (ks.drop (i + 1)) m).getD j []=l:=by rw [Ad,el]; rfl
       rw [hgl] at hA
       walk_at "go"
       refine ⟨Wk.set rfl (Wk.refl _),?_⟩
       walk_at "go"
       refine ⟨by show 1<=sizeLine; decide,λp6 hp6=>?_⟩
       have s6:=aE hp6 (.lst [V.int ((k:Nat):Int)])
       have e6:(upd Hc p6 (.lst [V.int ((k:Nat):Int)])) p6=some (.lst [V.int ((k:Nat):Int)]):=aD
       have hu6:=s6 _ _ hu
       generalize upd Hc p6 (.lst [V.int ((k:Nat):Int)])=H6 at s6 e6 hu6 ⊢
       refine lB (bI e6) (bI hu6) (bQ (by rw [Ab]; show 1 + _<=_; omega)) λp7 hp7=>?_
       exact hA p7 _ (none_of s6 hp7) (s6.trans (aE hp7 _)) aD
     · rw [Ab,hqs,zW] at lu
       rw [Ab] at hul
       have s2d:=s25.trans sd
       have e2d:=s2d _ _ e2
       have npD:∀ z∈us,z≠p:=λz hz zp=>by
         obtain ⟨g,_,h1,_⟩:=lu.mem hz
         rw [zp,s25 _ _ e2] at h1
         cases h1
       have hek:ks.getD i 0=k:=by rw [Ad,ek]; rfl
       walk_at "go"
       refine cJI (bI e2d) (bI eD) (Bb (by rw [Ab,Ab,hps,hul,hqs]; omega:_<=279936) (by decide)) ?_
       walk_at "go"
       refine ⟨ps ++ us,_,_,_,rfl,aW hp (s2.trans s2d),by rw [Al]; exact aD,?_,λz hz=>?_⟩
       · rw [xT,Al,hek]
         refine Lsts.put ?_ λz hz=>?_
         · exact (ls.keep s2d).app (lu.older (s2.trans s25))
         · rcases Bi.mp hz with e | e
           · exact nd z e
           · exact npD z e
       · rcases Bi.mp hz with e | e
         · exact nd z e
         · exact npD z e
   · rintro σ H2 ⟨ps,v3,v4,v5,rfl,s2,e2,ls,nd⟩
     walk_at "go"
     refine q p ps H2 hp s2 e2 ?_ nd
     rw [iT]
     rw [Ab] at ls
     exact ls
theorem qM {α:Type} (F:α->V):∀ xs:List α,(List.range xs.length).filterMap (λj=>(xs[j]?).map F)=xs.map F:=λxs=>by
 have h:∀ n,n<=xs.length->(List.range n).filterMap (λj=>(xs[j]?).map F)=(xs.take n).map F:=λn=>by
   induction n with
   | zero=>intro _; rfl
   | succ n ih=>
     intro hn
     have e:xs[n]?=some xs[n]:=Aa (by omega)
     rw [dQ (y:=F xs[n]) (by rw [e]; rfl),ih (by omega),Az,e,Al]
     rfl
 have r:=h xs.length (Ah _)
 rw [Bp] at r
 exact r
def eXH:Option (List Nat)->Str
 | none=>⟨#[45]⟩
 | some cs=>aZ cs
def HalV (H:Hp) (v:V):Option (List Nat)->Prop
 | none=>v=.non
 | some cs=>∃ p,v=.ref p/\H p=some (.lst ((cs.map one).map V.str))
def HalOk (hs:List (Option (List Nat))):Prop:=∀ cs,some cs∈hs->cF (cs.map one)=true
structure HalsAt (H:Hp) (vs:List V) (hs:List (Option (List Nat))):Prop where
 len:vs.length=hs.length
 val:∀ (j:Nat) v h,vs[j]?=some v->hs[j]?=some h->HalV H v h
theorem HalV.keep {H H':Hp} {v:V} {h:Option (List Nat)} (a:HalV H v h) (s:∀ p xs,H p=some (.lst xs)->v=.ref p->H' p=some (.lst xs)):HalV H' v h:=by
 cases h with
 | none=>exact a
 | some cs=>
   obtain ⟨p,e,hp⟩:=a
   exact ⟨p,e,s p _ hp e⟩
theorem HalsAt.keep {H H':Hp} {vs:List V} {hs:List (Option (List Nat))} (a:HalsAt H vs hs) (s:Same H H'):HalsAt H' vs hs:=⟨a.len,λj v h hv hh=>(a.val j v h hv hh).keep λp xs hp _=>s _ _ hp⟩
theorem HalsAt.nil {H:Hp}:HalsAt H [] []:=⟨rfl,λj v h hv=>nomatch hv⟩
theorem HalsAt.snoc {H:Hp} {vs:List V} {hs:List (Option (List Nat))} {v:V} {h:Option (List Nat)} (a:HalsAt H vs hs) (b:HalV H v h):HalsAt H (vs ++ [v]) (hs ++ [h]):=by
 refine ⟨by rw [Aj,Aj,a.len]; rfl,λj x g hx hg=>?_⟩
 by_cases hj:j < vs.length
 · rw [As hj] at hx
   rw [As (by rw [<-a.len]; exact hj)] at hg
   exact a.val j x g hx hg
 · have e:j=vs.length:=by
     have:=(Ae.mp hx).1
     rw [Aj] at this
     have:j < vs.length + 1:=this
     omega
   subst e
   rw [Ax (Ah _),Fq] at hx
   rw [a.len,Ax (Ah _),Fq] at hg
   cases hx
   cases hg
   exact b
theorem HalV.ne {H:Hp} {r:Addr} {vs:List V} {h:Option (List Nat)} {j:Nat} {v:V} (hr:H r=some (.lst vs)) (hj:vs[j]?=some v) (a:HalV H v h):v≠.ref r:=λz=>by
 cases h with
 | none=>rw [show v=.non from a] at z; cases z
 | some cs=>
   obtain ⟨p,e,hp⟩:=a
   rw [z] at e
   cases e
   rw [hr] at hp
   cases hp
   obtain ⟨u,_,hu⟩:=lK hj
   rw [z] at hu
   cases hu
theorem HalsAt.put {H:Hp} {r:Addr} {vs us:List V} {hs:List (Option (List Nat))} (hr:H r=some (.lst vs)) (a:HalsAt H vs hs):HalsAt (upd H r (.lst us)) vs hs:=⟨a.len,λj v h hv hh=>(a.val j v h hv hh).keep λp xs hp e=>by
 rw [aK (λz=>(a.val j v h hv hh).ne hr hv (by rw [<-z]; exact e))]
 exact hp⟩
theorem HalsAt.at {H:Hp} {vs:List V} {hs:List (Option (List Nat))} (a:HalsAt H vs hs) {j:Nat} {v:V} (hv:vs[j]?=some v):∃ h,hs[j]?=some h/\HalV H v h:=by
 have hj:j < hs.length:=by rw [<-a.len]; exact (Ae.mp hv).1
 exact ⟨hs[j],Aa hj,a.val j v _ hv (Aa hj)⟩
theorem aXD {K:PySem.W.Frag} {g:TG} {tests:TT} {te:TE} {σ0:St} {H1:Hp} {Q:VK} {a:Addr} {xs:List V} {hs:List (Option (List Nat))} (ha:rdL H1 a=some xs) (hl:xs.length < sizeLine) (hx:xs.length=hs.length)
   (step:∀ (i:Nat) x h Hc (A:VK) (B:Hp->Prop),xs[i]?=some x->hs[i]?=some h->Same H1 Hc->(∀ v Hd,Same Hc Hd->HalV Hd v h->(∀ p,v=.ref p->Hc p=none)->A v Hd)->
     g x σ0 Hc λσ2 H2=>Wk σ0 σ2/\tests σ2 H2 λb H3=>if b=true then te σ2 H3 A else B H3)
   (fin:∀ D Hd vs,H1 D=none->Same H1 Hd->Hd D=some (.lst vs)->HalsAt Hd vs hs->(∀ p,V.ref p∈vs->H1 p=none)->Q (.ref D) Hd):dZ g tests te σ0 Q (Itl K a) H1:=by
 refine gA (n:=xs.length) (λD i ys Hc=>Same H1 Hc/\HalsAt Hc ys (hs.take i)/\∀ p,V.ref p∈ys->H1 p=none) hl (λD hD=>⟨aE hD _,.nil,λp hp=>nomatch hp⟩)
   (λD i ys Hc _ r h=>⟨xs,xs[i],aU (aH r.1 ha),by simp [h]⟩) (λD ys Hc _ r=>⟨xs,aU (aH r.1 ha),Nat.le_refl _⟩) ?_ ?_
 · rintro D i ys Hc x H' A B hD hi ⟨sm,at',fr⟩ hDc ⟨rfl,hz⟩ ha' hb
   have hi2:i < hs.length:=by omega
   have eh:hs[i]?=some hs[i]:=Aa hi2
   refine step i x hs[i] H' A B (hz xs (aU (aH sm ha))) eh sm (λv Hd sd hv hn=>?_)
   refine ha' _ _ (sd _ _ hDc) ⟨aW hD (sm.trans sd),?_,λp hp=>?_⟩
   · rw [Az,eh]
     refine HalsAt.snoc ((at'.keep sd).put (sd _ _ hDc)) (hv.keep λp zs hp e=>?_)
     rw [aK (λz=>by have:=hn p e; rw [z,hDc] at this; cases this)]
     exact hp
   · rcases Bi.mp hp with e | e
     · exact fr p e
     · exact none_of sm (hn p (Aw.mp e).symm)
 · rintro D ys Hc hD ⟨sm,at',fr⟩ hDc _
   rw [hx,Bp] at at'
   exact fin D Hc ys hD sm hDc at' fr
theorem bQV {f:Nat->Option Int} (hf0:∀ c,0<=aL f c) (c:Nat):aL (bO (aL f)) c<=aL f c:=by
 show (bO (aL f) c).getD 0<=_
 unfold bO
 split
 · exact Fn _
 · exact hf0 c
theorem LackOk.plain {cws:List (List Nat)} {f:Nat->Option Int} {W:List Wt} {F:List Nat} (hf0:∀ c,0<=aL f c) (h:LackOk cws (aL (bO (aL f))) W F):LackOk cws (aL f) W F:=by
 refine ⟨h.sub,h.flags,h.all,?_⟩
 have e:F.map (aL f)=F.map (aL (bO (aL f))):=Cz λc hc=>by
   obtain ⟨p,hp⟩:=h.flags
   rw [hp] at hc
   exact (fR (flags_mem.mp (Ct.mp hc).1) (hf0 c)).symm
 rw [e]
 exact h.few
theorem jF {cws:List (List Nat)}:∀ i,i<=cws.length->(wlP cws i).length=fN cws i
 | 0,_=>rfl
 | i + 1,h=>by
   have e:cws[i]?=some cws[i]:=Aa (by omega)
   rw [iD,Aj,jF i (by omega),sR e]
   unfold jW
   rw [Ab,Cg,Ad,e]
   rfl
theorem dZZ {cws:List (List Nat)} {i k:Nat} {cw:List Nat} (hi:cws[i]?=some cw) (hk:k < cw.length):(wl cws)[fN cws i + k]?=some (i,1 + k):=by
 have hil:=(Ae.mp hi).1
 have h:∀ n,i < n->n<=cws.length->(wlP cws n)[fN cws i + k]?=some (i,1 + k):=λn=>by
   induction n with
   | zero=>intro h; omega
   | succ n ih=>
     intro h1 h2
     rw [iD]
     by_cases hn:i=n
     · subst hn
       have e:=jF (cws:=cws) i (by omega)
       rw [Ax (by omega),show fN cws i + k - (wlP cws i).length=k by omega]
       unfold jW
       rw [Ag,Ad,hi]
       show ((List.range cw.length)[k]?).map _=_
       rw [List.getElem?_range hk]
       rfl
     · have r:=ih (by omega) (by omega)
       rw [As (Ae.mp r).1]
       exact r
 exact h cws.length hil (Ah _)
def Hg (cw h:List Nat):Prop:=h.length=cw.length/\∀ (k g:Nat),h[k]?=some g->g∈chs cw k
inductive Hgs:List (List Nat)->List (List Nat)->Prop
 | nil:Hgs [] []
 | cons {cw h:List Nat} {cws hs:List (List Nat)}:Hg cw h->Hgs cws hs->Hgs (cw :: cws) (h :: hs)
theorem Hgs.app {xs ys hs gs:List (List Nat)} (a:Hgs xs hs) (b:Hgs ys gs):Hgs (xs ++ ys) (hs ++ gs):=by
 induction a with
 | nil=>exact b
 | cons h _ ih=>exact .cons h ih
theorem Hgs.split:∀ {xs ys hs:List (List Nat)},Hgs (xs ++ ys) hs->∃ h1 h2,hs=h1 ++ h2/\Hgs xs h1/\Hgs ys h2
 | [],ys,hs,h=>⟨[],hs,rfl,.nil,h⟩
 | x :: xs,ys,_,.cons a b=>by
   obtain ⟨h1,h2,rfl,p,q⟩:=Hgs.split b
   exact ⟨_ :: h1,h2,rfl,.cons a p,q⟩
theorem oM (xs ys:List Nat) (c:Nat):ctn (xs ++ ys) c=ctn xs c + ctn ys c:=Gc
theorem uM (xs ys:List (List Nat)) (c:Nat):ctn (xs ++ ys).flatten c=ctn xs.flatten c + ctn ys.flatten c:=by rw [List.flatten_append,oM]
theorem Hgs.sub {cws cws':List (List Nat)} (s:cws'.Sublist cws):∀ {hs:List (List Nat)},Hgs cws hs->∃ hs',Hgs cws' hs'/\∀ c,ctn hs'.flatten c<=ctn hs.flatten c:=by
 induction s with
 | slnil=>intro hs h; exact ⟨hs,h,λc=>Ah _⟩
 | cons a s ih=>
   rintro _ (_ | ⟨h1,h2⟩)
   obtain ⟨hs',p,q⟩:=ih h2
   exact ⟨hs',p,λc=>by rw [Ep,oM]; have:=q c; omega⟩
 | cons_cons a s ih=>
   rintro _ (_ | ⟨h1,h2⟩)
   obtain ⟨hs',p,q⟩:=ih h2
   exact ⟨_ :: hs',.cons h1 p,λc=>by rw [Ep,oM,Ep,oM]; have:=q c; omega⟩
def CanL (n:Nat->Int) (cws:List (List Nat)):Prop:=∃ hs,Hgs cws hs/\∀ c,(ctn hs.flatten c:Int)<=n c
theorem Hgs.len {cws hs:List (List Nat)} (h:Hgs cws hs):hs.length=cws.length:=by
 induction h with
 | nil=>rfl
 | cons _ _ ih=>rw [Ay,Ay,ih]
theorem bZI {cws:List (List Nat)} {j:Nat} {w:Wt}:∀ i,i<=cws.length->(wlP cws i)[j]?=some w->∃ (a k:Nat) (cw:List Nat),a < i/\cws[a]?=some cw/\k < cw.length/\w=(a,1 + k)/\j=fN cws a + k
 | 0,_,h=>by cases h
 | i + 1,hi,h=>by
   rw [iD] at h
   have hl:=jF (cws:=cws) i (by omega)
   by_cases hj:j < (wlP cws i).length
   · rw [As hj] at h
     obtain ⟨a,k,cw,p,q⟩:=bZI i (by omega) h
     exact ⟨a,k,cw,by omega,q⟩
   · rw [Ax (by omega)] at h
     have e:cws[i]?=some cws[i]:=Aa (by omega)
     unfold jW at h
     rw [Ag,Ad,e] at h
     have hlt:j - (wlP cws i).length < (cws[i]).length:=by
       have hn:¬ (cws[i]).length<=j - (wlP cws i).length:=λz=>by
         rw [List.getElem?_eq_none (by rw [Cg]; exact z)] at h
         cases h
       omega
     refine ⟨i,j - (wlP cws i).length,cws[i],by omega,e,hlt,?_,by omega⟩
     rw [List.getElem?_range (by exact hlt)] at h
     cases h
     rfl
theorem Hgs.at {cws hs:List (List Nat)} (h:Hgs cws hs):∀ {i:Nat} {cw:List Nat},cws[i]?=some cw->∃ g,hs[i]?=some g/\Hg cw g:=by
 induction h with
 | nil=>intro i cw e; cases e
 | cons a b ih=>
   intro i cw e
   cases i with
   | zero=>cases e; exact ⟨_,rfl,a⟩
   | succ i=>exact ih e
theorem Hgs.offsL {cws hs:List (List Nat)} (h:Hgs cws hs):∀ (i:Nat),(hs.take i).flatten.length=fN cws i:=by
 induction h with
 | nil=>intro i; cases i <;> rfl
 | cons a b ih=>
   intro i
   cases i with
   | zero=>rfl
   | succ i=>
     have:=ih i
     unfold fN at this ⊢
     rw [Ft,Ep,Aj,this,Ft,Ar,Ck,a.1]
theorem cXI {hs:List (List Nat)} {i k:Nat} {g:List Nat} (h:hs[i]?=some g) (hk:k < g.length):hs.flatten[(hs.take i).flatten.length + k]?=g[k]? := by
 have e:hs=hs.take i ++ (g :: hs.drop (i + 1)):=by
   obtain ⟨h1,h2⟩:=Ae.mp h
   rw [<-h2,<-List.drop_eq_getElem_cons h1,List.take_append_drop]
 have e2:hs.flatten=(hs.take i).flatten ++ (g ++ (hs.drop (i + 1)).flatten):=by
   have:=Df List.flatten e
   rwa [List.flatten_append,Ep] at this
 rw [e2,Ax (by omega),Ez,As hk]
theorem CanL.canH {n:Nat->Int} {cws:List (List Nat)} (h:CanL n cws):CanH n cws:=by
 obtain ⟨hs,hg,hc⟩:=h
 refine ⟨hs.flatten,?_,λj w g hw hf=>?_,hc⟩
 · have h1:=hg.offsL cws.length
   rw [show hs.take cws.length=hs from Bh (Nat.le_of_eq hg.len)] at h1
   rw [h1]
   exact (jF _ (Ah _)).symm
 · obtain ⟨a,k,cw,ha,hcw,hk,rfl,rfl⟩:=bZI cws.length (Ah _) hw
   obtain ⟨h,hh,hgh⟩:=hg.at hcw
   rw [<-hg.offsL a,cXI hh (by rw [hgh.1]; exact hk)] at hf
   unfold chW
   rw [Ad,hcw,show (a,1 + k).2 - 1=k by show 1 + k - 1=k; omega]
   exact hgh.2 k g hf
def mS:List (List Nat)->List Nat->List (List Nat)
 | [],_=>[]
 | cw :: r,fs=>fs.take cw.length :: mS r (fs.drop cw.length)
theorem kD:∀ {cws:List (List Nat)} {fs:List Nat},fs.length=(cws.map List.length).sum->(mS cws fs).flatten=fs
 | [],fs,h=>by rw [List.eq_nil_of_length_eq_zero h]; rfl
 | cw :: r,fs,h=>by
   rw [Ar,Ck] at h
   rw [mS,Ep,kD (by rw [Co]; omega),List.take_append_drop]
theorem wB:∀ {cws:List (List Nat)} {fs:List Nat},fs.length=(cws.map List.length).sum->(∀ (i k g:Nat) cw,cws[i]?=some cw->k < cw.length->fs[fN cws i + k]?=some g->g∈chs cw k)->Hgs cws (mS cws fs)
 | [],fs,h,_=>.nil
 | cw :: r,fs,h,hc=>by
   rw [Ar,Ck] at h
   refine .cons ⟨by rw [Bo]; omega,λk g hk=>?_⟩ (wB (by rw [Co]; omega) λi k g cw' hi hk hg=>?_)
   · have hkl:k < cw.length:=by
       have:=(Ae.mp hk).1
       rw [Bo] at this
       omega
     rw [List.getElem?_take,if_pos hkl] at hk
     exact hc 0 k g cw rfl hkl (by rw [show fN (cw :: r) 0=0 from rfl,Nat.zero_add]; exact hk)
   · refine hc (i + 1) k g cw' hi hk ?_
     rw [List.getElem?_drop] at hg
     rw [show fN (cw :: r) (i + 1)=cw.length + fN r i by unfold fN; rw [Ft,Ar,Ck],Nat.add_assoc]
     exact hg
theorem uJ (cws:List (List Nat)):(wl cws).length=(cws.map List.length).sum:=by
 have h:=jF (cws:=cws) cws.length (Ah _)
 unfold fN at h
 rw [Bp] at h
 exact h
theorem yU {cws:List (List Nat)} {fs:List Nat} (hl:fs.length=(wl cws).length) (hch:∀ (j:Nat) w g,(wl cws)[j]?=some w->fs[j]?=some g->g∈chW cws w):Hgs cws (mS cws fs):=by
 refine wB (hl.trans (uJ cws)) λi k g cw hi hk hg=>?_
 have h:=hch _ _ g (dZZ hi hk) hg
 unfold chW at h
 rw [Ad,hi,show (i,1 + k).2 - 1=k by show 1 + k - 1=k; omega] at h
 exact h
theorem CanH.canL {n:Nat->Int} {cws:List (List Nat)} (h:CanH n cws):CanL n cws:=by
 obtain ⟨fs,hl,hch,hc⟩:=h
 exact ⟨mS cws fs,yU hl hch,by rw [kD (hl.trans (uJ cws))]; exact hc⟩
theorem CanH.sub {n:Nat->Int} {cws cws':List (List Nat)} (h:CanH n cws) (s:cws'.Sublist cws):CanH n cws':=by
 obtain ⟨hs,hg,hc⟩:=h.canL
 obtain ⟨hs',p,q⟩:=hg.sub s
 exact CanL.canH ⟨hs',p,λc=>by have:=hc c; have:=q c; omega⟩
theorem CanH.nil {n:Nat->Int} (h:∀ c,0<=n c):CanH n []:=CanL.canH ⟨[],.nil,h⟩
theorem CanH.more {n m:Nat->Int} {cws cws':List (List Nat)} {fs:List Nat} (hl:fs.length=(wl cws).length) (hch:∀ (j:Nat) w g,(wl cws)[j]?=some w->fs[j]?=some g->g∈chW cws w) (h:CanH m cws') (e:∀ c,(ctn fs c:Int) + m c<=n c):CanH n (cws ++ cws'):=by
 obtain ⟨hs,hg,hc⟩:=h.canL
 refine CanL.canH ⟨_,(yU hl hch).app hg,λc=>?_⟩
 rw [uM,kD (hl.trans (uJ cws))]
 have:=e c
 have:=hc c
 omega
theorem HalsAt.get {H:Hp} {vs:List V} {hs:List (Option (List Nat))} (a:HalsAt H vs hs) {k:Nat} (hk:k < hs.length):∃ v,atI vs (k:Int)=some v/\vs[k]?=some v/\HalV H v (hs.getD k none):=by
 have hv:k < vs.length:=by rw [a.len]; exact hk
 refine ⟨vs[k],eO (Aa hv),Aa hv,?_⟩
 refine a.val k _ _ (Aa hv) ?_
 rw [Ad,Aa hk]
 rfl
def aM (hs:List (Option (List Nat))) (n:Nat):List Nat:=(List.range hs.length).filter λk=>(hs.getD k none).isSome && !decide (k=n)
theorem iJ {hs:List (Option (List Nat))} {n k:Nat} (h:k∈aM hs n):k < hs.length/\(hs.getD k none).isSome=true/\k≠n:=by
 obtain ⟨h1,h2⟩:=Ct.mp h
 rw [Dz,Bool.not_eq_true',decide_eq_false_iff_not] at h2
 exact ⟨Cc.mp h1,h2.1,h2.2⟩
theorem lO {hs:List (Option (List Nat))} {n:Nat} (hn:n < hs.length):(aM hs n).length + 1<=hs.length:=by
 have h1:(aM hs n).Sublist ((List.range hs.length).filter λk=>!decide (k=n)):=by
   have e:aM hs n=((List.range hs.length).filter λk=>!decide (k=n)).filter λk=>(hs.getD k none).isSome:=by
     unfold aM
     rw [List.filter_filter]
   rw [e]
   exact Eu
 have h2:=h1.length_le
 have h3:=List.length_eq_countP_add_countP (p:=λk=>decide (k=n)) (l:=List.range hs.length)
 rw [Cg] at h3
 have h4:1<=(List.range hs.length).countP λk=>decide (k=n):=by
   refine List.countP_pos_iff.mpr ⟨n,Cc.mpr hn,Ap rfl⟩
 have h5:((List.range hs.length).filter λk=>!decide (k=n)).length=(List.range hs.length).countP λk=>!decide (k=n):=Ff.symm
 have h6:((List.range hs.length).countP λa=>¬ (decide (a=n))=true)=(List.range hs.length).countP λk=>!decide (k=n):=by
   congr 1
   funext k
   cases decide (k=n) <;> rfl
 omega
def oth (hs:List (Option (List Nat))) (n:Nat) (i:Nat):Option V:=if ((hs.getD i none).isSome && !decide (i=n))=true then some (V.int ((i:Nat):Int)) else none
theorem bXC (hs:List (Option (List Nat))) (n m:Nat):(List.range m).filterMap (oth hs n)=((List.range m).filter λk=>(hs.getD k none).isSome && !decide (k=n)).map λk=>V.int ((k:Nat):Int):=by
 induction List.range m with
 | nil=>rfl
 | cons a r ih=>
   by_cases h:((hs.getD a none).isSome && !decide (a=n))=true
   · rw [Dc (b:=V.int ((a:Nat):Int)) (by unfold oth; rw [if_pos h]),List.filter_cons_of_pos (p:=λk=>(hs.getD k none).isSome && !decide (k=n)) h,Ar,ih]
   · rw [Dq (by unfold oth; rw [if_neg h]),List.filter_cons_of_neg (p:=λk=>(hs.getD k none).isSome && !decide (k=n)) h,ih]
def jC:Sp:=λvs H Q _=>∃ (a:Addr) (us:List V) (hs:List (Option (List Nat))) (n:Nat),vs=[.ref a,.int ((n:Nat):Int)]/\rdL H a=some us/\HalsAt H us hs/\hs.length<=7/\
 ∀ (r:Addr) (H':Hp),H r=none->Same H H'->H' r=some (.lst ((aM hs n).map λk=>V.int ((k:Nat):Int)))->Q (.ref r) H'
theorem qG:FnScope ["halyards", "number"] ["halyards", "number"] (aG cS):=⟨rfl,rfl,rfl,by decide +kernel,rfl,by decide +kernel,by decide +kernel⟩
theorem pZ {Zo Zz Zr Zx Zs Zp Zu Zw Zy Zt Zv Zq:Addr} {f:Addr} {fd:FuncData} (F:Fun K "others_hung" "others_hung" cS f fd) (G:Gs K mg Zo Zz Zr Zx Zs Zp Zu Zw Zy Zt Zv Zq)  : FnOk P w K mg base CX0 1 f fd ["halyards", "number"] jC:=by
 refine F.ok qG (λvs H Q E h=>?_) (λcdv A outer s H vs Q E hr h=>?_)
 · obtain ⟨a,us,hs,n,rfl,_⟩:=h; rfl
 obtain ⟨a,us,hs,n,rfl,ha,hat,h7,q⟩:=h
 refine ⟨_,(@aI _ _ _ (aV (dC rfl (tM rfl G.b_enumerate (aA (mv 0) aB)) (fZ (N:=["other", "hoist", "number"]) ["halyards", "number"] (aG cS) [none,none,some 1] rfl rfl rfl (λx h=>cA h) (by decide +kernel)) (by decide +kernel) rfl (by decide +kernel) (λC s₀ H₀ ex=>(kI (K:=K) (i:=0) (j:=1) (by rfl) (by rfl) (show List.Nodup (["other", "hoist", "number"]:List Str) by decide +kernel) (by rfl) (by exact Or.inl rfl) (by exact Or.inr rfl) (by rfl) (by exact Or.inl rfl) (by exact Or.inr rfl))) (λC s₀ H₀ ex=>(jK (PW.pt (tY (bC tK (mv 1) cV (bG _)) (oQ (bC bJ4 (mv 0) (mv 2) (bG _))))))) (λC s₀ H₀ ex=>(mv 0))))),?_⟩
 have hul:=hat.len
 walk_at "go"
 refine bXJ (xs:=us) (oth hs n) ha (aY (by omega)) (λi x Hc p A B hx sm hp hA hB=>?_) (λD Hd hD sD hd=>?_)
 · have hi:i < hs.length:=by rw [<-hul]; exact (Ae.mp hx).1
   have hv:=hat.val i x (hs.getD i none) hx (by rw [Ad,Aa hi]; rfl)
   have tp:lP (upd Hc p (.tup [.int ((0 + i:Nat):Int),x])) p=some [.int ((0 + i:Nat):Int),x]:=mY
   rw [Nat.zero_add] at tp hA hB ⊢
   walk_at "go"
   refine ⟨Wk.set rfl (Wk.set rfl (Wk.refl _)),?_⟩
   walk_at "go"
   cases eh:hs.getD i none with
   | none=>
     rw [eh] at hv
     obtain rfl:x=V.non:=hv
     rw [show decide (V.non=V.non)=true from rfl]
     walk_at "go"
     exact hB (by unfold oth; rw [eh]; rfl) _ (Same.refl _)
   | some cs=>
     rw [eh] at hv
     obtain ⟨pc,rfl,_⟩:=hv
     rw [show decide (V.ref pc=V.non)=false from Au (λz=>nomatch z)]
     walk_at "go"
     by_cases hn:i=n
     · rw [Ap (show ((i:Nat):Int)=((n:Nat):Int) by omega)]
       exact hB (by unfold oth; rw [eh,Ap hn]; rfl) _ (Same.refl _)
     · rw [Au (show ¬ ((i:Nat):Int)=((n:Nat):Int) by omega)]
       walk_at "go"
       exact hA _ (by unfold oth; rw [eh,Au hn]; rfl) _ (Same.refl _)
 · rw [hul,bXC] at hd
   exact q D Hd hD sD hd
def bF (hs:List (Option (List Nat))) (ks:List Nat):List Nat:=ks.flatMap λk=>(hs.getD k none).getD []
theorem aJC (hs:List (Option (List Nat))) (A B:List Nat):bF hs (A ++ B)=bF hs A ++ bF hs B:=Dy ..
theorem sJ {hs:List (Option (List Nat))} (ok:HalOk hs) (k:Nat):((hs.getD k none).getD []).length<=7:=by
 cases e:hs[k]? with
 | none=>rw [Ad,e]; exact Ci _
 | some h=>
   rw [Ad,e]
   cases h with
   | none=>exact Ci _
   | some cs=>
     have:=fF (ok cs (Ak e))
     rw [Ab] at this
     exact this.2
theorem fV {hs:List (Option (List Nat))} (ok:HalOk hs):∀ ks:List Nat,(bF hs ks).length<=7 * ks.length
 | []=>Ci _
 | k :: r=>by
   show (((hs.getD k none).getD []) ++ bF hs r).length<=_
   rw [Aj,Ay]
   have:=sJ ok k
   have:=fV ok r
   omega
def jT:Sp:=λvs H Q _=>∃ (a b:Addr) (us:List V) (hs:List (Option (List Nat))) (ks:List Nat),vs=[.ref a,.ref b]/\rdL H a=some us/\HalsAt H us hs/\HalOk hs/\rdL H b=some (ks.map λk=>V.int ((k:Nat):Int))/\ks.length<=7/\(∀ k∈ks,k < hs.length)/\
 ∀ (r:Addr) (H':Hp),H r=none->Same H H'->H' r=some (.lst (((bF hs ks).map one).map V.str))->Q (.ref r) H'
theorem sc_flags_on:FnScope ["halyards", "numbers", "flags", "number"] ["halyards", "numbers"] (aG eZ):=⟨rfl,rfl,rfl,by decide +kernel,rfl,by decide +kernel,by decide +kernel⟩
theorem yF {Zo Zz Zr Zx Zs Zp Zu Zw Zy Zt Zv Zq:Addr} {f:Addr} {fd:FuncData} (F:Fun K "flags_on" "flags_on" eZ f fd) (G:Gs K mg Zo Zz Zr Zx Zs Zp Zu Zw Zy Zt Zv Zq)  : FnOk P w K mg base CX0 1 f fd ["halyards", "numbers"] jT:=by
 refine F.ok sc_flags_on (λvs H Q E h=>?_) (λcdv A outer s H vs Q E hr h=>?_)
 · obtain ⟨a,b,us,hs,ks,rfl,_⟩:=h; rfl
 obtain ⟨a,b,us,hs,ks,rfl,ha,hat,ok,hb,h7,hk,q⟩:=h
 refine ⟨_,(@aF _ _ _ _ _ (@aP _ _ 2 _ _ _ _ sc_flags_on.nd (by rfl) (by exact (Or.inl rfl)) (bE aB) (by rfl) (by first | exact Or.inl rfl | exact Or.inr rfl)) (@aF _ _ _ _ _ (bP Ba rfl (bW (mv 1)) (aQ (i:=3) sc_flags_on.nd rfl (Or.inl rfl)) (@aI _ _ _ (cT (bC tK (bH cC (mv 0) (mv 3) (λ_ _=>rfl)) cV (bG _)) (@aI _ _ _ (cK (dD Bq Dr Ds vM (mv 2) (aA (bH cC (mv 0) (mv 3) (λ_ _=>rfl)) aB)))) bS))) (@aI _ _ _ (aV (mv 2))))),?_⟩
 walk_at "go"
 refine ⟨by decide,λp hp=>?_⟩
 have sp:=aE hp (.lst [])
 have hb1:=aH sp hb
 walk_at "go"
 refine cN (xs:=(ks.map λk=>V.int ((k:Nat):Int))) (λi σ H'=>∃ v,σ=[some (.ref a),some (.ref b),some (.ref p),v]/\Same H H'/\H' p=some (.lst (((bF hs (ks.take i)).map one).map V.str)))
   ⟨_,rfl,sp,aD⟩ (λi σ H' _ ⟨_,_,e,_⟩=>aH e hb) ?_ ?_
 · rintro i x σ H2 hx ⟨v,rfl,s2,e2⟩
   obtain ⟨k,hki,rfl⟩:=jZ hx
   have hkl:=hk k (Ak hki)
   obtain ⟨u,au,_,hv⟩:=(hat.keep s2).get hkl
   have r2:=aH s2 ha
   have ft:bF hs (ks.take (i + 1))=bF hs (ks.take i) ++ (hs.getD k none).getD []:=by
     rw [Az,hki,aJC]
     show _ ++ (_ ++ [])=_
     rw [Bu]
   walk_at "go"
   refine cL r2 au ?_
   walk_at "go"
   cases eh:hs.getD k none with
   | none=>
     rw [eh] at hv ft
     rw [show u=.non from hv,show decide (V.non=V.non)=true from rfl]
     walk_at "go"
     exact ⟨_,rfl,s2,by rw [ft]; show _=some (HO.lst (((_ ++ []).map one).map V.str)); rw [Bu]; exact e2⟩
   | some cs=>
     have h7c:=sJ ok k
     rw [eh] at hv ft h7c
     obtain ⟨pc,rfl,hpc⟩:=hv
     rw [show decide (V.ref pc=V.non)=false from Au (λz=>nomatch z)]
     have m2:=bI e2
     have rc:=aO hpc
     have l2:=fV ok (ks.take i)
     rw [Bo] at l2
     have hln:(((bF hs (ks.take i)).map one).map V.str).length + ((cs.map one).map V.str).length<=sizeLine:=bQ (by rw [Ab,Ab,Ab,Ab]; have:cs.length<=7:=h7c; omega)
     walk_at "go"
     refine cL r2 au ?_
     walk_at "go"
     refine ⟨_,rfl,aW hp s2,?_⟩
     rw [aD,ft,Al,Al]
     rfl
 · rintro σ H2 ⟨v,rfl,s2,e2⟩
   rw [Bh (by rw [Ab]; exact Ah _)] at e2
   walk_at "go"
   exact q p H2 hp s2 e2
theorem aQE {os:List Nat} {m:Nat} (h:os.length < m):cJ os m=[]:=by
 cases e:cJ os m with
 | nil=>rfl
 | cons l r=>
   have:=mem_combs.mp (show l∈cJ os m by rw [e]; exact Aq)
   have h2:=this.1.length_le
   omega
theorem qA:∀ os:List Nat,cJ os os.length=[os]
 | []=>fY []
 | k :: r=>by
   rw [Ay,iT,Ay,List.range_succ_eq_map,Eo]
   have h1:((cJ ((k :: r).drop (0 + 1)) r.length).map λl=>(k :: r).getD 0 0 :: l)=[k :: r]:=by
     show ((cJ r r.length).map λl=>k :: l)=_
     rw [qA r]
     rfl
   rw [h1,List.flatMap_map]
   have h2:((List.range r.length).flatMap λj=>(cJ ((k :: r).drop (j.succ + 1)) r.length).map λl=>(k :: r).getD j.succ 0 :: l)=[]:=by
     rw [List.flatMap_eq_nil_iff]
     intro j hj
     rw [aQE (by rw [Co,Ay]; have:=Cc.mp hj; omega)]
     rfl
   rw [h2]
   rfl
def cQ (os:List Nat):List (List Nat):=(List.range (os.length + 1)).flatMap λm=>cJ os m
def nO (os:List Nat) (i:Nat):List (List Nat):=(List.range i).flatMap λm=>cJ os m
theorem kX (os:List Nat) (i:Nat):nO os (i + 1)=nO os i ++ cJ os i:=by
 unfold nO
 rw [Cf,Dy]
 congr 1
 show cJ os i ++ []=_
 rw [Bu]
theorem mem_sets {os l:List Nat}:l∈cQ os ↔ l.Sublist os:=by
 unfold cQ
 rw [Gp]
 constructor
 · rintro ⟨m,_,h⟩
   exact (mem_combs.mp h).1
 · intro h
   exact ⟨l.length,Cc.mpr (Nat.lt_succ_of_le h.length_le),mem_combs.mpr ⟨h,rfl⟩⟩
theorem nA {os:List Nat}:∀ {i:Nat},os.length<=6->i<=6->(nO os i).length<=i * 6 ^ 5
 | 0,_,_=>Ci _
 | i + 1,h,hi=>by
   rw [kX,Aj,Nat.succ_mul]
   have h1:=nA (i:=i) h (by omega)
   have h2:(cJ os i).length<=6 ^ 5:=Bb (iG h) (Nat.pow_le_pow_right (by decide) (by omega))
   omega
def pG:Sp:=λvs H Q _=>∃ (b:Addr) (os:List Nat),vs=[.ref b]/\rdL H b=some (os.map λk=>V.int ((k:Nat):Int))/\os.length<=5/\
 ∀ (r:Addr) (ps:List Addr) (H':Hp),H r=none->Same H H'->H' r=some (.lst (ps.map V.ref))->Lsts H H' ps ((cQ os).map λl=>(l.map λk=>V.int ((k:Nat):Int)))->(∀ p∈ps,p≠r)->Q (.ref r) H'
theorem sc_sets_of:FnScope ["others", "sets", "many"] ["others"] (aG fU):=⟨rfl,rfl,rfl,by decide +kernel,rfl,by decide +kernel,by decide +kernel⟩
theorem zG {Zo Zz Zr Zx Zs Zp Zu Zw Zy Zt Zv Zq:Addr} {f:Addr} {fd:FuncData} (F:Fun K "sets_of" "sets_of" fU f fd) (G:Gs K mg Zo Zz Zr Zx Zs Zp Zu Zw Zy Zt Zv Zq) (c_rising_lists:Cal P w K mg base 9 "rising_lists" ["numbers", "many"] (cM 8)):FnOk P w K mg base CX0 10 f fd ["others"] pG:=by
 refine F.ok sc_sets_of (λvs H Q E h=>?_) (λcdv A outer s H vs Q E hr h=>?_)
 · obtain ⟨b,os,rfl,_⟩:=h; rfl
 obtain ⟨b,os,rfl,hb,h5,q⟩:=h
 refine ⟨_,(@aF _ _ _ _ _ (@aP _ _ 1 _ _ _ _ sc_sets_of.nd (by rfl) (by exact (Or.inl rfl)) (bE aB) (by rfl) (by first | exact Or.inl rfl | exact Or.inr rfl)) (@aF _ _ _ _ _ (bP Ba rfl (eY rfl G.b_range (aA (aT bZ (bA gQ rfl G.b_len dE (aA (mv 0) aB)) aJ) aB)) (aQ (i:=2) sc_sets_of.nd rfl (Or.inl rfl)) (@aI _ _ _ (cK (dD Bq Dr Ds vM (mv 1) (aA (aX c_rising_lists hr (by decide) rfl (aA (mv 0) (aA (mv 2) aB))) aB))))) (@aI _ _ _ (aV (mv 1))))),?_⟩
 have hbl:((os.map λk=>V.int ((k:Nat):Int))).length=os.length:=Ab ..
 walk_at "go"
 refine ⟨by decide,λp hp=>?_⟩
 have s1:=aE hp (.lst [])
 have e1:(upd H p (.lst [])) p=some (.lst (([]:List Addr).map V.ref)):=aD
 generalize upd H p (.lst [])=H1 at s1 e1 ⊢
 have hb1:=aH s1 hb
 walk_at "go"
 rw [hbl]
 refine ⟨⟨by omega,by omega⟩,?_⟩
 refine iA (λi σ H'=>∃ (ps:List Addr) (v:Option V),σ=[some (.ref b),some (.ref p),v]/\Same H H'/\H' p=some (.lst (ps.map V.ref))/\Lsts H H' ps ((nO os i).map λl=>(l.map λk=>V.int ((k:Nat):Int)))/\∀ z∈ps,z≠p)
   ⟨[],_,rfl,s1,e1,.nil,λz hz=>nomatch hz⟩ ?_ ?_
 · rintro i σ H2 hi ⟨ps,v,rfl,s2,e2,ls,nd⟩
   have hi6:i<=os.length:=by omega
   have hb2:=aH s2 hb
   have hps:ps.length=(nO os i).length:=by rw [ls.1,Ab]
   have hpl:=nA (os:=os) (i:=i) (by omega) (by omega)
   walk_at "go"
   rw [show (0:Int) + (i:Int)=((i:Nat):Int) by omega]
   refine ⟨b,os,i,rfl,hb2,by omega,by omega,by omega,λrb qs H5 hrb s5 e5 lq nq=>?_⟩
   have hqs:qs.length=(cJ os i).length:=by rw [lq.1,Ab]
   have hql:(cJ os i).length<=6 ^ 5:=Bb (iG (by omega)) (Nat.pow_le_pow_right (by decide) (by omega))
   have e25:=s5 _ _ e2
   have m5:=bI e25
   have r5:=aO e5
   have hln:(ps.map V.ref).length + (qs.map V.ref).length<=sizeLine:=bQ (by rw [Ab,Ab,hps,hqs]; omega)
   walk_at "go"
   have npq:∀ z∈qs,z≠p:=λz hz zp=>by
     obtain ⟨g,_,h1,_⟩:=lq.mem hz
     rw [zp,e2] at h1
     cases h1
   have nd2:∀ z∈ps ++ qs,z≠p:=λz hz=>(Bi.mp hz).elim (nd z) (npq z)
   refine ⟨ps ++ qs,_,rfl,aW hp (s2.trans s5),?_,?_,nd2⟩
   · rw [aD,Al]
   · rw [kX,Al]
     exact ((ls.keep s5).app (lq.older s2)).put nd2
 · rintro σ H2 ⟨ps,v,rfl,s2,e2,ls,nd⟩
   rw [show ((os.length:Int) + 1).toNat=os.length + 1 by omega] at ls
   walk_at "go"
   exact q p ps H2 hp s2 e2 ls nd
def bT (hs:List (Option (List Nat))) (cw ks:List Nat):List (List Nat):=cw :: ks.map λk=>rdC ((hs.getD k none).getD [])
theorem gH (ks:List Nat):((ks.map λk=>V.int ((k:Nat):Int))).length=ks.length:=Ab ..
def gX:Sp:=λvs H Q _=>∃ (a b:Addr) (us:List V) (hs:List (Option (List Nat))) (cw ks:List Nat),vs=[.ref a,.str (aZ cw),.ref b]/\rdL H a=some us/\HalsAt H us hs/\HalOk hs/\rdL H b=some (ks.map λk=>V.int ((k:Nat):Int))/\ks.length<=7/\(∀ k∈ks,k < hs.length/\(hs.getD k none).isSome=true)/\
 ∀ (r:Addr) (H':Hp),H r=none->Same H H'->H' r=some (.lst (((bT hs cw ks).map aZ).map V.str))->Q (.ref r) H'
theorem rD:FnScope ["halyards", "word", "lowered"] ["halyards", "word", "lowered"] (aG cW):=⟨rfl,rfl,rfl,by decide +kernel,rfl,by decide +kernel,by decide +kernel⟩
theorem rK {Zo Zz Zr Zx Zs Zp Zu Zw Zy Zt Zv Zq:Addr} {f:Addr} {fd:FuncData} (F:Fun K "words_with" "words_with" cW f fd) (G:Gs K mg Zo Zz Zr Zx Zs Zp Zu Zw Zy Zt Zv Zq) (c_read_of:oE P w K mg base 4 "read_of" ["flags"] (oY Zx)):FnOk P w K mg base CX0 5 f fd ["halyards", "word", "lowered"] gX:=by
 refine F.ok rD (λvs H Q E h=>?_) (λcdv A outer s H vs Q E hr h=>?_)
 · obtain ⟨a,b,us,hs,cw,ks,rfl,_⟩:=h; rfl
 obtain ⟨a,b,us,hs,cw,ks,rfl,ha,hat,ok,hb,h7,hk,q⟩:=h
 refine ⟨_,(@aI _ _ _ (aV (aT bZ (bE (aA (mv 1) aB)) (dC rfl (bW (mv 2)) (fZ (N:=["other", "halyards"]) ["halyards", "word", "lowered"] (aG cW) [none,some 0] rfl rfl rfl (λx h=>cA h) (by decide +kernel)) (by decide +kernel) rfl (by decide +kernel) (λC s₀ H₀ ex=>(aQ (i:=0) (show List.Nodup (["other", "halyards"]:List Str) by decide +kernel) rfl (Or.inl rfl))) (λC s₀ H₀ ex=>gS) (λC s₀ H₀ ex=>(kJ c_read_of sN hr (by decide) rfl (aA (bH cC (mv 1) (mv 0) (λ_ _=>rfl)) aB))))))),?_⟩
 walk_at "go"
 refine ⟨by show 1<=sizeLine; decide,λp hp=>?_⟩
 have s1:=aE hp (.lst [V.str (aZ cw)])
 have e1:(upd H p (.lst [V.str (aZ cw)])) p=some (.lst [V.str (aZ cw)]):=aD
 generalize upd H p (.lst [V.str (aZ cw)])=H1 at s1 e1 ⊢
 have hb1:=aH s1 hb
 have ha1:=aH s1 ha
 walk_at "go"
 refine pK (xs:=(ks.map λk=>V.int ((k:Nat):Int))) (λj=>(ks[j]?).map λk=>V.str (aZ (rdC ((hs.getD k none).getD [])))) hb1 (aY (by rw [gH]; omega)) (λj x Hc A B hx sm hA hB=>?_) (λD Hd hD sD hd=>?_)
 · obtain ⟨k,hki,rfl⟩:=jZ hx
   obtain ⟨hkl,hks⟩:=hk k (Ak hki)
   obtain ⟨u,au,_,hv⟩:=(hat.keep (s1.trans sm)).get hkl
   have hA2:=hA (V.str (aZ (rdC ((hs.getD k none).getD [])))) (by rw [hki]; rfl)
   have r2:=aH sm ha1
   cases eh:hs.getD k none with
   | none=>rw [eh] at hks; cases hks
   | some cs=>
     rw [eh] at hv hA2
     obtain ⟨pc,rfl,hpc⟩:=hv
     have hb:=ok cs (by
       rw [Ad,Aa hkl] at eh
       rw [<-show hs[k]=some cs from eh]
       exact Bw hkl)
     have h7c:=fF hb
     walk_at "go"
     refine ⟨Wk.set rfl (Wk.refl _),?_⟩
     walk_at "go"
     refine cL r2 au ?_
     walk_at "go"
     refine ⟨pc,cs.map one,rfl,aO hpc,by omega,bXO cs,λ_ H3 s3=>?_,λhf=>?_⟩
     · have e:bQY (cs.map one)=aZ (rdC cs):=by unfold bQY; rw [aJN]
       rw [e]
       exact hA2 _ s3
     · rw [hb] at hf; cases hf
 · rw [gH,qM,show ks.map (λk=>V.str (aZ (rdC ((hs.getD k none).getD []))))=((ks.map λk=>rdC ((hs.getD k none).getD [])).map aZ).map V.str by rw [Cw,Cw]; rfl] at hd
   refine lB (bI (sD _ _ e1)) (bI hd) (bQ (by rw [Ab,Ab,Ab]; show 1 + _<=_; omega)) λr hr=>?_
   exact q r _ (none_of (s1.trans sD) hr) (s1.trans (sD.trans (aE hr _))) aD
def mD (f:Nat->Option Int) (hs:List (Option (List Nat))) (L:List Nat):Nat->Option Int:=bO λc=>aL f c + cnt (bF hs L) c
def jH (f:Nat->Option Int) (hs:List (Option (List Nat))) (L:List Nat) (c:Nat):Int:=aL (bO (aL (mD f hs L))) c
def qB (f:Nat->Option Int) (hs:List (Option (List Nat))) (n:Nat) (cw ks:List Nat):Prop:=CanH (jH f hs (n :: ks)) (bT hs cw ks)
def PaperH (H:Hp) (f:Nat->Option Int) (hs:List (Option (List Nat))) (n:Nat) (cw ks:List Nat) (t:Addr):Prop:=∃ (c l1 l2:Addr) (rs:List Addr) (W:List Wt) (F:List Nat),H t=some (.tup [.ref c,.ref l1,.ref l2])/\H c=some (.lst (ks.map λk=>V.int ((k:Nat):Int)))/\H l1=some (.lst (rs.map V.ref))/\WtsAt H rs W/\H l2=some (.lst ((F.map one).map V.str))/\LackOk (bT hs cw ks) (jH f hs (n :: ks)) W F
theorem PaperH.keep {H H':Hp} {f:Nat->Option Int} {hs:List (Option (List Nat))} {n:Nat} {cw ks:List Nat} {t:Addr} (h:PaperH H f hs n cw ks t) (s:Same H H'):PaperH H' f hs n cw ks t:=by
 obtain ⟨c,l1,l2,rs,W,F,h1,h2,h3,h4,h5,h6⟩:=h
 exact ⟨c,l1,l2,rs,W,F,s _ _ h1,s _ _ h2,s _ _ h3,⟨h4.1,λj p w hp hw=>s _ _ (h4.2 j p w hp hw)⟩,s _ _ h5,h6⟩
theorem PaperH.put {H:Hp} {f:Nat->Option Int} {hs:List (Option (List Nat))} {n:Nat} {cw ks:List Nat} {t p:Addr} {o:HO} (h:PaperH H f hs n cw ks t) (h0:∀ c l1 l2,H t=some (.tup [.ref c,.ref l1,.ref l2])->c≠p/\l1≠p/\l2≠p) (hn:∀ xs,H p≠some (.tup xs)):PaperH (upd H p o) f hs n cw ks t:=by
 obtain ⟨c,l1,l2,rs,W,F,h1,h2,h3,h4,h5,h6⟩:=h
 obtain ⟨n1,n2,n3⟩:=h0 _ _ _ h1
 refine ⟨c,l1,l2,rs,W,F,?_,?_,?_,⟨h4.1,λj q w hq hw=>?_⟩,?_,h6⟩
 · rw [aK λz=>hn _ (by rw [<-z]; exact h1)]; exact h1
 · rw [aK n1]; exact h2
 · rw [aK n2]; exact h3
 · have e:=h4.2 j q w hq hw
   rw [aK λz=>hn _ (by rw [<-z]; exact e)]; exact e
 · rw [aK n3]; exact h5
def qE (f:Nat->Option Int) (hs:List (Option (List Nat))) (n:Nat) (cw ks:List Nat) (j:Nat):Prop:=(cQ (aM hs n))[j]?=some ks/\qB f hs n cw ks/\∀ (i:Nat) l,i < j->(cQ (aM hs n))[i]?=some l->¬ qB f hs n cw l
theorem cX9 {cs:List Nat} (hb:cF (cs.map one)=true):∀ d∈rdC cs,bK d:=by
 have h:∀ i,i<=cs.length->∀ d∈rdC (cs.take i),bK d:=λi=>by
   induction i with
   | zero=>intro _ d hd; rw [Ee] at hd; cases hd
   | succ i ih=>
     intro hi d hd
     have hci:cs[i]?=some cs[i]:=Aa (by omega)
     have hrl:(rdC (cs.take i)).length=i:=iW (by omega)
     rw [mH hci] at hd
     obtain ⟨c,e1,e2,e3⟩:=lI hb (i:=i) (z:=one cs[i]) (by rw [Ag,hci]; rfl)
     have ec:cs[i]=c:=one_inj.mp e1
     rcases Bi.mp hd with e | e
     · exact ih (by omega) d e
     · rw [Aw.mp e,ec]
       unfold stp
       rcases e3 with l | ⟨sb,lt⟩
       · rw [if_neg (gN l)]; exact l
       · rw [if_pos sb,Ad,Aa (by omega)]
         exact ih (by omega) _ (Bw _)
 have r:=h cs.length (Ah _)
 rwa [Bp] at r
theorem wF {xs:List Addr} {u:Addr} (h:xs[xs.length - 1]?=some u):atI (xs.map V.ref) (-1)=some (.ref u):=by
 have hl:0 < xs.length:=by have:=(Ae.mp h).1; omega
 unfold atI
 rw [show ixN (xs.map V.ref).length (-1)=some (xs.length - 1) by
   rw [Ab]
   unfold ixN
   rw [if_neg (by omega),if_pos (by omega)]
   exact Df some (by omega)]
 show (xs.map V.ref)[xs.length - 1]?=_
 rw [Ag,h]
 rfl
theorem bQG (os:List Nat):∃ A,cQ os=A ++ [os]:=by
 refine ⟨nO os os.length,?_⟩
 show nO os (os.length + 1)=_
 rw [kX]
 congr 1
 exact qA os
def PapOk (H:Hp) (f:Nat->Option Int) (hs:List (Option (List Nat))) (n:Nat) (cw:List Nat) (p:Addr) (l:List Nat) (u:Addr):Prop:=PaperH H f hs n cw l u/\∀ c l1 l2,H u=some (.tup [.ref c,.ref l1,.ref l2])->c≠p/\l1≠p/\l2≠p
theorem PapOk.keep {H H':Hp} {f:Nat->Option Int} {hs:List (Option (List Nat))} {n:Nat} {cw:List Nat} {p:Addr} {l:List Nat} {u:Addr} (h:PapOk H f hs n cw p l u) (s:Same H H'):PapOk H' f hs n cw p l u:=by
 refine ⟨h.1.keep s,λc l1 l2 e=>?_⟩
 obtain ⟨c0,k1,k2,_,_,_,h1,_⟩:=h.1
 have:=s _ _ h1
 rw [this] at e
 cases e
 exact h.2 _ _ _ h1
theorem PapOk.put {H:Hp} {f:Nat->Option Int} {hs:List (Option (List Nat))} {n:Nat} {cw:List Nat} {p:Addr} {l:List Nat} {u:Addr} {xs ys:List V} (h:PapOk H f hs n cw p l u) (hp:H p=some (.lst xs)):PapOk (upd H p (.lst ys)) f hs n cw p l u:=by
 have hn:∀ zs,H p≠some (.tup zs):=λzs z=>by rw [hp] at z; cases z
 refine ⟨h.1.put h.2 hn,λc l1 l2 e=>?_⟩
 obtain ⟨c0,k1,k2,_,_,_,h1,_⟩:=h.1
 rw [aK λz=>hn _ (by rw [<-z]; exact h1)] at e
 exact h.2 _ _ _ e
theorem kC {hs:List (Option (List Nat))} {cw ks:List Nat} (ok:HalOk hs) (hc:cw.length<=7/\∀ d∈cw,bK d) (hk:∀ k∈ks,k < hs.length/\(hs.getD k none).isSome=true):∀ c∈bT hs cw ks,c.length<=7/\∀ d∈c,bK d:=λc hcm=>by
 rcases Bc.mp hcm with e | e
 · rw [e]; exact hc
 · obtain ⟨k,hkm,rfl⟩:=Bg.mp e
   obtain ⟨hkl,hks⟩:=hk k hkm
   cases eh:hs.getD k none with
   | none=>rw [eh] at hks; cases hks
   | some cs=>
     have hb:=ok cs (by
       rw [Ad,Aa hkl] at eh
       rw [<-show hs[k]=some cs from eh]
       exact Bw hkl)
     have h7c:=fF hb
     rw [Ab] at h7c
     refine ⟨by show (rdC cs).length<=7; rw [tL]; exact h7c.2,?_⟩
     exact cX9 hb
def iP (aC:Addr):Sp:=λvs H Q E=>∃ (a b:Addr) (kvs:List (Key × V)) (f:Nat->Option Int) (us:List V) (hs:List (Option (List Nat))) (n:Nat) (cw:List Nat),vs=[.ref a,.ref b,.int ((n:Nat):Int),.str (aZ cw)]/\H a=some (.dK kvs)/\Lk kvs f/\(∀ c,0<=aL f c)/\rdL H b=some us/\HalsAt H us hs/\HalOk hs/\hs.length<=6/\n < hs.length/\cw.length<=7/\(∀ d∈cw,bK d)/\
 (∀ (t L p:Addr) (ts:List Addr) (ks:List Nat) (j:Nat) (H':Hp),Same H H'->H t=none->H' t=some (.tup [.ref L,.ref p])->H L=none->H' L=some (.lst (ks.map λk=>V.int ((k:Nat):Int)))->qE f hs n cw ks j->H p=none->H' p=some (.lst (ts.map V.ref))->ts.length=j->(∀ (i:Nat) u l,ts[i]?=some u->(cQ (aM hs n))[i]?=some l->PaperH H' f hs n cw l u)->Q (.ref t) H')/\
 ((∀ l,l.Sublist (aM hs n)->¬ qB f hs n cw l)->∀ (dx l1 l2:Addr) (rs:List Addr) (W:List Wt) (F:List Nat) (H':Hp),Same H H'->H' dx=some (xdO dx [("flags",.ref l2),("wants",.ref l1)])->H' l1=some (.lst (rs.map V.ref))->WtsAt H' rs W->H' l2=some (.lst ((F.map one).map V.str))->LackOk (bT hs cw (aM hs n)) (jH f hs (n :: aM hs n)) W F->H l1=none->H l2=none->E (.ref aC) (some dx) H')
theorem sc_least_set:FnScope ["locker", "halyards", "number", "word", "papers", "lowered", "more", "lack"] ["locker", "halyards", "number", "word"] (aG eF):=⟨rfl,rfl,rfl,by decide +kernel,rfl,by decide +kernel,by decide +kernel⟩
theorem tE {Zo Zz Zr Zx Zs Zp Zu Zw Zy Zt Zv Zq:Addr} {f:Addr} {fd:FuncData} (F:Fun K "least_set" "least_set" eF f fd) (G:Gs K mg Zo Zz Zr Zx Zs Zp Zu Zw Zy Zt Zv Zq) (c_sets_of:Cal P w K mg base 10 "sets_of" ["others"] pG) (c_Lack_init:aQA P w K mg base 1 Zo ["self", "wants", "flags"] (fP Zo)) (c_others_hung:Cal P w K mg base 1 "others_hung" ["halyards", "number"] jC) (c_put_in:Cal P w K mg base 2 "put_in" ["locker", "flags"] mQ) (c_lack_of:Cal P w K mg base 4 "lack_of" ["locker", "words"] pQ) (c_flags_on:Cal P w K mg base 1 "flags_on" ["halyards", "numbers"] jT) (c_words_with:Cal P w K mg base 5 "words_with" ["halyards", "word", "lowered"] gX):FnOk P w K mg base (CXr P w) 11 f fd ["locker", "halyards", "number", "word"] (iP Zo):=by
 refine F.okX sc_least_set (λvs H Q E h=>?_) (λcdv A outer s H vs Q E hr h=>?_)
 · obtain ⟨a,b,kvs,f,us,hs,n,cw,rfl,_⟩:=h; rfl
 obtain ⟨a,b,kvs,f,us,hs,n,cw,rfl,ha,lk,hf0,hb,hat,ok,h6,hn,hc7,hcL,q,qe⟩:=h
 refine ⟨_,(@aF _ _ _ _ _ (@aP _ _ 4 _ _ _ _ sc_least_set.nd (by rfl) (by exact (Or.inl rfl)) (bE aB) (by rfl) (by first | exact Or.inl rfl | exact Or.inr rfl)) (@aF _ _ _ _ _ (PS.nox (bP Ba rfl (bW (aX c_sets_of hr (by decide) rfl (aA (aX c_others_hung hr (by decide) rfl (aA (mv 1) (aA (mv 2) aB))) aB))) (aQ (i:=5) sc_least_set.nd rfl (Or.inl rfl)) (@aF _ _ _ _ _ (@aP _ _ 6 _ _ _ _ sc_least_set.nd (by rfl) (by exact (Or.inl rfl)) (aX c_put_in hr (by decide) rfl (aA (mv 0) (aA (aX c_flags_on hr (by decide) rfl (aA (mv 1) (aA (aT bZ (bE (aA (mv 2) aB)) (mv 5)) aB))) aB))) (by rfl) (by first | exact Or.inl rfl | exact Or.inr rfl)) (@aF _ _ _ _ _ (@aP _ _ 7 _ _ _ _ sc_least_set.nd (by rfl) (by exact (Or.inl rfl)) (aX c_lack_of hr (by decide) rfl (aA (mv 6) (aA (aX c_words_with hr (by decide) rfl (aA (mv 1) (aA (mv 3) (aA (mv 5) aB)))) aB))) (by rfl) (by first | exact Or.inl rfl | exact Or.inr rfl)) (@aF _ _ _ _ _ (cT (bC bZ3 (mv 7) cV (bG _)) (@aI _ _ _ (aV (jN (aA (mv 5) (aA (mv 4) aB))))) bS) (@aI _ _ _ (cK (dD Bq Cp Cq qN (mv 4) (aA (jN (aA (mv 5) (aA (bH cC (mv 7) aJ (λ_ _=>rfl)) (aA (bH cC (mv 7) aJ (λ_ _=>rfl)) aB)))) aB))))))))) (@aI _ _ _ (mV oK rfl rfl rfl G.c_Lack G.xm_Lack c_Lack_init hr (by decide) (aA (bH cC (bH cC (mv 4) (cZ6 cJB aJ) (λ_ _=>rfl)) aJ (λ_ _=>rfl)) (aA (bH cC (bH cC (mv 4) (cZ6 cJB aJ) (λ_ _=>rfl)) aJ (λ_ _=>rfl)) aB)))))),?_⟩
 have hol:=lO hn
 walk_at "go"
 refine ⟨by decide,λp hp=>?_⟩
 have s1:=aE hp (.lst [])
 have e1:(upd H p (.lst [])) p=some (.lst (([]:List Addr).map V.ref)):=aD
 generalize upd H p (.lst [])=H1 at s1 e1 ⊢
 walk_at "go"
 refine ⟨b,us,hs,n,rfl,aH s1 hb,hat.keep s1,by omega,λro H2 hro s2 eo=>?_⟩
 walk_at "go"
 refine ⟨ro,aM hs n,rfl,aO eo,by omega,λrS ps H3 hrS s3 eS ls nd=>?_⟩
 have s13:=s2.trans s3
 walk_at "go"
 have hps:ps.length=(cQ (aM hs n)).length:=by rw [ls.1,Ab]
 have hpl:(ps.map V.ref).length=(cQ (aM hs n)).length:=by rw [Ab,hps]
 have hsl:(cQ (aM hs n)).length<=6 * 6 ^ 5:=Bb (nA (i:=(aM hs n).length + 1) (by omega) (by omega)) (Nat.mul_le_mul_right _ (by omega))
 have e13:=s13 _ _ e1
 have s03:=s1.trans s13
 have lat:∀ (j:Nat) c l,ps[j]?=some c->(cQ (aM hs n))[j]?=some l->H3 c=some (.lst (l.map λk=>V.int ((k:Nat):Int)))/\c≠p/\H c=none:=λj c l hc hl=>by
   obtain ⟨h1,h2⟩:=ls.2 j c (l.map λk=>V.int ((k:Nat):Int)) hc (by rw [Ag,hl]; rfl)
   exact ⟨h2,(λz=>by rw [z,s2 _ _ e1] at h1; cases h1),none_of (s1.trans s2) h1⟩
 have npS:rS≠p:=λz=>by rw [z,s2 _ _ e1] at hrS; cases hrS
 have hsub:∀ (j:Nat) l,(cQ (aM hs n))[j]?=some l->l.Sublist (aM hs n):=λj l h=>mem_sets.mp (Ak h)
 refine cN (xs:=ps.map V.ref) (λi σ H'=>∃ (ts:List Addr) (v5 v6 v7:Option V),σ=[some (.ref a),some (.ref b),some (.int ((n:Nat):Int)),some (.str (aZ cw)),some (.ref p),v5,v6,v7]/\Same H H'/\(∀ z u,z≠p->H3 z=some u->H' z=some u)/\H' p=some (.lst (ts.map V.ref))/\ts.length=i/\
     (∀ (j:Nat) u l,ts[j]?=some u->(cQ (aM hs n))[j]?=some l->PapOk H' f hs n cw p l u)/\∀ (j:Nat) l,j < i->(cQ (aM hs n))[j]?=some l->¬ qB f hs n cw l)
   ⟨[],_,_,_,rfl,s03,λz u _ h=>h,e13,rfl,λj u l hu=>(nomatch hu),λj l hj=>absurd hj (Fy _)⟩ (λi σ H' _ ⟨_,_,_,_,_,_,fr,_⟩=>aO (fr _ _ npS eS)) ?_ ?_
 · rintro i x σ H4 hx ⟨ts,v5,v6,v7,rfl,s4,fr4,e4,htl,hpap,hno⟩
   have hi:i < (cQ (aM hs n)).length:=by rw [<-hpl]; exact (Ae.mp hx).1
   obtain ⟨l,hl⟩:∃ l,(cQ (aM hs n))[i]?=some l:=⟨_,Aa hi⟩
   obtain ⟨c,hc,rfl⟩:=yR hx
   obtain ⟨lc3,ncp,hcn⟩:=lat i c l hc hl
   have lc:=fr4 _ _ ncp lc3
   have hlk:∀ k∈l,k < hs.length/\(hs.getD k none).isSome=true:=λk hk=>by
     have:=iJ ((hsub i l hl).subset hk)
     exact ⟨this.1,this.2.1⟩
   have hll:l.length<=5:=by have:=(hsub i l hl).length_le; omega
   have hb4:=aH s4 hb
   have hat4:=hat.keep s4
   walk_at "go"
   refine ⟨by show 1<=sizeLine; decide,λp5 hp5=>?_⟩
   have s5:=aE hp5 (.lst [V.int ((n:Nat):Int)])
   have e5:(upd H4 p5 (.lst [V.int ((n:Nat):Int)])) p5=some (.lst [V.int ((n:Nat):Int)]):=aD
   generalize upd H4 p5 (.lst [V.int ((n:Nat):Int)])=H5 at s5 e5 ⊢
   walk_at "go"
   refine lB (bI e5) (bI (s5 _ _ lc)) (bQ (by rw [gH]; show 1 + _<=_; omega)) λp6 hp6=>?_
   have s6:=aE hp6 (.lst ((n :: l).map λk=>V.int ((k:Nat):Int)))
   have e6:rdL (upd H5 p6 (.lst ((n :: l).map λk=>V.int ((k:Nat):Int)))) p6=some ((n :: l).map λk=>V.int ((k:Nat):Int)):=bV
   change wA _ (upd H5 p6 (.lst ((n :: l).map λk=>V.int ((k:Nat):Int)))) _
   generalize upd H5 p6 (.lst ((n :: l).map λk=>V.int ((k:Nat):Int)))=H6 at s6 e6 ⊢
   have s46:=s5.trans s6
   walk_at "go"
   refine ⟨b,p6,us,hs,n :: l,rfl,aH s46 hb4,hat4.keep s46,ok,e6,by show l.length + 1<=7; omega,λk hk=>by rcases Bc.mp hk with e | e; (· rw [e]; exact hn); (· exact (hlk k e).1),λr7 H7 hr7 s7 e7=>?_⟩
   have s47:=s46.trans s7
   have fl7:=fV ok (n :: l)
   walk_at "go"
   refine ⟨a,r7,kvs,f,bF hs (n :: l),rfl,s47 _ _ (s4 _ _ ha),lk,hf0,aO e7,by rw [Ay] at fl7; omega,λr8 kws H8 hr8 s8 e8 lk8=>?_⟩
   have s48:=s47.trans s8
   walk_at "go"
   refine ⟨b,c,us,hs,cw,l,rfl,aH s48 hb4,hat4.keep s48,ok,aO (s48 _ _ lc),by omega,hlk,λr9 H9 hr9 s9 e9=>?_⟩
   have s49:=s48.trans s9
   walk_at "go"
   refine ⟨r8,r9,kws,mD f hs (n :: l),bT hs cw l,rfl,.inl (s9 _ _ e8),lk8,aO e9,by unfold bT; rw [Ay,Ab]; omega,kC ok ⟨hc7,hcL⟩ hlk,λhcan H10 s10=>?_,λt0 l1 l2 rs W F H10 s10 ht0 e10 el1 hwt el2 hlo hn1 hn2=>?_⟩
   · have s410:=s49.trans s10
     walk_at "go"
     rw [show decide (V.non=V.non)=true from rfl]
     walk_at "go"
     refine ⟨by show 2<=sizeLine; decide,λt ht=>?_⟩
     have s11:=s410.trans (aE ht (.tup [.ref c,.ref p]))
     exact q t c p ts l i _ (s4.trans s11) (none_of (s4.trans s410) ht) aD hcn (s11 _ _ lc) ⟨hl,hcan,hno⟩ hp (s11 _ _ e4) htl λj u l' hu hl'=>((hpap j u l' hu hl').1.keep s11)
   · have s410:=s49.trans s10
     have n1:l1≠p:=λz=>by rw [z,s49 _ _ e4] at hn1; cases hn1
     have n2:l2≠p:=λz=>by rw [z,s49 _ _ e4] at hn2; cases hn2
     have m10:=bI (s410 _ _ e4)
     have r10:=aO (s410 _ _ e4)
     have hln:(ts.map V.ref).length < sizeLine:=aY (by rw [Ab,htl]; omega)
     walk_at "go"
     rw [show decide (V.ref t0=V.non)=false from Au (λz=>nomatch z)]
     walk_at "go"
     refine lX e10 (v:=.ref l1) rfl ?_
     walk_at "go"
     refine lX e10 (v:=.ref l2) rfl ?_
     walk_at "go"
     refine ⟨by show 3<=sizeLine; decide,λtp htp=>?_⟩
     have s11:=aE htp (.tup [.ref c,.ref l1,.ref l2])
     have e11:(upd H10 tp (.tup [.ref c,.ref l1,.ref l2])) tp=some (.tup [.ref c,.ref l1,.ref l2]):=aD
     generalize upd H10 tp (.tup [.ref c,.ref l1,.ref l2])=H11 at s11 e11 ⊢
     have s411:=s410.trans s11
     have ep:=s411 _ _ e4
     have m11:=bI ep
     walk_at "go"
     have pnew:PapOk H11 f hs n cw p l tp:=⟨⟨c,l1,l2,rs,W,F,e11,s411 _ _ lc,s11 _ _ el1,⟨hwt.1,λj q w hq hw=>s11 _ _ (hwt.2 j q w hq hw)⟩,s11 _ _ el2,hlo⟩,λc' k1 k2 e=>by rw [e11] at e; cases e; exact ⟨ncp,n1,n2⟩⟩
     refine ⟨ts ++ [tp],_,_,_,rfl,aW hp (s4.trans s411),λz u hz h=>by rw [aK hz]; exact s411 _ _ (fr4 z u hz h),by rw [aD,Al]; rfl,by rw [Aj,htl]; rfl,λj u l' hu hl'=>?_,λj l' hj hl'=>?_⟩
     · by_cases hjl:j < ts.length
       · rw [As hjl] at hu
         exact ((hpap j u l' hu hl').keep s411).put ep
       · have ej:j=ts.length:=by
           have:=(Ae.mp hu).1
           rw [Aj] at this
           have:j < ts.length + 1:=this
           omega
         rw [ej,Ax (Ah _),Fq] at hu
         cases hu
         rw [ej,htl,hl] at hl'
         cases hl'
         exact pnew.put ep
     · by_cases ej:j=i
       · rw [ej,hl] at hl'
         cases hl'
         exact vX hlo
       · exact hno j l' (by omega) hl'
 · rintro σ H4 ⟨ts,v5,v6,v7,rfl,s4,fr4,e4,htl,hpap,hno⟩
   rw [hpl] at htl hno
   obtain ⟨A0,hA0⟩:=bQG (aM hs n)
   have hlen:(cQ (aM hs n)).length=A0.length + 1:=by rw [hA0,Aj]; rfl
   have hlast:(cQ (aM hs n))[ts.length - 1]?=some (aM hs n):=by
     rw [htl,hlen,hA0,Nat.add_sub_cancel,Ax (Ah _),Fq]
     rfl
   have hu:ts[ts.length - 1]?=some (ts[ts.length - 1]'(by omega)):=Aa (by omega)
   have hpp:=hpap _ _ _ hu hlast
   have au:=wF hu
   generalize ts[ts.length - 1]'(by omega)=u at hpp au
   obtain ⟨⟨c,l1,l2,rs,W,F,h1,h2,h3,h4,h5,h6⟩,_⟩:=hpp
   have r4:=aO e4
   walk_at "go"
   refine cL r4 au ?_
   walk_at "go"
   refine lX h1 (v:=.ref l1) rfl ?_
   walk_at "go"
   refine cL r4 au ?_
   walk_at "go"
   refine lX h1 (v:=.ref l2) rfl ?_
   walk_at "go"
   refine ⟨by show 2<=sizeLine; decide,λea hea=>⟨ea,l1,l2,_,_,rfl,aD,aH (aE hea _) (aO h3),aH (aE hea _) (aO h5),λdx k1 k2 H' frx hdx nde g1 g2 g3 g4 hk1 hk2=>⟨rfl,some dx,g1,?_⟩⟩⟩
   have n1:k1≠ea:=λz=>by rw [z,g1] at g3; cases g3
   have n2:k2≠ea:=λz=>by rw [z,g1] at g4; cases g4
   have go9:∀ b u,H4 b=some u->(del H' ea) b=some u:=λb u hu=>by
     have nb:b≠ea:=λz=>by rw [z,hea] at hu; cases hu
     rw [dO nb]
     exact frx b u nb (by rw [aK nb]; exact hu)
   refine qe (λl hl=>?_) dx k1 k2 rs W F (del H' ea) (λb u hu=>go9 _ _ (s4 _ _ hu)) ((dO nde).trans g2) ((dO n1).trans g3) ⟨h4.1,λj q w hq hw=>go9 _ _ (h4.2 j q w hq hw)⟩ ((dO n2).trans g4) h6 (none_of s4 (by rw [aK n1] at hk1; exact hk1)) (none_of s4 (by rw [aK n2] at hk2; exact hk2))
   obtain ⟨j,hj,ej⟩:=Ca.mp (mem_sets.mpr hl)
   exact hno j l hj (by rw [Aa hj,ej])
theorem xC:∀ {cws:List (List Nat)} {fs:List Nat} {i:Nat} {cw:List Nat},cws[i]?=some cw->(mS cws fs)[i]?=some ((fs.drop (fN cws i)).take cw.length)
 | [],_,i,_,h=>by cases h
 | c :: r,fs,0,cw,h=>by cases h; rfl
 | c :: r,fs,i + 1,cw,h=>by
   show (mS r (fs.drop c.length))[i]?=_
   rw [xC (show r[i]?=some cw from h),List.drop_drop]
   rfl
theorem aXB (cs:List Nat) (c:Nat):cnt cs c=(ctn cs c:Int):=by
 unfold cnt ctn
 refine Df (λn:Nat=>(n:Int)) (List.countP_congr λx _=>?_)
 simp
theorem pY {α:Type} {p:List α->Prop} (h0:p []) (h1:∀ l a,p l->p (l ++ [a])):∀ l,p l:=λl=>by
 have h:∀ r:List α,p r.reverse:=λr=>by
   induction r with
   | nil=>exact h0
   | cons a r ih=>rw [List.reverse_cons]; exact h1 _ _ ih
 have:=h l.reverse
 rwa [List.reverse_reverse] at this
def nK (hs:List (Option (List Nat))) (zs:List (Nat × List Nat)):List (Option (List Nat)):=zs.foldl (λh z=>h.set z.1 (some z.2)) hs
theorem kL (hs:List (Option (List Nat))) (zs:List (Nat × List Nat)) (z:Nat × List Nat):nK hs (zs ++ [z])=(nK hs zs).set z.1 (some z.2):=by
 unfold nK
 rw [Gj]
 rfl
theorem qO (hs:List (Option (List Nat))):∀ zs:List (Nat × List Nat),(nK hs zs).length=hs.length:=λzs=>by
 refine pY (p:=λzs=>(nK hs zs).length=hs.length) rfl (λzs z ih=>?_) zs
 rw [kL,Eh,ih]
theorem cZE (hs:List (Option (List Nat))):∀ (zs:List (Nat × List Nat)),(zs.map (·.1)).Nodup->(∀ z∈zs,z.1 < hs.length)->∀ z∈zs,(nK hs zs).getD z.1 none=some z.2:=λzs=>by
 refine pY (p:=λzs=>(zs.map (·.1)).Nodup->(∀ z∈zs,z.1 < hs.length)->∀ z∈zs,(nK hs zs).getD z.1 none=some z.2) (λ_ _ z hz=>nomatch hz) (λzs y ih=>?_) zs
 · intro nd hl z hz
   rw [Al,Ar,Gv] at nd
   rw [kL]
   rcases Bi.mp hz with e | e
   · have ne:y.1≠z.1:=λq=>(Dk.mp nd).2.2 z.1 (List.mem_map_of_mem e) y.1 Aq q.symm
     rw [Ad,Dt ne,<-Ad]
     exact ih (Dk.mp nd).1 (λw hw=>hl w (Cm _ hw)) z e
   · rw [Aw.mp e,Ad,Dj (by rw [qO]; exact hl y (Bk _ Aq))]
     rfl
theorem cQY {hs:List (Option (List Nat))} (ok:HalOk hs):∀ zs:List (Nat × List Nat),(∀ z∈zs,cF (z.2.map one)=true)->HalOk (nK hs zs):=λzs=>by
 refine pY (p:=λzs=>(∀ z∈zs,cF (z.2.map one)=true)->HalOk (nK hs zs)) (λ_=>ok) (λzs z ih=>?_) zs
 intro h cs hcs
 rw [kL] at hcs
 rcases List.mem_or_eq_of_mem_set hcs with e | e
 · exact ih (λy hy=>h y (Cm _ hy)) cs e
 · cases e
   exact h z (Bk _ Aq)
theorem wH {hs:List (Option (List Nat))}:∀ {L:List Nat} {gs:List (List Nat)},L.length=gs.length->(∀ z∈L.zip gs,hs.getD z.1 none=some z.2)->bF hs L=gs.flatten
 | [],[],_,_=>rfl
 | k :: L,g :: gs,hl,h=>by
   show ((hs.getD k none).getD []) ++ bF hs L=g ++ gs.flatten
   rw [show hs.getD k none=some g from h (k,g) List.mem_cons_self,wH (by simpa using hl) λz hz=>h z (List.mem_cons_of_mem _ hz)]
   rfl
 | [],_ :: _,hl,_=>by cases hl
 | _ :: _,[],hl,_=>by cases hl
theorem HalsAt.set {H:Hp} {vs:List V} {hs:List (Option (List Nat))} {k:Nat} {v:V} {h:Option (List Nat)} (a:HalsAt H vs hs) (b:HalV H v h):HalsAt H (vs.set k v) (hs.set k h):=by
 refine ⟨by rw [Eh,Eh,a.len],λj u g hu hg=>?_⟩
 by_cases e:k=j
 · subst e
   have h1:=(Ae.mp hu).1
   have h2:=(Ae.mp hg).1
   rw [Eh] at h1 h2
   rw [Dj h1] at hu
   rw [Dj h2] at hg
   cases hu
   cases hg
   exact b
 · rw [Dt e] at hu hg
   exact a.val j u g hu hg
theorem aQG {H H':Hp} {p D:Addr} {xs:List V} (h:rdL H p=some xs) (n:p≠D) (fr:∀ z u,z≠D->H z=some u->H' z=some u):rdL H' p=some xs:=by
 refine aH (H:=λz=>if z=p then H z else none) (λz u e=>?_) ?_
 · dsimp only at e
   by_cases zp:z=p
   · rw [if_pos zp] at e; rw [zp] at e ⊢; exact fr p u n e
   · rw [if_neg zp] at e; cases e
 · unfold rdL at h ⊢
   dsimp only
   rw [if_pos rfl]
   exact h
theorem bX0 {α β:Type} {L:List α} {M:List β} {i:Nat} {a:α} {b:β} (h1:L[i]?=some a) (h2:M[i]?=some b):(L.zip M).take (i + 1)=(L.zip M).take i ++ [(a,b)]:=by
 rw [Az]
 congr 1
 have:(L.zip M)[i]?=some (a,b):=by rw [List.getElem?_zip_eq_some]; exact ⟨h1,h2⟩
 rw [this]
 rfl
theorem dJT {cw:List Nat} {k c:Nat} (hL:∀ d∈cw,bK d) (hk:k < cw.length) (h:c∈chs cw k):lE c:=by
 rcases ch_iff.mp h with e | ⟨m,_,h4,_,e⟩
 · left
   rw [e,Ad,Aa hk]
   exact hL _ (Bw hk)
 · right
   rw [e]
   unfold dF
   omega
theorem cZO:∀ {cws gs:List (List Nat)},Hgs cws gs->(∀ c∈cws,1<=c.length/\c.length<=7/\∀ d∈c,bK d)->(∀ g∈gs,cF (g.map one)=true/\∀ c∈g,lE c)
 | _,_,.nil,_,g,hg=>nomatch hg
 | _,_,.cons (cw:=cw) (h:=h) a b,hW,g,hg=>by
   rcases Bc.mp hg with e | e
   · rw [e]
     obtain ⟨h1,h7,hL⟩:=hW cw Aq
     refine ⟨wZ hL (by rw [a.1]; exact h1) (by rw [a.1]; exact h7) (by rw [a.1]; exact Ah _) λk hk=>?_,λc hc=>?_⟩
     · exact a.2 k _ (by rw [Ad,Aa hk]; rfl)
     · obtain ⟨k,hk,ek⟩:=Ca.mp hc
       exact dJT hL (by rw [<-a.1]; exact hk) (a.2 k c (by rw [Aa hk,ek]))
   · exact cZO b (λc hc=>hW c (An _ hc)) g e
theorem Hgs.lens:∀ {cws gs:List (List Nat)},Hgs cws gs->gs.length=cws.length
 | _,_,.nil=>rfl
 | _,_,.cons _ b=>by rw [Ay,Ay,b.lens]
theorem nR (f:Nat->Option Int) (hs:List (Option (List Nat))) (L:List Nat) (c:Nat):0<=aL (mD f hs L) c:=by
 show 0<=(bO _ c).getD 0
 unfold bO
 split
 · rename_i h; exact Int.le_of_lt h.2
 · exact Fn _
theorem aJE (hs:List (Option (List Nat))) (n:Nat):(aM hs n).Nodup:=List.Nodup.sublist Eu List.nodup_range
theorem aZS {hs:List (Option (List Nat))} {n:Nat} {ks:List Nat} (h:ks.Sublist (aM hs n)):(n :: ks).Nodup:=By.mpr ⟨λz=>(iJ (h.subset z)).2.2 rfl,(aJE hs n).sublist h⟩
theorem zH {hs:List (Option (List Nat))} {cw ks:List Nat} (ok:HalOk hs) (h1:1<=cw.length) (hc:cw.length<=7/\∀ d∈cw,bK d) (hk:∀ k∈ks,k < hs.length/\(hs.getD k none).isSome=true):∀ c∈bT hs cw ks,1<=c.length/\c.length<=7/\∀ d∈c,bK d:=λc hcm=>by
 refine ⟨?_,kC ok hc hk c hcm⟩
 rcases Bc.mp hcm with e | e
 · rw [e]; exact h1
 · obtain ⟨k,hkm,rfl⟩:=Bg.mp e
   obtain ⟨hkl,hks⟩:=hk k hkm
   cases eh:hs.getD k none with
   | none=>rw [eh] at hks; cases hks
   | some cs=>
     have hb:=ok cs (by
       rw [Ad,Aa hkl] at eh
       rw [<-show hs[k]=some cs from eh]
       exact Bw hkl)
     have h7c:=fF hb
     rw [Ab] at h7c
     show 1<=(rdC cs).length
     rw [tL]
     exact h7c.1
def iR (H:Hp) (a b:Addr) (kvs:List (Key × V)) (f:Nat->Option Int) (us:List V) (hs:List (Option (List Nat))) (n:Nat) (cw:List Nat):Prop:=H a=some (.dK kvs)/\Lk kvs f/\(∀ c,0<=aL f c)/\rdL H b=some us/\HalsAt H us hs/\HalOk hs/\hs.length<=6/\n < hs.length/\1<=cw.length/\cw.length<=7/\(∀ d∈cw,bK d)
def nJ (aC:Addr):Sp:=λvs H Q E=>∃ (a b:Addr) (kvs:List (Key × V)) (f:Nat->Option Int) (us:List V) (hs:List (Option (List Nat))) (n:Nat) (cw:List Nat),vs=[.ref a,.ref b,.int ((n:Nat):Int),.str (aZ cw)]/\iR H a b kvs f us hs n cw/\
 (∀ (t L B R:Addr) (ks:List Nat) (gs:List (List Nat)) (j:Nat) (vs':List V) (kws:List (Key × V)) (H':Hp),Same H H'->H t=none->H' t=some (.tup [.ref L,.ref B,.ref R])->H L=none->H' L=some (.lst (ks.map λk=>V.int ((k:Nat):Int)))->qE f hs n cw ks j->Hgs (bT hs cw ks) gs->(∀ c,cnt gs.flatten c<=aL (mD f hs (n :: ks)) c)->H B=none->H' B=some (.lst vs')->HalsAt H' vs' (nK hs ((n :: ks).zip gs))->H R=none->H' R=some (.dK kws)->Lk kws (bO λc=>aL (mD f hs (n :: ks)) c - cnt gs.flatten c)->Q (.ref t) H')/\
 ((∀ l,l.Sublist (aM hs n)->¬ qB f hs n cw l)->∀ (dx l1 l2:Addr) (rs:List Addr) (W:List Wt) (F:List Nat) (H':Hp),Same H H'->H' dx=some (xdO dx [("flags",.ref l2),("wants",.ref l1)])->H' l1=some (.lst (rs.map V.ref))->WtsAt H' rs W->H' l2=some (.lst ((F.map one).map V.str))->LackOk (bT hs cw (aM hs n)) (jH f hs (n :: aM hs n)) W F->H l1=none->H l2=none->E (.ref aC) (some dx) H')
theorem sc_hauled:FnScope ["locker", "halyards", "number", "word", "lowered", "rehung", "more", "behind", "at", "hoist"] ["locker", "halyards", "number", "word"] (aG hV):=⟨rfl,rfl,rfl,by decide +kernel,rfl,by decide +kernel,by decide +kernel⟩
theorem aJX {Zo Zz Zr Zx Zs Zp Zu Zw Zy Zt Zv Zq:Addr} {f:Addr} {fd:FuncData} (F:Fun K "hauled" "hauled" hV f fd) (G:Gs K mg Zo Zz Zr Zx Zs Zp Zu Zw Zy Zt Zv Zq) (c_put_in:Cal P w K mg base 2 "put_in" ["locker", "flags"] mQ) (c_least_set:oE P w K mg base 11 "least_set" ["locker", "halyards", "number", "word"] (iP Zo)) (c_flags_on:Cal P w K mg base 1 "flags_on" ["halyards", "numbers"] jT) (c_hang_all:oE P w K mg base 3 "hang_all" ["locker", "words"] (jI Zo)) (c_taken:oE P w K mg base 3 "taken" ["locker", "flags"] (vW Zr)) (c_words_with:Cal P w K mg base 5 "words_with" ["halyards", "word", "lowered"] gX):FnOk P w K mg base (CXr P w) 12 f fd ["locker", "halyards", "number", "word"] (nJ Zo):=by
 refine F.okX sc_hauled (λvs H Q E h=>?_) (λcdv A outer s H vs Q E hr h=>?_)
 · obtain ⟨a,b,kvs,f,us,hs,n,cw,rfl,_⟩:=h; rfl
 obtain ⟨a,b,kvs,f,us,hs,n,cw,rfl,⟨ha,lk,hf0,hb,hat,ok,h6,hn,hc1,hc7,hcL⟩,q,qe⟩:=h
 refine ⟨_,(@aF _ _ _ _ _ (@aP _ _ 4 _ _ _ _ sc_hauled.nd (by rfl) (by exact (Or.inl rfl)) (bH cC (kJ c_least_set kF hr (by decide) rfl (aA (mv 0) (aA (mv 1) (aA (mv 2) (aA (mv 3) aB))))) aJ (λ_ _=>rfl)) (by rfl) (by first | exact Or.inl rfl | exact Or.inr rfl)) (@aF _ _ _ _ _ (@aP _ _ 5 _ _ _ _ sc_hauled.nd (by rfl) (by exact (Or.inl rfl)) (aT bZ (bE (aA (mv 2) aB)) (mv 4)) (by rfl) (by first | exact Or.inl rfl | exact Or.inr rfl)) (@aF _ _ _ _ _ (@aP _ _ 6 _ _ _ _ sc_hauled.nd (by rfl) (by exact (Or.inl rfl)) (aX c_put_in hr (by decide) rfl (aA (mv 0) (aA (aX c_flags_on hr (by decide) rfl (aA (mv 1) (aA (mv 5) aB))) aB))) (by rfl) (by first | exact Or.inl rfl | exact Or.inr rfl)) (@aF _ _ _ _ _ (oO (i:=7) sc_hauled.nd rfl (Or.inl rfl) rfl (bW (mv 1)) (bQ5 (N:=["hoist"]) (by decide +kernel) (by decide +kernel)) (by decide +kernel) rfl (by decide +kernel) (λC s₀ H₀ ex=>(aQ (i:=0) (show List.Nodup (["hoist"]:List Str) by decide +kernel) rfl (Or.inl rfl))) (λC s₀ H₀ ex=>gS) (λC s₀ H₀ ex=>(wG (bC bZ3 (mv 0) cV (bG _)) cV (bM lG rfl G.b_list fI (aA (mv 0) aB))))) (@aF _ _ _ _ _ (bP PassesOwn.leaving rfl (dQL rfl G.b_zip (aA (mv 5) (aA (kJ c_hang_all kF hr (by decide) rfl (aA (mv 6) (aA (aX c_words_with hr (by decide) rfl (aA (mv 1) (aA (mv 3) (aA (mv 4) aB)))) aB))) aB))) (kI (K:=K) (i:=8) (j:=9) (by rfl) (by rfl) sc_hauled.nd (by rfl) (by exact (Or.inl rfl)) (by exact Or.inl rfl) (by rfl) (by exact (Or.inl rfl)) (by exact Or.inl rfl)) (@aI _ _ _ (zK (mv 9) (dX3 (mv 7) (mv 8) bXK)))) (@aI _ _ _ (aV (jN (aA (mv 4) (aA (mv 7) (aA (kJ c_taken kF hr (by decide) rfl (aA (mv 6) (aA (aX c_flags_on hr (by decide) rfl (aA (mv 7) (aA (mv 5) aB))) aB))) aB))))))))))),?_⟩
 have hol:=lO hn
 walk_at "go"
 refine ⟨a,b,kvs,f,us,hs,n,cw,rfl,ha,lk,hf0,hb,hat,ok,h6,hn,hc7,hcL,λt0 L p0 ts ks j H1 s1 ht0 et hL eL hfst _ _ _ _=>?_,qe⟩
 have hks:=mem_sets.mp (Ak hfst.1)
 have hlk:∀ k∈ks,k < hs.length/\(hs.getD k none).isSome=true:=λk hk=>by
   have:=iJ (hks.subset hk)
   exact ⟨this.1,this.2.1⟩
 have hkl:ks.length<=5:=by have:=hks.length_le; omega
 have hb1:=aH s1 hb
 have hat1:=hat.keep s1
 refine lX et (v:=.ref L) rfl ?_
 walk_at "go"
 refine ⟨by show 1<=sizeLine; decide,λp5 hp5=>?_⟩
 have s5:=aE hp5 (.lst [V.int ((n:Nat):Int)])
 have e5:(upd H1 p5 (.lst [V.int ((n:Nat):Int)])) p5=some (.lst [V.int ((n:Nat):Int)]):=aD
 generalize upd H1 p5 (.lst [V.int ((n:Nat):Int)])=H5 at s5 e5 ⊢
 walk_at "go"
 refine lB (bI e5) (bI (s5 _ _ eL)) (bQ (by rw [gH]; show 1 + _<=_; omega)) λp6 hp6=>?_
 have s6:=aE hp6 (.lst ((n :: ks).map λk=>V.int ((k:Nat):Int)))
 have e6:rdL (upd H5 p6 (.lst ((n :: ks).map λk=>V.int ((k:Nat):Int)))) p6=some ((n :: ks).map λk=>V.int ((k:Nat):Int)):=bV
 change pE _ _ _ (upd H5 p6 (.lst ((n :: ks).map λk=>V.int ((k:Nat):Int)))) _
 generalize upd H5 p6 (.lst ((n :: ks).map λk=>V.int ((k:Nat):Int)))=H6 at s6 e6 ⊢
 have s16:=s5.trans s6
 walk_at "go"
 refine ⟨b,p6,us,hs,n :: ks,rfl,aH s16 hb1,hat1.keep s16,ok,e6,by show ks.length + 1<=7; omega,λk hk=>by rcases Bc.mp hk with e | e; (· rw [e]; exact hn); (· exact (hlk k e).1),λr7 H7 hr7 s7 e7=>?_⟩
 have s17:=s16.trans s7
 have fl7:=fV ok (n :: ks)
 walk_at "go"
 refine ⟨a,r7,kvs,f,bF hs (n :: ks),rfl,s17 _ _ (s1 _ _ ha),lk,hf0,aO e7,by rw [Ay] at fl7; omega,λr8 kws H8 hr8 s8 e8 lk8=>?_⟩
 have s18:=s17.trans s8
 have e68:=aH (s7.trans s8) e6
 have hb8:=aH s18 hb1
 have hat8:=hat1.keep s18
 have hul:=hat.len
 walk_at "go"
 refine aXD (hs:=hs) hb8 (aY (by omega)) hul (λi x h Hc A B hx hh sm hA=>?_) (λD Hd vs hD sD hd hatD hfr=>?_)
 · have hv:=(hat8.keep sm).val i x h hx hh
   cases h with
   | none=>
     obtain rfl:x=V.non:=hv
     walk_at "go"
     refine ⟨Wk.set rfl (Wk.refl _),?_⟩
     walk_at "go"
     rw [show decide (V.non=V.non)=true from rfl]
     walk_at "go"
     exact hA .non _ (Same.refl _) rfl λp z=>nomatch z
   | some cs=>
     obtain ⟨pc,rfl,hpc⟩:=hv
     have rc:=aO hpc
     walk_at "go"
     refine ⟨Wk.set rfl (Wk.refl _),?_⟩
     walk_at "go"
     rw [show decide (V.ref pc=V.non)=false from Au (λz=>nomatch z)]
     walk_at "go"
     intro l2 hl2
     exact hA (.ref l2) _ (aE hl2 _) ⟨l2,rfl,aD⟩ λp z=>by cases z; exact hl2
 · have s1D:=s18.trans sD
   have e6D:=aH sD e68
   have eLD:=s1D _ _ eL
   walk_at "go"
   refine ⟨b,L,us,hs,cw,ks,rfl,aH s1D hb1,hat1.keep s1D,ok,aO eLD,by omega,hlk,λr9 H9 hr9 s9 e9=>?_⟩
   walk_at "go"
   refine ⟨r8,r9,kws,mD f hs (n :: ks),bT hs cw ks,rfl,.inl (s9 _ _ (sD _ _ e8)),lk8,aO e9,by unfold bT; rw [Ay,Ab]; omega,kC ok ⟨hc7,hcL⟩ hlk,λrh ps fs H10 hrh s10 er hne hls hfl hch hct=>?_,λdx l1 l2 rs W F H10 s10 _ _ _ _ hlo _ _=>absurd hfst.2.1 (vX hlo)⟩
   have sD10:=s9.trans s10
   have hgs:=yU hfl hch
   have hflat:=kD (hfl.trans (uJ (bT hs cw ks)))
   have hgl:=hgs.lens
   have hpg:∀ (i:Nat) p g,ps[i]?=some p->(mS (bT hs cw ks) fs)[i]?=some g->H10 p=some (.lst ((g.map one).map V.str))/\p≠D:=λi p g hp hg=>by
     have hi:i < (bT hs cw ks).length:=by rw [<-hgl]; exact (Ae.mp hg).1
     have ec:(bT hs cw ks)[i]?=some (bT hs cw ks)[i]:=Aa hi
     rw [xC ec] at hg
     obtain ⟨h1,h2⟩:=hls.2 i p (lJ (bT hs cw ks) fs i) hp (by rw [Ag,List.getElem?_range hi]; rfl)
     refine ⟨?_,λz=>by rw [z,s9 _ _ hd] at h1; cases h1⟩
     unfold lJ at h2
     rw [Ad,ec] at h2
     cases hg
     exact h2
   have hcnt:∀ c,cnt (mS (bT hs cw ks) fs).flatten c<=aL (mD f hs (n :: ks)) c:=λc=>by
     rw [hflat,aXB]
     exact Int.le_trans (hct c) (bQV (nR f hs (n :: ks)) c)
   have hwone:=zH ok hc1 ⟨hc7,hcL⟩ hlk
   have hgf:=cZO hgs hwone
   have hpsl:ps.length=(mS (bT hs cw ks) fs).length:=by rw [hls.1,Ab,Cg,hgl]
   have hgl2:(mS (bT hs cw ks) fs).length=(n :: ks).length:=by rw [hgl]; show ((ks.map _).length + 1)=ks.length + 1; rw [Ab]
   generalize mS (bT hs cw ks) fs=gs at hgs hflat hgl hpg hcnt hgf hpsl hgl2
   have e610:=aH sD10 e6D
   have er10:=aO er
   have eD10:=sD10 _ _ hd
   have hat10:=hatD.keep sD10
   have nd6:p6≠D:=λz=>by rw [z] at e68; unfold rdL at e68; rw [hD] at e68; cases e68
   have ndh:rh≠D:=λz=>by rw [z,s9 _ _ hd] at hrh; cases hrh
   have s810:=sD.trans sD10
   walk_at "go"
   refine cJ5 (xs:=((n :: ks).map λk=>V.int ((k:Nat):Int))) (ys:=ps.map V.ref) (λi σ H'=>∃ (v8 v9:Option V) (ws:List V),σ=[some (.ref a),some (.ref b),some (.int ((n:Nat):Int)),some (.str (aZ cw)),some (.ref L),some (.ref p6),some (.ref r8),some (.ref D),v8,v9]/\Same H8 H'/\(∀ z u,z≠D->H10 z=some u->H' z=some u)/\H' D=some (.lst ws)/\HalsAt H' ws (nK hs (((n :: ks).zip gs).take i)))
     ⟨_,_,vs,rfl,s810,λz u _ h=>h,eD10,hat10⟩ (λi σ H' _ _ ⟨_,_,_,_,_,fr,_⟩=>⟨aQG e610 nd6 fr,aQG er10 ndh fr⟩) ?_ ?_
   · rintro i x y σ H11 pt hx hy ⟨v8,v9,ws,rfl,s11,fr11,e11,hat11⟩ hpt
     obtain ⟨k,hk,rfl⟩:=jZ hx
     obtain ⟨pg,hpgi,rfl⟩:=yR hy
     have hig:i < gs.length:=by rw [<-hpsl]; exact (Ae.mp hpgi).1
     have eg:gs[i]?=some gs[i]:=Aa hig
     obtain ⟨hp10,npD⟩:=hpg i pg _ hpgi eg
     have hp11:=fr11 _ _ npD hp10
     have hkl2:k < hs.length:=by rcases Bc.mp (Ak hk) with e | e; (· rw [e]; exact hn); (· exact (hlk k e).1)
     have hwl:ws.length=hs.length:=by rw [hat11.len,qO]
     have tk:=bX0 hk eg
     generalize gs[i]=g at eg hp10 hp11 tk
     have s12:=aE hpt (.tup [.int ((k:Nat):Int),.ref pg])
     have t12:lP (upd H11 pt (.tup [.int ((k:Nat):Int),.ref pg])) pt=some [.int ((k:Nat):Int),.ref pg]:=mY
     have e12:=s12 _ _ e11
     have hat12:=hat11.keep s12
     have hp12:=s12 _ _ hp11
     generalize upd H11 pt (.tup [.int ((k:Nat):Int),.ref pg])=H12 at s12 t12 e12 hat12 hp12 ⊢
     walk_at "go"
     refine dJL (o:=.non) (bI e12) (dXP (by omega) (by rw [hwl]; omega)) ?_
     rw [show ((k:Nat):Int).toNat=k from rfl]
     refine ⟨_,_,ws.set k (.ref pg),rfl,aW hD (s11.trans s12),λz u hz h=>by rw [aK hz]; exact s12 _ _ (fr11 z u hz h),aD,?_⟩
     rw [tk,kL]
     exact (hat12.put e12).set ⟨pg,rfl,by rw [aK npD]; exact hp12⟩
   · rintro σ H11 ⟨v8,v9,ws,rfl,s11,fr11,e11,hat11⟩
     have hzl:((n :: ks).zip gs).length=(n :: ks).length:=by rw [List.length_zip,hgl2,Nat.min_self]
     rw [gH,Ab,hpsl,hgl2,Nat.min_self,<-hzl,Bp] at hat11
     have hzk:∀ z∈(n :: ks).zip gs,z.1∈n :: ks/\z.2∈gs:=λz hz=>List.of_mem_zip hz
     have ok':HalOk (nK hs ((n :: ks).zip gs)):=cQY ok _ λz hz=>(hgf z.2 (hzk z hz).2).1
     have hkk:∀ k∈n :: ks,k < hs.length:=λk hk=>by rcases Bc.mp hk with e | e; (· rw [e]; exact hn); (· exact (hlk k e).1)
     have ndz:(((n :: ks).zip gs).map (·.1)).Nodup:=by
       rw [show ((n :: ks).zip gs).map (·.1)=n :: ks from List.map_fst_zip (by rw [hgl2]; exact Ah _)]
       exact aZS hks
     have hfo:bF (nK hs ((n :: ks).zip gs)) (n :: ks)=gs.flatten:=wH hgl2.symm (cZE hs _ ndz λz hz=>hkk z.1 (hzk z hz).1)
     have e6b:=aQG e610 nd6 fr11
     have e8b:H11 r8=some (.dK kws):=s11 _ _ e8
     walk_at "go"
     refine ⟨D,p6,ws,_,n :: ks,rfl,aO e11,hat11,ok',e6b,by show ks.length + 1<=7; omega,λk hk=>by rw [qO]; exact hkk k hk,λr12 H12 hr12 s12 e12=>?_⟩
     rw [hfo] at e12
     have hfle:gs.flatten.length<=42:=by
       have:=fV ok' (n :: ks)
       rw [hfo,Ay] at this
       omega
     walk_at "go"
     refine ⟨r8,r12,kws,mD f hs (n :: ks),gs.flatten,rfl,s12 _ _ e8b,lk8,nR f hs (n :: ks),aO e12,by omega,λc hc=>by obtain ⟨g,hg,hcg⟩:=List.mem_flatten.mp hc; exact (hgf g hg).2 c hcg,λ_ rR kwR H13 hrR s13 eR lkR=>?_,λi c hi _ hle=>?_⟩
     · walk_at "go"
       refine ⟨by show 3<=sizeLine; decide,λt ht=>?_⟩
       have k14:=aE ht (.tup [.ref L,.ref D,.ref rR])
       have s114:=s12.trans (s13.trans k14)
       have sH11:Same H H11:=s1.trans (s18.trans s11)
       refine q t L D rR ks gs j ws kwR _ (sH11.trans s114) (none_of (sH11.trans (s12.trans s13)) ht) aD hL (s114 _ _ (s11 _ _ (s18 _ _ eL))) hfst hgs hcnt (none_of (s1.trans s18) hD) (s114 _ _ e11) (hat11.keep s114) (none_of (sH11.trans s12) hrR) (k14 _ _ eR) lkR
     · have h1:=dQ3 hi
       have h2:=hcnt c
       omega
def gL (aC:Addr):Sp:=λvs H Q E=>∃ (a b:Addr) (kvs:List (Key × V)) (f:Nat->Option Int) (us:List V) (hs:List (Option (List Nat))) (n:Nat) (cw:List Nat),vs=[.ref a,.ref b,.int ((n:Nat):Int),.str (aZ cw)]/\iR H a b kvs f us hs n cw/\
 (∀ (p:Addr) (ts:List Addr) (ks:List Nat) (j:Nat) (H':Hp),Same H H'->qE f hs n cw ks j->H p=none->H' p=some (.lst (ts.map V.ref))->ts.length=j->(∀ (i:Nat) u l,ts[i]?=some u->(cQ (aM hs n))[i]?=some l->PaperH H' f hs n cw l u)->Q (.ref p) H')/\
 ((∀ l,l.Sublist (aM hs n)->¬ qB f hs n cw l)->∀ (dx l1 l2:Addr) (rs:List Addr) (W:List Wt) (F:List Nat) (H':Hp),Same H H'->H' dx=some (xdO dx [("flags",.ref l2),("wants",.ref l1)])->H' l1=some (.lst (rs.map V.ref))->WtsAt H' rs W->H' l2=some (.lst ((F.map one).map V.str))->LackOk (bT hs cw (aM hs n)) (jH f hs (n :: aM hs n)) W F->H l1=none->H l2=none->E (.ref aC) (some dx) H')
theorem lQ:FnScope ["locker", "halyards", "number", "word"] ["locker", "halyards", "number", "word"] (aG cH):=⟨rfl,rfl,rfl,by decide +kernel,rfl,by decide +kernel,by decide +kernel⟩
theorem mJ {Zo Zz Zr Zx Zs Zp Zu Zw Zy Zt Zv Zq:Addr} {f:Addr} {fd:FuncData} (F:Fun K "hauling_papers" "hauling_papers" cH f fd) (G:Gs K mg Zo Zz Zr Zx Zs Zp Zu Zw Zy Zt Zv Zq) (c_least_set:oE P w K mg base 11 "least_set" ["locker", "halyards", "number", "word"] (iP Zo)):FnOk P w K mg base (CXr P w) 12 f fd ["locker", "halyards", "number", "word"] (gL Zo):=by
 refine F.okX lQ (λvs H Q E h=>?_) (λcdv A outer s H vs Q E hr h=>?_)
 · obtain ⟨a,b,kvs,f,us,hs,n,cw,rfl,_⟩:=h; rfl
 obtain ⟨a,b,kvs,f,us,hs,n,cw,rfl,⟨ha,lk,hf0,hb,hat,ok,h6,hn,hc1,hc7,hcL⟩,q,qe⟩:=h
 refine ⟨_,(@aI _ _ _ (aV (bH cC (kJ c_least_set kF hr (by decide) rfl (aA (mv 0) (aA (mv 1) (aA (mv 2) (aA (mv 3) aB))))) aJ (λ_ _=>rfl)))),?_⟩
 walk_at "go"
 refine ⟨a,b,kvs,f,us,hs,n,cw,rfl,ha,lk,hf0,hb,hat,ok,h6,hn,hc7,hcL,λt0 L p0 ts ks j H1 s1 ht0 et hL eL hfst hp0 ep htl hpap=>?_,qe⟩
 refine lX et (v:=.ref p0) rfl ?_
 exact q p0 ts ks j H1 s1 hfst hp0 ep htl hpap
def gO:Sp:=λvs H Q _=>∃ c m:Int,vs=[.int c,.int m]/\0<=m/\m<=1000/\
 ∀ (r:Addr) (ns:List Int) (H':Hp),H r=none->Same H H'->ns.length=m.toNat->(∀ n∈ns,0<=n)->H' r=some (.lst (ns.map V.int))->Q (.ref r) H'
def sT (K:PySem.W.Frag):Sp:=λvs H Q _=>∃ (a:Addr) (ns:List Int) (k:Int),vs=[.ref a,.int k]/\SqL K H a (ns.map V.int)/\0<=k/\∀ n:Int,Q (.int n) H
theorem aZJ:FnScope ["_law_script", "_law_k"] ["_law_script", "_law_k"] (aG gZ):=⟨rfl,rfl,rfl,by decide +kernel,rfl,by decide +kernel,by decide +kernel⟩
theorem aZG {Zo Zz Zr Zx Zs Zp Zu Zw Zy Zt Zv Zq:Addr} {f:Addr} {fd:FuncData} (F:Fun K "_law_cell" "_law_cell" gZ f fd) (G:Gs K mg Zo Zz Zr Zx Zs Zp Zu Zw Zy Zt Zv Zq)  : FnOk P w K mg base CX0 1 f fd ["_law_script", "_law_k"] (sT K):=by
 refine F.ok aZJ (λvs H Q E h=>?_) (λcdv A outer s H vs Q E hr h=>?_)
 · obtain ⟨a,ns,k,rfl,_⟩:=h; rfl
 obtain ⟨a,ns,k,rfl,hS,h0,q⟩:=h
 refine ⟨_,(@aF _ _ _ _ _ (cT (bC bJT (mv 1) (bA mK rfl G.b_len dE (aA (mv 0) aB)) (bG _)) (@aI _ _ _ (aV (bH ix_list (mv 0) (mv 1) (λ_ _=>rfl)))) bS) (@aI _ _ _ (aV aJ))),?_⟩
 walk_at "go"
 refine ⟨_,_,rfl,.inl hS,?_⟩
 have hnl:(ns.map V.int).length=ns.length:=Ab ..
 rw [hnl]
 walk_at "go"
 refine gD (λhd=>?_) (λhd=>?_)
 · have hd':=Bf hd
   obtain ⟨n,_,an⟩:=eQ (ns:=ns) (i:=k) h0 hd'
   walk_at "go"
   exact dJ2 hS an (q n)
 · walk_at "go"
   exact q 0
theorem sc_l_stream:FnScope ["_law_cell_here", "_law_many", "_law_number", "_law_found", "_law_k"] ["_law_cell_here", "_law_many"] (aG fB):=⟨rfl,rfl,rfl,by decide +kernel,rfl,by decide +kernel,by decide +kernel⟩
theorem wC {Zo Zz Zr Zx Zs Zp Zu Zw Zy Zt Zv Zq:Addr} {f:Addr} {fd:FuncData} (F:Fun K "_law_stream" "_law_stream" fB f fd) (G:Gs K mg Zo Zz Zr Zx Zs Zp Zu Zw Zy Zt Zv Zq)  : FnOk P w K mg base CX0 1 f fd ["_law_cell_here", "_law_many"] gO:=by
 refine F.ok sc_l_stream (λvs H Q E h=>?_) (λcdv A outer s H vs Q E hr h=>?_)
 · obtain ⟨c,m,rfl,_⟩:=h; rfl
 obtain ⟨c,m,rfl,h0,h1,q⟩:=h
 refine ⟨_,(@aF _ _ _ _ _ (@aP _ _ 2 _ _ _ _ sc_l_stream.nd (by rfl) (by exact (Or.inl rfl)) (aT bZ (aT fK (mv 0) aJ) aJ) (by rfl) (by first | exact Or.inl rfl | exact Or.inr rfl)) (@aF _ _ _ _ _ (@aP _ _ 3 _ _ _ _ sc_l_stream.nd (by rfl) (by exact (Or.inl rfl)) (bE aB) (by rfl) (by first | exact Or.inl rfl | exact Or.inr rfl)) (@aF _ _ _ _ _ (bP Ba rfl (eY rfl G.b_range (aA (mv 1) aB)) (aQ (i:=4) sc_l_stream.nd rfl (Or.inl rfl)) (@aF _ _ _ _ _ (@aP _ _ 2 _ _ _ _ sc_l_stream.nd (by rfl) (by exact (Or.inl rfl)) (aT fK (aT bZ (aT bZ (aT bZ (aT bXZ (mv 2) (mv 2)) (aT bXZ aJ (mv 2))) (aT bXZ aJ (mv 4))) aJ) aJ) (by rfl) (by first | exact Or.inl rfl | exact Or.inr rfl)) (@aI _ _ _ (cK (dD Bq Cp Cq qN (mv 3) (aA (aT jG (mv 2) aJ) aB)))))) (@aI _ _ _ (aV (mv 3)))))),?_⟩
 walk_at "go"
 refine ⟨by decide,λp hp=>?_⟩
 walk_at "go"
 refine ⟨⟨by omega,by omega⟩,?_⟩
 refine iA (λi σ H'=>∃ (x:Int) (ns:List Int) (v:Option V),σ=[some (.int c),some (.int m),some (.int x),some (.ref p),v]/\0<=x/\x < 2147531918/\ns.length=i/\(∀ n∈ns,0<=n)/\H'=upd H p (.lst (ns.map V.int)))
   ⟨_,[],none,rfl,by omega,by omega,rfl,(λn hn=>nomatch hn),rfl⟩ ?_ ?_
 · rintro i σ H' hi ⟨x,ns,v,rfl,hx0,hx1,hn,hns,rfl⟩
   walk_at "go"
   refine ⟨_,ns ++ [(x * x + 48271 * x + 7 * (0 + (i:Int)) + 1) % 2147483647 / 64],_,rfl,Cv _ (by decide),?_,?_,?_,?_⟩
   · have:=Cs (x * x + 48271 * x + 7 * (0 + (i:Int)) + 1) (show (0:Int) < 2147483647 by decide)
     omega
   · rw [Aj,hn]; rfl
   · intro n hn
     rcases Bi.mp hn with z | z
     · exact hns n z
     · rw [Aw.mp z]
       have:=Cv (x * x + 48271 * x + 7 * (0 + (i:Int)) + 1) (show (2147483647:Int)≠0 by decide)
       omega
   · rw [aX8,Al]; rfl
 · rintro σ H' ⟨x,ns,v,rfl,hx0,hx1,hn,hns,rfl⟩
   walk_at "go"
   exact q p ns _ hp (aE hp _) hn hns aD
theorem cX6 {c:Nat} (h:bK c):Builtin.Str.occurrences lettersT (one c) 0 lettersT.length 1=[c - 97]:=by
 have q:∀ k:_root_.Fin 23,Builtin.Str.occurrences lettersT (one (97 + k.val)) 0 lettersT.length 1=[k.val]:=by decide +kernel
 unfold bK at h
 have e:=q ⟨c - 97,by omega⟩
 rwa [show 97 + (c - 97)=c by omega] at e
def mW:Sp:=λvs H Q _=>∃ n m l:Int,vs=[.int n,.int m,.int l]/\1<=l/\l<=7/\∀ (cw:List Nat) (H':Hp),Same H H'->1<=cw.length->(cw.length:Int)<=l->(∀ d∈cw,bK d)->Q (.str (aZ cw)) H'
theorem sc_l_word:FnScope ["_law_cell_here", "_law_spread", "_law_longest", "_law_some", "_law_word_here", "_law_k"] ["_law_cell_here", "_law_spread", "_law_longest"] (aG hZ):=⟨rfl,rfl,rfl,by decide +kernel,rfl,by decide +kernel,by decide +kernel⟩
theorem aZN {Zo Zz Zr Zx Zs Zp Zu Zw Zy Zt Zv Zq:Addr} {f:Addr} {fd:FuncData} (F:Fun K "_law_word" "_law_word" hZ f fd) (G:Gs K mg Zo Zz Zr Zx Zs Zp Zu Zw Zy Zt Zv Zq) (c_l_stream:Cal P w K mg base 1 "_law_stream" ["_law_cell_here", "_law_many"] gO):FnOk P w K mg base CX0 2 f fd ["_law_cell_here", "_law_spread", "_law_longest"] mW:=by
 refine F.ok sc_l_word (λvs H Q E h=>?_) (λcdv A outer s H vs Q E hr h=>?_)
 · obtain ⟨n,m,l,rfl,_⟩:=h; rfl
 obtain ⟨n,m,l,rfl,hl1,hl7,q⟩:=h
 refine ⟨_,(@aF _ _ _ _ _ (@aP _ _ 3 _ _ _ _ sc_l_word.nd (by rfl) (by exact (Or.inl rfl)) (aX c_l_stream hr (by decide) rfl (aA (mv 0) (aA aJ aB))) (by rfl) (by first | exact Or.inl rfl | exact Or.inr rfl)) (@aF _ _ _ _ _ (@aP _ _ 4 _ _ _ _ sc_l_word.nd (by rfl) (by exact (Or.inl rfl)) fM (by rfl) (by first | exact Or.inl rfl | exact Or.inr rfl)) (@aF _ _ _ _ _ (bP Ba rfl (eY rfl G.b_range (aA (aT bZ aJ (aT fK (bH cC (mv 3) aJ (λ_ _=>rfl)) (mv 2))) aB)) (aQ (i:=5) sc_l_word.nd rfl (Or.inl rfl)) (@aI _ _ _ (@aP _ _ 4 _ _ _ _ sc_l_word.nd (by rfl) (by exact (Or.inl rfl)) (aT bZ (mv 4) (bH cC fM (aT fK (aT bZ (aT jG (mv 1) aJ) (aT fK (bH cC (mv 3) (mv 5) (λ_ _=>rfl)) (@bH _ _ _ _ _ _ _ cC (@bE _ _ _ _ (aA aJ (aA aJ (aA aJ (aA aJ aB))))) (aT fK (mv 1) aJ) (λ_ _=>rfl)))) aJ) (λ_ _=>rfl))) (by rfl) (by first | exact Or.inl rfl | exact Or.inr rfl)))) (@aI _ _ _ (aV (mv 4)))))),?_⟩
 walk_at "go"
 refine ⟨n,9,rfl,by omega,by omega,λr ns H1 hr1 s1 hl hp he=>?_⟩
 have hl9:ns.length=9:=hl
 have hlr:rdL H1 r=some (ns.map V.int):=aO he
 obtain ⟨n8,i8,a8⟩:=eQ (ns:=ns) (i:=8) (by omega) (by omega)
 have p8:=hp _ i8
 have z0:=Cv n8 (show l≠0 by omega)
 have z1:=Cs n8 (show 0 < l by omega)
 walk_at "go"
 refine cL hlr a8 ?_
 walk_at "go"
 generalize n8 % l=u at z0 z1 ⊢
 refine ⟨⟨by omega,by omega⟩,?_⟩
 refine iA (λi σ H'=>∃ (cs:List Nat) (v:Option V),σ=[some (.int n),some (.int m),some (.int l),some (.ref r),some (.str (aZ cs)),v]/\cs.length=i/\(∀ d∈cs,bK d)/\Same H1 H')
   ⟨[],none,rfl,rfl,(λd hd=>nomatch hd),Same.refl _⟩ ?_ ?_
 · rintro i σ H2 hi ⟨cs,v,rfl,hcl,hL,s2⟩
   have hi7:i < 7:=by omega
   have hwl:(aZ cs).length=cs.length:=eT cs
   have hl2:=aH s2 hlr
   obtain ⟨nk,ik,ak⟩:=eQ (ns:=ns) (i:=0 + (i:Int)) (by omega) (by omega)
   walk_at "go"
   refine cL hl2 ak ?_
   walk_at "go"
   refine ⟨by decide,λp hp4=>?_⟩
   have hl3:=aH (aE hp4 (.lst (([2,3,4,23]:List Int).map V.int))) hl2
   walk_at "go"
   obtain ⟨kn,hkn,akn⟩:=eQ (ns:=[2,3,4,23]) (i:=m % 4) (by omega) (by show m % 4 < 4; omega)
   have hk:1<=kn:=(by decide:∀ x∈([2,3,4,23]:List Int),1<=x) kn hkn
   refine cL (xs:=([2,3,4,23]:List Int).map V.int) bV akn ?_
   walk_at "go"
   generalize m / 8 + nk % kn=y
   have y0:=Cv y (show (23:Int)≠0 by decide)
   have y1:=Cs y (show (0:Int) < 23 by decide)
   have e1:=aXN (k:=(y % 23).toNat) (by omega)
   rw [show (((y % 23).toNat:Nat):Int)=y % 23 by omega] at e1
   refine jA (by decide) e1 ?_
   have h1l:(⟨#[97 + (y % 23).toNat]⟩:Str).length=1:=rfl
   walk_at "go"
   refine ⟨cs ++ [97 + (y % 23).toNat],some (.int (0 + (i:Int))),?_,by rw [Aj,hcl]; rfl,λd hd=>?_,s2.trans (aE hp4 _)⟩
   · rw [<-hX]
     rfl
   · rcases Bi.mp hd with z | z
     · exact hL d z
     · rw [Aw.mp z]
       exact ⟨by omega,by omega⟩
 · rintro σ H2 ⟨cs,v,rfl,hcl,hL,s2⟩
   walk_at "go"
   exact q _ _ (s1.trans s2) (by omega) (by omega) hL
theorem iM {f:Nat->Option Int} {c:Nat} {n:Int} (hf:∀ c,0<=aL f c) (hn:0<=n):∀ d,0<=aL (λd=>if d=c then some n else f d) d:=λd=>by
 show 0<=((if d=c then some n else f d):Option Int).getD 0
 by_cases e:d=c
 · rw [if_pos e]; exact hn
 · rw [if_neg e]; exact hf d
theorem tV {f:Nat->Option Int} {c:Nat} {n m:Int} (hf:∀ c,aL f c<=m) (hn:n<=m):∀ d,aL (λd=>if d=c then some n else f d) d<=m:=λd=>by
 show ((if d=c then some n else f d):Option Int).getD 0<=m
 by_cases e:d=c
 · rw [if_pos e]; exact hn
 · rw [if_neg e]; exact hf d
theorem cX4 {f:Nat->Option Int} {c:Nat} {n:Int} (hf:∀ c,f c≠none->bK c) (hc:bK c):∀ d,(if d=c then some n else f d)≠none->bK d:=λd z=>by
 by_cases e:d=c
 · rw [e]; exact hc
 · rw [if_neg e] at z; exact hf d z
theorem mU {kvs:List (Key × V)} {k:Key} {v:V} (h:bU kvs k≠none):(dH kvs k v).length=kvs.length:=by
 unfold dH
 split
 · rw [Ab]
 · rename_i hn
   refine absurd ?_ h
   unfold bU
   rw [List.find?_eq_none.mpr λx hx=>by
     rw [Bj]
     intro e
     exact hn (Gk.mpr ⟨x,hx,Ap e⟩)]
   rfl
def nV:Sp:=λvs H Q _=>∃ (c:Int) (b:Addr) (cws:List (List Nat)),vs=[.int c,.ref b]/\rdL H b=some ((cws.map aZ).map V.str)/\cws.length<=8/\(∀ c∈cws,c.length<=7/\∀ d∈c,bK d)/\
 ∀ (r:Addr) (kvs:List (Key × V)) (f:Nat->Option Int) (H':Hp),H r=none->Same H H'->H' r=some (.dK kvs)->Lk kvs f->(∀ c,0<=aL f c/\aL f c<=1000)->kvs.length<=100->Q (.ref r) H'
theorem sc_l_locker:FnScope ["_law_cell_here", "_law_words_here", "_law_some", "_law_locker_here", "_law_word_here", "_law_letter", "_law_rank", "_law_k"] ["_law_cell_here", "_law_words_here"] (aG fA):=⟨rfl,rfl,rfl,by decide +kernel,rfl,by decide +kernel,by decide +kernel⟩
theorem xM {Zo Zz Zr Zx Zs Zp Zu Zw Zy Zt Zv Zq:Addr} {f:Addr} {fd:FuncData} (F:Fun K "_law_locker" "_law_locker" fA f fd) (G:Gs K mg Zo Zz Zr Zx Zs Zp Zu Zw Zy Zt Zv Zq) (c_l_stream:Cal P w K mg base 1 "_law_stream" ["_law_cell_here", "_law_many"] gO):FnOk P w K mg base CX0 2 f fd ["_law_cell_here", "_law_words_here"] nV:=by
 refine F.ok sc_l_locker (λvs H Q E h=>?_) (λcdv A outer s H vs Q E hr h=>?_)
 · obtain ⟨c,b,cws,rfl,_⟩:=h; rfl
 obtain ⟨c,b,cws,rfl,hb,h8,hL,q⟩:=h
 refine ⟨_,(@aF _ _ _ _ _ (@aP _ _ 2 _ _ _ _ sc_l_locker.nd (by rfl) (by exact (Or.inl rfl)) (aX c_l_stream hr (by decide) rfl (aA (mv 0) (aA aJ aB))) (by rfl) (by first | exact Or.inl rfl | exact Or.inr rfl)) (@aF _ _ _ _ _ (@aP _ _ 3 _ _ _ _ sc_l_locker.nd (by rfl) (by exact (Or.inl rfl)) qF (by rfl) (by first | exact Or.inl rfl | exact Or.inr rfl)) (@aF _ _ _ _ _ (bP Ba rfl (bW (mv 1)) (aQ (i:=4) sc_l_locker.nd rfl (Or.inl rfl)) (@aI _ _ _ (bP Ba rfl (mR (mv 4)) (aQ (i:=5) sc_l_locker.nd rfl (Or.inl rfl)) (@aI _ _ _ (dB (Room.u1 hr) (mv 3) (mv 5) (aT bZ (dP Bl Ce (nP (Room.u1 hr)) (mv 3) (aA (mv 5) (aA aJ aB))) aJ) rfl))))) (@aF _ _ _ _ _ (bP Ba rfl (bW (bM (cQ8 rfl) rfl G.b_list fI (aA (mv 3) aB))) (aQ (i:=5) sc_l_locker.nd rfl (Or.inl rfl)) (@aF _ _ _ _ _ (@aP _ _ 6 _ _ _ _ sc_l_locker.nd (by rfl) (by exact (Or.inl rfl)) (dD PySem.F.plainAttrs_str PySem.F.slot_str_index PySem.F.type_str_index aQ3 fM (aA (mv 5) aB)) (by rfl) (by first | exact Or.inl rfl | exact Or.inr rfl)) (@aI _ _ _ (dB (Room.u1 hr) (mv 3) (mv 5) (bA (cZ1 rfl) rfl G.b_max bX9 (aA aJ (aA (aT jE (gI (Room.u1 hr) (mv 3) (mv 5) (λ_ _=>rfl)) (aT fK (bH cC (mv 2) (mv 6) (λ_ _=>rfl)) (@bH _ _ _ _ _ _ _ cC (@bE _ _ _ _ (aA aJ (aA aJ (aA aJ (aA aJ aB))))) (aT fK (mv 0) aJ) (λ_ _=>rfl)))) aB))) rfl)))) (@aF _ _ _ _ _ (bP Ba rfl (eY rfl G.b_range (aA aJ aB)) (aQ (i:=7) sc_l_locker.nd rfl (Or.inl rfl)) (@aI _ _ _ (dB (Room.u1 hr) (mv 3) (bH cC fM (mv 7) (λ_ _=>rfl)) (aT fK (bH cC (mv 2) (aT bZ aJ (mv 7)) (λ_ _=>rfl)) (@bH _ _ _ _ _ _ _ cC (@bE _ _ _ _ (aA aJ (aA aJ (aA aJ (aA aJ aB))))) (aT fK (aT jG (mv 0) aJ) aJ) (λ_ _=>rfl))) rfl))) (@aF _ _ _ _ _ (cT (bC vA (aT fK (aT jG (mv 0) aJ) aJ) aJ (bG _)) (@aI _ _ _ (dB (Room.u1 hr) (mv 3) (bH cC fM (aT fK (bH cC (mv 2) aJ (λ_ _=>rfl)) aJ) (λ_ _=>rfl)) (aT fK (bH cC (mv 2) aJ (λ_ _=>rfl)) aJ) rfl)) bS) (@aI _ _ _ (aV (mv 3))))))))),?_⟩
 have hll:((cws.map aZ).map V.str).length=cws.length:=by rw [Ab,Ab]
 walk_at "go"
 refine ⟨c,31,rfl,by omega,by omega,λr ns H1 hr1 s1 hl hp he=>?_⟩
 have hl31:ns.length=31:=hl
 have hlr:rdL H1 r=some (ns.map V.int):=aO he
 walk_at "go"
 intro p hpp
 have s2:=aE hpp (.dK [])
 have e2:(upd H1 p (.dK [])) p=some (.dK []):=aD
 generalize upd H1 p (.dK [])=H2 at s2 e2 ⊢
 have hp0:H p=none:=none_of s1 hpp
 have hb2:=aH (s1.trans s2) hb
 refine oR ?_
 with_reducible refine zE (λσ' H'=>∃ (v4 v5:Option V) (kvs:List (Key × V)) (f:Nat->Option Int),σ'=[some (.int c),some (.ref b),some (.ref r),some (.ref p),v4,v5,none,none]/\Same H1 H'/\H' p=some (.dK kvs)/\Lk kvs f/\(∀ c,0<=aL f c)/\(∀ c,f c≠none->bK c)/\kvs.length<=56/\∀ c,aL f c<=1000) (λσ2 H3 j3=>?_) (λN hN=>?_)
 case refine_2=>
   walk_at "go"
   refine cN (xs:=(cws.map aZ).map V.str) (λi σ H'=>∃ (v4 v5:Option V) (kvs:List (Key × V)) (f:Nat->Option Int),σ=[some (.int c),some (.ref b),some (.ref r),some (.ref p),v4,v5,none,none]/\Same H1 H'/\H' p=some (.dK kvs)/\Lk kvs f/\(∀ c,0<=aL f c)/\(∀ c,f c≠none->bK c)/\kvs.length<=7 * i/\∀ c,aL f c<=((7 * i:Nat):Int))
     ⟨_,_,[],_,rfl,s2,e2,Lk.nil,(λc=>Fn _),(λc z=>absurd rfl z),Ah _,λc=>Fn _⟩ (λi σ H' _ ⟨_,_,_,_,_,e,_⟩=>aH (s1.trans e) hb) ?_ ?_
   · rintro i x σ H4 hx ⟨v4,v5,kvs,f,rfl,s4,e4,lk,hf,hlt,hkl,hle⟩
     have hi:i < cws.length:=by have:=(Ae.mp hx).1; rw [hll] at this; exact this
     obtain ⟨cw,hcw,hm,rfl⟩:=pP hx
     obtain ⟨hc7,hcL⟩:=hL cw hm
     walk_at "go"
     refine aQJ (λj σ H'=>∃ (v5:Option V) (kvs:List (Key × V)) (f:Nat->Option Int),σ=[some (.int c),some (.ref b),some (.ref r),some (.ref p),some (.str (aZ cw)),v5,none,none]/\Same H1 H'/\H' p=some (.dK kvs)/\Lk kvs f/\(∀ c,0<=aL f c)/\(∀ c,f c≠none->bK c)/\kvs.length<=7 * i + j/\∀ c,aL f c<=((7 * i + j:Nat):Int))
       ⟨_,kvs,f,rfl,s4,e4,lk,hf,hlt,hkl,hle⟩ ?_ ?_
     · clear s4 e4 lk hf hlt hkl hle kvs f v4 v5
       rintro j d σ H5 hd ⟨v5,kvs,f,rfl,s5,e5,lk,hf,hlt,hkl,hle⟩
       have hj:j < cw.length:=(Ae.mp hd).1
       have hdL:bK d:=hcL d (Ak hd)
       walk_at "go"
       refine nW (z:=one d) (.inl e5) ?_
       rw [lk.val d,gJ]
       walk_at "go"
       refine eU (z:=one d) e5 (aY (by omega)) ?_
       refine ⟨_,_,_,rfl,aW hpp s5,aD,lk.put d _,iM hf (by have:=hf d; omega),cX4 hlt hdL,?_,tV (λc=>by have:=hle c; omega) (by have:=hle d; omega)⟩
       have:=cO kvs (Sum.inr (one d)) (.int (aL f d + 1))
       omega
     · rintro σ H5 ⟨v5,kvs,f,rfl,s5,e5,lk,hf,hlt,hkl,hle⟩
       replace hkl:kvs.length<=7 * i + cw.length:=hkl
       replace hle:∀ c,aL f c<=((7 * i + cw.length:Nat):Int):=hle
       walk_at "go"
       exact ⟨_,_,kvs,f,rfl,s5,e5,lk,hf,hlt,by omega,λc=>by have:=hle c; omega⟩
   · rintro σ H4 ⟨v4,v5,kvs,f,rfl,s4,e4,lk,hf,hlt,hkl,hle⟩
     rw [hll] at hkl hle
     exact hN _ _ ⟨v4,v5,kvs,f,rfl,s4,e4,lk,hf,hlt,by omega,λc=>by have:=hle c; omega⟩
 case refine_1=>
 obtain ⟨v4,v5,kvs,f,rfl,s3,e3,lk,hf,hlt,hkl,hle⟩:=j3
 with_reducible refine zE (λσ' H'=>∃ (v5 v6:Option V) (kvs:List (Key × V)) (f:Nat->Option Int),σ'=[some (.int c),some (.ref b),some (.ref r),some (.ref p),v4,v5,v6,none]/\Same H1 H'/\H' p=some (.dK kvs)/\Lk kvs f/\(∀ c,0<=aL f c)/\kvs.length<=56/\∀ c,aL f c<=1000) (λσ2 H4 j4=>?_) (λN hN=>?_)
 case refine_2=>
   walk_at "go"
   refine cXP (.inl e3) λl hl=>?_
   have s4:=aE hl (.lst (kvs.map λkv=>kV kv.1))
   have el4:(upd H3 l (.lst (kvs.map λkv=>kV kv.1))) l=some (.lst (kvs.map λkv=>kV kv.1)):=aD
   have e4:=s4 _ _ e3
   have nlp:l≠p:=λz=>by rw [z,e3] at hl; cases hl
   generalize upd H3 l (.lst (kvs.map λkv=>kV kv.1))=H4 at s4 el4 e4 ⊢
   have rl4:=aO el4
   walk_at "go"
   refine cN (xs:=kvs.map λkv=>kV kv.1) (λi σ H'=>∃ (v5 v6:Option V) (kws:List (Key × V)) (g:Nat->Option Int),σ=[some (.int c),some (.ref b),some (.ref r),some (.ref p),v4,v5,v6,none]/\Same H1 H'/\H' l=some (.lst (kvs.map λkv=>kV kv.1))/\H' p=some (.dK kws)/\Lk kws g/\(∀ c,0<=aL g c)/\(∀ c,f c≠none->g c≠none)/\kws.length=kvs.length/\∀ c,aL g c<=1000)
     ⟨_,_,kvs,f,rfl,s3.trans s4,el4,e4,lk,hf,(λc z=>z),rfl,hle⟩ (λi σ H' _ ⟨_,_,_,_,_,_,e,_⟩=>aO e) ?_ ?_
   · rintro i x σ H5 hx ⟨v5,v6,kws,g,rfl,s5,el5,e5,lg,hg,hgk,hkw,hge⟩
     rw [Ag] at hx
     cases ek:kvs[i]? with
     | none=>rw [ek] at hx; cases hx
     | some kv=>
       rw [ek] at hx
       have hkm:=Ak ek
       obtain ⟨d,n,hkv,hfd⟩:=lk.at_mem hkm
       subst hkv
       obtain rfl:x=V.str (one d):=(Br hx).symm
       have hdf:f d≠none:=by rw [hfd]; exact λz=>nomatch z
       have hdL:=hlt d hdf
       obtain ⟨m,hgd⟩:∃ m,g d=some m:=by
         cases e:g d with
         | none=>exact absurd e (hgk d hdf)
         | some m=>exact ⟨m,rfl⟩
       have hgn:0<=m:=by have:=hg d; unfold aL at this; rw [hgd] at this; exact this
       have hgm:m<=1000:=by have:=hge d; unfold aL at this; rw [hgd] at this; exact this
       obtain ⟨nr,inr,anr⟩:=eQ (ns:=ns) (i:=((d - 97:Nat):Int)) (by omega) (by unfold bK at hdL; omega)
       have hnr:=hp _ inr
       have lr5:=aH s5 hlr
       walk_at "go"
       refine aXV (cX6 hdL) ?_
       walk_at "go"
       refine pL (z:=one d) (.inl e5) (by rw [lg.val d,hgd]; rfl) ?_
       walk_at "go"
       refine cL lr5 anr ?_
       walk_at "go"
       refine ⟨by decide,λp6 hp6=>?_⟩
       have s6:=aE hp6 (HO.lst [V.int 1,V.int 2,V.int 3,V.int 5])
       obtain ⟨kn,hkn,akn⟩:=eQ (ns:=[1,2,3,5]) (i:=c % 4) (by omega) (by show c % 4 < 4; omega)
       have hk:1<=kn:=(by decide:∀ x∈([1,2,3,5]:List Int),1<=x) kn hkn
       have hmd:=Cv nr (show kn≠0 by omega)
       walk_at "go"
       refine cL (xs:=([1,2,3,5]:List Int).map V.int) bV akn ?_
       have e6:=s6 _ _ e5
       have el6:=s6 _ _ el5
       generalize upd H5 p6 (HO.lst [V.int 1,V.int 2,V.int 3,V.int 5])=H6 at e6 el6 s6 ⊢
       walk_at "go"
       refine eU (z:=one d) e6 (aY (by omega)) ?_
       refine ⟨_,_,_,_,rfl,aW hpp (s5.trans s6),by rw [aK nlp]; exact el6,aD,lg.put d _,iM hg (by split <;> omega),λa ha=>?_,?_,tV hge (by split <;> omega)⟩
       · by_cases e:a=d
         · rw [if_pos e]; exact λz=>nomatch z
         · rw [if_neg e]; exact hgk a ha
       · rw [<-hkw]
         exact mU (by rw [lg.val d,hgd]; exact λz=>nomatch z)
   · rintro σ H5 ⟨v5,v6,kws,g,rfl,s5,el5,e5,lg,hg,hgk,hkw,hge⟩
     exact hN _ _ ⟨v5,v6,kws,g,rfl,s5,e5,lg,hg,by omega,hge⟩
 case refine_1=>
 clear s3 e3 lk hf hlt hkl hle kvs f v5
 obtain ⟨v5,v6,kvs,f,rfl,s3,e3,lk,hf,hkl,hle⟩:=j4
 with_reducible refine zE (λσ' H'=>∃ (v7:Option V) (kvs:List (Key × V)) (f:Nat->Option Int),σ'=[some (.int c),some (.ref b),some (.ref r),some (.ref p),v4,v5,v6,v7]/\Same H1 H'/\H' p=some (.dK kvs)/\Lk kvs f/\(∀ c,0<=aL f c)/\kvs.length<=60/\∀ c,aL f c<=1000) (λσ2 H5 j5=>?_) (λN hN=>?_)
 case refine_2=>
   walk_at "go"
   refine ⟨⟨by omega,by omega⟩,?_⟩
   refine iA (λi σ H'=>∃ (v7:Option V) (kvs:List (Key × V)) (f:Nat->Option Int),σ=[some (.int c),some (.ref b),some (.ref r),some (.ref p),v4,v5,v6,v7]/\Same H1 H'/\H' p=some (.dK kvs)/\Lk kvs f/\(∀ c,0<=aL f c)/\kvs.length<=56 + i/\∀ c,aL f c<=1000)
     ⟨_,kvs,f,rfl,s3,e3,lk,hf,hkl,hle⟩ ?_ ?_
   · clear s3 e3 lk hf hkl hle kvs f
     rintro i σ H5 hi ⟨v7,kvs,f,rfl,s5,e5,lk,hf,hkl,hle⟩
     have hi4:i < 4:=hi
     have lr5:=aH s5 hlr
     obtain ⟨nr,inr,anr⟩:=eQ (ns:=ns) (i:=23 + (0 + (i:Int))) (by omega) (by omega)
     have hnr:=hp _ inr
     walk_at "go"
     refine cL lr5 anr ?_
     walk_at "go"
     refine ⟨by decide,λp6 hp6=>?_⟩
     have s6:=aE hp6 (HO.lst [V.int 1,V.int 2,V.int 3,V.int 4])
     obtain ⟨kn,hkn,akn⟩:=eQ (ns:=[1,2,3,4]) (i:=c / 4 % 4) (by omega) (by show c / 4 % 4 < 4; omega)
     have hk:1<=kn:=(by decide:∀ x∈([1,2,3,4]:List Int),1<=x) kn hkn
     walk_at "go"
     refine cL (xs:=([1,2,3,4]:List Int).map V.int) bV akn ?_
     have e6:=s6 _ _ e5
     generalize upd H5 p6 (HO.lst [V.int 1,V.int 2,V.int 3,V.int 4])=H6 at e6 s6 ⊢
     have y0:=Cv nr (show kn≠0 by omega)
     have y1:=Cs nr (show 0 < kn by omega)
     have hk4:kn<=4:=(by decide:∀ x∈([1,2,3,4]:List Int),x<=4) kn hkn
     walk_at "go"
     refine jA (by decide) (by rw [show (0 + (i:Int))=((i:Nat):Int) by omega]; exact aXZ hi4) ?_
     walk_at "go"
     refine eU (z:=one (49 + i)) e6 (aY (by omega)) ?_
     refine ⟨_,_,_,rfl,aW hpp (s5.trans s6),aD,lk.put (49 + i) _,iM hf y0,?_,tV hle (by omega)⟩
     have:=cO kvs (Sum.inr (one (49 + i))) (.int (nr % kn))
     omega
   · rintro σ H5 ⟨v7,kvs,f,rfl,s5,e5,lk,hf,hkl,hle⟩
     exact hN _ _ ⟨v7,kvs,f,rfl,s5,e5,lk,hf,hkl,hle⟩
 case refine_1=>
 clear s3 e3 lk hf hkl hle kvs f
 obtain ⟨v7,kvs,f,rfl,s5,e5,lk,hf,hkl,hle⟩:=j5
 have lr5:=aH s5 hlr
 walk_at "go"
 refine gD (λhc=>?_) (λhc=>?_)
 · obtain ⟨n7,i7,a7⟩:=eQ (ns:=ns) (i:=27) (by omega) (by omega)
   obtain ⟨n8,i8,a8⟩:=eQ (ns:=ns) (i:=28) (by omega) (by omega)
   have y0:=Cv n8 (show (3:Int)≠0 by decide)
   have y1:=Cs n8 (show (0:Int) < 3 by decide)
   have z0:=Cv n7 (show (23:Int)≠0 by decide)
   have z1:=Cs n7 (show (0:Int) < 23 by decide)
   have e1:=aXN (k:=(n7 % 23).toNat) (by omega)
   rw [show (((n7 % 23).toNat:Nat):Int)=n7 % 23 by omega] at e1
   walk_at "go"
   refine cL lr5 a8 ?_
   walk_at "go"
   refine cL lr5 a7 ?_
   walk_at "go"
   refine jA (by decide) e1 ?_
   walk_at "go"
   refine eU (z:=one (97 + (n7 % 23).toNat)) e5 (aY (by omega)) ?_
   walk_at "go"
   refine q p _ _ _ hp0 (s1.trans (aW hpp s5)) aD (lk.put _ _) (λc=>⟨iM hf y0 c,tV hle (by omega) c⟩) ?_
   have:=cO kvs (Sum.inr (one (97 + (n7 % 23).toNat))) (.int (n8 % 3))
   omega
 · walk_at "go"
   exact q p kvs f _ hp0 (s1.trans s5) e5 lk (λc=>⟨hf c,hle c⟩) (by omega)
def iU:Sp:=λvs H Q _=>∃ (cw:List Nat) (k:Nat) (p:Int),vs=[.str (aZ cw),.int p]/\p=(k:Int) + 1/\k < cw.length/\cw.length<=7/\
 ∀ (r:Addr) (H':Hp),H r=none->Same H H'->H' r=some (.lst (((chs cw k).map one).map V.str))->Q (.ref r) H'
theorem sc_l_choices:FnScope ["_law_word_here", "_law_place", "_law_found", "_law_n"] ["_law_word_here", "_law_place"] (aG eE):=⟨rfl,rfl,rfl,by decide +kernel,rfl,by decide +kernel,by decide +kernel⟩
theorem uS {Zo Zz Zr Zx Zs Zp Zu Zw Zy Zt Zv Zq:Addr} {f:Addr} {fd:FuncData} (F:Fun K "_law_choices" "_law_choices" eE f fd) (G:Gs K mg Zo Zz Zr Zx Zs Zp Zu Zw Zy Zt Zv Zq)  : FnOk P w K mg base CX0 1 f fd ["_law_word_here", "_law_place"] iU:=by
 refine F.ok sc_l_choices (λvs H Q E h=>?_) (λcdv A outer s H vs Q E hr h=>?_)
 · obtain ⟨cw,k,p,rfl,_⟩:=h; rfl
 obtain ⟨cw,k,pl,rfl,hpl,hk,h7,q⟩:=h
 refine ⟨_,(@aF _ _ _ _ _ (@aP _ _ 2 _ _ _ _ sc_l_choices.nd (by rfl) (by exact (Or.inl rfl)) (bE (aA (bH cC (mv 0) (aT jE (mv 1) aJ) (λ_ _=>rfl)) aB)) (by rfl) (by first | exact Or.inl rfl | exact Or.inr rfl)) (@aF _ _ _ _ _ (bP Ba rfl (sG rfl G.b_range (aA aJ (aA (bA (cZY rfl) rfl G.b_min bZ2 (aA (mv 1) (aA aJ aB))) aB))) (aQ (i:=3) sc_l_choices.nd rfl (Or.inl rfl)) (@aI _ _ _ (cT (bC vA (bH cC (mv 0) (aT jE (mv 3) aJ) (λ_ _=>rfl)) (bH cC (mv 0) (aT jE (mv 1) aJ) (λ_ _=>rfl)) (bG _)) (@aI _ _ _ (cK (dD Bq Cp Cq qN (mv 2) (aA (bH cC fM (aT jE (mv 3) aJ) (λ_ _=>rfl)) aB)))) bS))) (@aI _ _ _ (aV (mv 2))))),?_⟩
 have hwl:(aZ cw).length=cw.length:=eT cw
 walk_at "go"
 refine jA (by rw [hwl]; exact bQ (by omega)) (mC (k:=k) (by omega) hk) ?_
 walk_at "go"
 refine ⟨by show 1<=sizeLine; decide,λp hp=>?_⟩
 walk_at "go"
 have em:(if (5:Int) < pl then 5 else pl)=1 + ((min k 4:Nat):Int):=by split <;> omega
 rw [em]
 refine ⟨⟨by omega,by omega,by omega,by omega⟩,?_⟩
 rw [show (1 + ((min k 4:Nat):Int) - 1).toNat=min k 4 by omega]
 refine iA (λi σ H'=>∃ v,σ=[some (.str (aZ cw)),some (.int pl),some (.ref p),v]/\Same H H'/\H' p=some (.lst (((cw.getD k 0 :: (List.range i).filterMap (chF cw k)).map one).map V.str)))
   ⟨none,rfl,aE hp _,aD⟩ ?_ ?_
 · rintro i σ H' hi ⟨v,rfl,sm,hH⟩
   have hi2:i < min k 4:=hi
   have hm:=bI hH
   have hlen:((((cw.getD k 0 :: (List.range i).filterMap (chF cw k)).map one).map V.str)).length < sizeLine:=by
     have:=Da (chF cw k) (List.range i)
     rw [Cg] at this
     rw [Ab,Ab,Ay]
     exact aY (by omega)
   walk_at "go"
   refine jA (by rw [hwl]; exact bQ (by omega)) (mC (k:=i) (by omega) (by omega)) ?_
   walk_at "go"
   refine jA (by rw [hwl]; exact bQ (by omega)) (mC (k:=k) (by omega) hk) ?_
   walk_at "go"
   rw [show decide (({ cps:=#[cw.getD i 0] }:Str)={ cps:=#[cw.getD k 0] })=decide (cw.getD i 0=cw.getD k 0) from uX _ _]
   refine gD (λhc=>?_) (λhc=>?_)
   · have he:=Bf hc
     walk_at "go"
     refine jA (by decide) (by rw [show 1 + (i:Int) - 1=(i:Int) by omega]; exact aXZ (k:=i) (by omega)) ?_
     walk_at "go"
     refine ⟨_,rfl,aW hp sm,?_⟩
     rw [aD,qU (F:=chF cw k) (if_pos he),<-List.cons_append,Al,Al]
     rfl
   · have he:=Bx (Bt.mpr hc)
     walk_at "go"
     refine ⟨_,rfl,sm,?_⟩
     rw [hH,qZ (F:=chF cw k) (if_neg he)]
 · rintro σ H' ⟨v,rfl,sm,hH⟩
   walk_at "go"
   exact q p H' hp sm hH
theorem aZQ {g:TG} {tests:TT} {te:TE} {σ0:St} {Q:VK} {H1:Hp} {n:Nat} {lo:Int} (hl:n < sizeLine)
   (hs:∀ (i:Nat) Hc (A:VK) (B:Hp->Prop),i < n->Same H1 Hc->(∀ (m:Int) Hd,Same Hc Hd->A (.int m) Hd)->g (.int (lo + i)) σ0 Hc λσ2 H2=>Wk σ0 σ2/\tests σ2 H2 λb H3=>if b=true then te σ2 H3 A else B H3)
   (fin:∀ D Hd (ms:List Int),H1 D=none->Same H1 Hd->Hd D=some (.lst (ms.map V.int))->ms.length=n->Q (.ref D) Hd):dZ g tests te σ0 Q (Itr lo n) H1:=by
 refine gA (n:=n) (λD i ys Hc=>Same H1 Hc/\∃ ms:List Int,ys=ms.map V.int/\ms.length=i) hl (λD hD=>⟨aE hD _,[],rfl,rfl⟩) (λD i ys Hc _ r h=>h) (λD ys Hc _ r=>Ah n) ?_ ?_
 · rintro D i ys Hc x H' A B hD hi ⟨sm,ms,rfl,hm⟩ hDc ⟨rfl,rfl⟩ ha' hb
   refine hs i H' A B hi sm λm Hd sd=>?_
   exact ha' _ _ (sd _ _ hDc) ⟨aW hD (sm.trans sd),ms ++ [m],by rw [Al]; rfl,by rw [Aj,hm]; rfl⟩
 · rintro D ys Hc hD ⟨sm,ms,rfl,hm⟩ hDc _
   exact fin D Hc ms hD sm hDc hm
def qC:Sp:=λvs H Q _=>∃ (cw:List Nat) (c:Int),vs=[.str (aZ cw),.int c]/\1<=cw.length/\cw.length<=7/\(∀ d∈cw,bK d)/\
 ∀ (r:Addr) (cs:List Nat) (H':Hp),H r=none->Same H H'->H' r=some (.lst ((cs.map one).map V.str))->cF (cs.map one)=true->Q (.ref r) H'
theorem sc_l_hoist:FnScope ["_law_word_here", "_law_cell_here", "_law_some", "_law_hoist_here", "_law_k", "_law_choices_here"] ["_law_word_here", "_law_cell_here"] (aG fW):=⟨rfl,rfl,rfl,by decide +kernel,rfl,by decide +kernel,by decide +kernel⟩
theorem yN {Zo Zz Zr Zx Zs Zp Zu Zw Zy Zt Zv Zq:Addr} {f:Addr} {fd:FuncData} (F:Fun K "_law_hoist" "_law_hoist" fW f fd) (G:Gs K mg Zo Zz Zr Zx Zs Zp Zu Zw Zy Zt Zv Zq) (c_l_stream:Cal P w K mg base 1 "_law_stream" ["_law_cell_here", "_law_many"] gO) (c_l_choices:Cal P w K mg base 1 "_law_choices" ["_law_word_here", "_law_place"] iU):FnOk P w K mg base CX0 2 f fd ["_law_word_here", "_law_cell_here"] qC:=by
 refine F.ok sc_l_hoist (λvs H Q E h=>?_) (λcdv A outer s H vs Q E hr h=>?_)
 · obtain ⟨cw,c,rfl,_⟩:=h; rfl
 obtain ⟨cw,c,rfl,h1,h7,hL,q⟩:=h
 refine ⟨_,(@aF _ _ _ _ _ (@aP _ _ 2 _ _ _ _ sc_l_hoist.nd (by rfl) (by exact (Or.inl rfl)) (aX c_l_stream hr (by decide) rfl (aA (mv 1) (aA aJ aB))) (by rfl) (by first | exact Or.inl rfl | exact Or.inr rfl)) (@aF _ _ _ _ _ (@aP _ _ 3 _ _ _ _ sc_l_hoist.nd (by rfl) (by exact (Or.inl rfl)) (bE aB) (by rfl) (by first | exact Or.inl rfl | exact Or.inr rfl)) (@aF _ _ _ _ _ (bP Ba rfl (eY rfl G.b_range (aA (bA gQ rfl G.b_len dE (aA (mv 0) aB)) aB)) (aQ (i:=4) sc_l_hoist.nd rfl (Or.inl rfl)) (@aF _ _ _ _ _ (@aP _ _ 5 _ _ _ _ sc_l_hoist.nd (by rfl) (by exact (Or.inl rfl)) (aX c_l_choices hr (by decide) rfl (aA (mv 0) (aA (aT bZ (mv 4) aJ) aB))) (by rfl) (by first | exact Or.inl rfl | exact Or.inr rfl)) (@aI _ _ _ (cK (dD Bq Cp Cq qN (mv 3) (aA (bH cC (mv 5) (aT fK (bH cC (mv 2) (mv 4) (λ_ _=>rfl)) (bA gQ rfl G.b_len dE (aA (mv 5) aB))) (λ_ _=>rfl)) aB)))))) (@aI _ _ _ (aV (mv 3)))))),?_⟩
 have hwl:(aZ cw).length=cw.length:=eT cw
 walk_at "go"
 refine ⟨c,7,rfl,by omega,by omega,λr ns H1 hr1 s1 hl hp he=>?_⟩
 have hl7:ns.length=7:=hl
 have hlr:rdL H1 r=some (ns.map V.int):=aO he
 walk_at "go"
 refine ⟨by decide,λp hpp=>?_⟩
 have hp0:=none_of s1 hpp
 walk_at "go"
 rw [hwl]
 refine ⟨⟨by omega,by omega⟩,?_⟩
 refine iA (λi σ H'=>∃ (cs:List Nat) (v4 v5:Option V),σ=[some (.str (aZ cw)),some (.int c),some (.ref r),some (.ref p),v4,v5]/\Same H1 H'/\H' p=some (.lst ((cs.map one).map V.str))/\cs.length=i/\∀ k,k < i->cs.getD k 0∈chs cw k)
   ⟨[],_,_,rfl,aE hpp _,aD,rfl,λk hk=>absurd hk (Fy _)⟩ ?_ ?_
 · rintro i σ H2 hi ⟨cs,v4,v5,rfl,s2,e2,hcl,hch⟩
   have hi7:i < cw.length:=by omega
   walk_at "go"
   refine ⟨cw,i,_,rfl,by omega,hi7,h7,λr3 H3 hr3 s3 e3=>?_⟩
   have rl3:=aH (s2.trans s3) hlr
   have rc3:=aO e3
   have e23:=s3 _ _ e2
   have hm3:=bI e23
   have hll:((cs.map one).map V.str).length < sizeLine:=aY (by rw [Ab,Ab]; omega)
   have hcp:0 < (chs cw i).length:=List.length_pos_of_mem (ch_iff.mpr (.inl rfl))
   have hcll:(((chs cw i).map one).map V.str).length=(chs cw i).length:=by rw [Ab,Ab]
   obtain ⟨nk,ik,ak⟩:=eQ (ns:=ns) (i:=0 + (i:Int)) (by omega) (by omega)
   walk_at "go"
   refine cL rl3 ak ?_
   walk_at "go"
   rw [hcll]
   have z0:=Cv nk (show ((chs cw i).length:Int)≠0 by omega)
   have z1:=Cs nk (show (0:Int) < ((chs cw i).length:Int) by omega)
   obtain ⟨u,eu⟩:∃ u:Nat,nk % ((chs cw i).length:Int)=((u:Nat):Int):=⟨(nk % ((chs cw i).length:Int)).toNat,by omega⟩
   rw [eu] at z0 z1 ⊢
   have hu:u < (chs cw i).length:=by omega
   obtain ⟨d,hd⟩:∃ d,(chs cw i)[u]?=some d:=⟨_,Aa hu⟩
   refine cL rc3 (eO (by rw [Ag,Ag,hd]; rfl)) ?_
   walk_at "go"
   refine ⟨cs ++ [d],_,_,rfl,aW hpp (s2.trans s3),by rw [aD,Al,Al]; rfl,by rw [Aj,hcl]; rfl,λk hk=>?_⟩
   by_cases hki:k < i
   · rw [Ad,As (by omega),<-Ad]
     exact hch k hki
   · have e:k=i:=by omega
     rw [e,Ad,Ax (by omega),hcl,Fq]
     exact Ak hd
 · rintro σ H2 ⟨cs,v4,v5,rfl,s2,e2,hcl,hch⟩
   have hcl':cs.length=cw.length:=by rw [hcl]; omega
   walk_at "go"
   exact q p cs H2 hp0 (s1.trans s2) e2 (wZ hL (by omega) (by omega) (by omega) λk hk=>hch k (by omega))
def kS:Sp:=λvs H Q _=>∃ (b:Addr) (ns:List Int) (m:Int),vs=[.ref b,.int m]/\rdL H b=some (ns.map V.int)/\ns.length<=6/\
 ∀ (r:Addr) (us:List V) (hs:List (Option (List Nat))) (H':Hp),H r=none->Same H H'->H' r=some (.lst us)->HalsAt H' us hs->HalOk hs->hs.length=ns.length->Q (.ref r) H'
theorem HalOk.snoc {hs:List (Option (List Nat))} (u:HalOk hs) {h:Option (List Nat)} (k:∀ cs,h=some cs->cF (cs.map one)=true):HalOk (hs ++ [h]):=λcs hcs=>by
 rcases Bi.mp hcs with e | e
 · exact u cs e
 · exact k cs (Aw.mp e).symm
theorem sc_l_halyards:FnScope ["_law_cells", "_law_spread", "_law_found", "_law_cell_here"] ["_law_cells", "_law_spread"] (aG dL):=⟨rfl,rfl,rfl,by decide +kernel,rfl,by decide +kernel,by decide +kernel⟩
theorem qV {Zo Zz Zr Zx Zs Zp Zu Zw Zy Zt Zv Zq:Addr} {f:Addr} {fd:FuncData} (F:Fun K "_law_halyards" "_law_halyards" dL f fd) (G:Gs K mg Zo Zz Zr Zx Zs Zp Zu Zw Zy Zt Zv Zq) (c_l_hoist:Cal P w K mg base 2 "_law_hoist" ["_law_word_here", "_law_cell_here"] qC) (c_l_word:Cal P w K mg base 2 "_law_word" ["_law_cell_here", "_law_spread", "_law_longest"] mW):FnOk P w K mg base CX0 3 f fd ["_law_cells", "_law_spread"] kS:=by
 refine F.ok sc_l_halyards (λvs H Q E h=>?_) (λcdv A outer s H vs Q E hr h=>?_)
 · obtain ⟨b,ns,m,rfl,_⟩:=h; rfl
 obtain ⟨b,ns,m,rfl,hb,h6,q⟩:=h
 refine ⟨_,(@aF _ _ _ _ _ (@aP _ _ 2 _ _ _ _ sc_l_halyards.nd (by rfl) (by exact (Or.inl rfl)) (bE aB) (by rfl) (by first | exact Or.inl rfl | exact Or.inr rfl)) (@aF _ _ _ _ _ (bP Ba rfl (bW (mv 0)) (aQ (i:=3) sc_l_halyards.nd rfl (Or.inl rfl)) (@aI _ _ _ (cT (bC vA (aT fK (mv 3) aJ) aJ (bG _)) (@aI _ _ _ (cK (dD Bq Cp Cq qN (mv 2) (aA cV aB)))) (@aI _ _ _ (cK (dD Bq Cp Cq qN (mv 2) (aA (aX c_l_hoist hr (by decide) rfl (aA (aX c_l_word hr (by decide) rfl (aA (aT jG (mv 3) aJ) (aA (mv 1) (aA aJ aB)))) (aA (aT jG (mv 3) aJ) aB))) aB))))))) (@aI _ _ _ (aV (mv 2))))),?_⟩
 have hnl:(ns.map V.int).length=ns.length:=Ab ..
 walk_at "go"
 refine ⟨by decide,λp hpp=>?_⟩
 walk_at "go"
 refine cN (xs:=ns.map V.int) (λi σ H'=>∃ (us:List V) (hs:List (Option (List Nat))) (v3:Option V),σ=[some (.ref b),some (.int m),some (.ref p),v3]/\Same H H'/\H' p=some (.lst us)/\HalsAt H' us hs/\HalOk hs/\hs.length=i)
   ⟨[],[],_,rfl,aE hpp _,aD,HalsAt.nil,(λc hc=>nomatch hc),rfl⟩ (λi σ H' _ ⟨_,_,_,_,e,_⟩=>aH e hb) ?_ ?_
 · rintro i x σ H2 hx ⟨us,hs,v3,rfl,s2,e2,hat,ok,hlen⟩
   have hi:i < ns.length:=by have:=(Ae.mp hx).1; rw [hnl] at this; exact this
   obtain ⟨c,_,rfl⟩:=zY hx
   have hul:us.length < sizeLine:=aY (by rw [hat.len]; omega)
   walk_at "go"
   refine gD (λhc=>?_) (λhc=>?_)
   · have hm2:=bI e2
     walk_at "go"
     exact ⟨_,hs ++ [none],_,rfl,aW hpp s2,aD,(hat.put e2).snoc rfl,ok.snoc (λcs e=>nomatch e),by rw [Aj,hlen]; rfl⟩
   · walk_at "go"
     refine ⟨_,m,4,rfl,by omega,by omega,λcw H3 s3 h1 h4 hL=>?_⟩
     walk_at "go"
     refine ⟨cw,_,rfl,h1,by omega,hL,λl cs H4 hl s4 el hb4=>?_⟩
     have s24:=s3.trans s4
     have e4:=s24 _ _ e2
     have hm4:=bI e4
     have hat4:=hat.keep s24
     have nlp:l≠p:=λz=>by rw [z,s3 _ _ e2] at hl; cases hl
     walk_at "go"
     exact ⟨_,hs ++ [some cs],_,rfl,aW hpp (s2.trans s24),aD,(hat4.put e4).snoc ⟨l,rfl,by rw [aK nlp]; exact el⟩,ok.snoc (λcs' e=>by cases e; exact hb4),by rw [Aj,hlen]; rfl⟩
 · rintro σ H2 ⟨us,hs,v3,rfl,s2,e2,hat,ok,hlen⟩
   rw [hnl] at hlen
   walk_at "go"
   exact q p us hs H2 hpp s2 e2 hat ok hlen
def qL (K:PySem.W.Frag):Sp:=λvs H Q _=>∃ (a:Addr) (ns:List Int) (st:Int),vs=[.ref a,.int st]/\SqL K H a (ns.map V.int)/\0<=st/\st<=1000/\
 ∀ (r l b:Addr) (kvs:List (Key × V)) (f:Nat->Option Int) (us:List V) (hs:List (Option (List Nat))) (n:Nat) (cw:List Nat) (H':Hp),Same H H'->H' r=some (.lst [.ref l,.ref b,.int ((n:Nat):Int),.str (aZ cw)])->H' b=some (.lst us)->iR H' l b kvs f us hs n cw->kvs.length<=100->(∀ c,aL f c<=1000)->Q (.ref r) H'
theorem sc_l_drawn:FnScope ["_law_script", "_law_start", "_law_cell_here", "_law_many", "_law_halyards_here", "_law_word_here", "_law_number"] ["_law_script", "_law_start"] (aG fD):=⟨rfl,rfl,rfl,by decide +kernel,rfl,by decide +kernel,by decide +kernel⟩
theorem zC {Zo Zz Zr Zx Zs Zp Zu Zw Zy Zt Zv Zq:Addr} {f:Addr} {fd:FuncData} (F:Fun K "_law_drawn" "_law_drawn" fD f fd) (G:Gs K mg Zo Zz Zr Zx Zs Zp Zu Zw Zy Zt Zv Zq) (c_l_cell:Cal P w K mg base 1 "_law_cell" ["_law_script", "_law_k"] (sT K)) (c_l_halyards:Cal P w K mg base 3 "_law_halyards" ["_law_cells", "_law_spread"] kS) (c_l_word:Cal P w K mg base 2 "_law_word" ["_law_cell_here", "_law_spread", "_law_longest"] mW) (c_l_locker:Cal P w K mg base 2 "_law_locker" ["_law_cell_here", "_law_words_here"] nV):FnOk P w K mg base CX0 4 f fd ["_law_script", "_law_start"] (qL K):=by
 refine F.ok sc_l_drawn (λvs H Q E h=>?_) (λcdv A outer s H vs Q E hr h=>?_)
 · obtain ⟨a,ns,st,rfl,_⟩:=h; rfl
 obtain ⟨a,ns,st,rfl,hS,h0,h1,q⟩:=h
 refine ⟨_,(@aF _ _ _ _ _ (@aP _ _ 2 _ _ _ _ sc_l_drawn.nd (by rfl) (by exact (Or.inl rfl)) (aX c_l_cell hr (by decide) rfl (aA (mv 0) (aA (mv 1) aB))) (by rfl) (by first | exact Or.inl rfl | exact Or.inr rfl)) (@aF _ _ _ _ _ (@aP _ _ 3 _ _ _ _ sc_l_drawn.nd (by rfl) (by exact (Or.inl rfl)) (aT bZ aJ (aT fK (mv 2) aJ)) (by rfl) (by first | exact Or.inl rfl | exact Or.inr rfl)) (@aF _ _ _ _ _ (@aP _ _ 4 _ _ _ _ sc_l_drawn.nd (by rfl) (by exact (Or.inl rfl)) (aX c_l_halyards hr (by decide) rfl (aA (dC rfl (eY rfl G.b_range (aA (mv 3) aB)) (fZ (N:=["_law_k", "_law_script", "_law_start"]) ["_law_script", "_law_start", "_law_cell_here", "_law_many", "_law_halyards_here", "_law_word_here", "_law_number"] (aG fD) [none,some 0,some 1] rfl rfl rfl (λx h=>cA h) (by decide +kernel)) (by decide +kernel) rfl (by decide +kernel) (λC s₀ H₀ ex=>(aQ (i:=0) (show List.Nodup (["_law_k", "_law_script", "_law_start"]:List Str) by decide +kernel) rfl (Or.inl rfl))) (λC s₀ H₀ ex=>gS) (λC s₀ H₀ ex=>(aX c_l_cell hr (by decide) rfl (aA (mv 1) (aA (aT bZ (aT bZ (mv 2) aJ) (mv 0)) aB))))) (aA (aT jG (mv 2) aJ) aB))) (by rfl) (by first | exact Or.inl rfl | exact Or.inr rfl)) (@aF _ _ _ _ _ (@aP _ _ 5 _ _ _ _ sc_l_drawn.nd (by rfl) (by exact (Or.inl rfl)) (aX c_l_word hr (by decide) rfl (aA (aX c_l_cell hr (by decide) rfl (aA (mv 0) (aA (aT bZ (mv 1) aJ) aB))) (aA (aT jG (mv 2) aJ) (aA aJ aB)))) (by rfl) (by first | exact Or.inl rfl | exact Or.inr rfl)) (@aF _ _ _ _ _ (@aP _ _ 6 _ _ _ _ sc_l_drawn.nd (by rfl) (by exact (Or.inl rfl)) (aT fK (aX c_l_cell hr (by decide) rfl (aA (mv 0) (aA (aT bZ (mv 1) aJ) aB))) (mv 3)) (by rfl) (by first | exact Or.inl rfl | exact Or.inr rfl)) (@aI _ _ _ (aV (@bE _ _ _ _ (aA (aX c_l_locker hr (by decide) rfl (aA (aX c_l_cell hr (by decide) rfl (aA (mv 0) (aA (aT bZ (mv 1) aJ) aB))) (aA (bE (aA (mv 5) aB)) aB))) (aA (mv 4) (aA (mv 6) (aA (mv 5) aB)))))))))))),?_⟩
 walk_at "go"
 refine ⟨a,ns,_,rfl,hS,by omega,λn1=>?_⟩
 have y0:=Cv n1 (show (6:Int)≠0 by decide)
 have y1:=Cs n1 (show (0:Int) < 6 by decide)
 walk_at "go"
 refine ⟨⟨by omega,by omega⟩,?_⟩
 refine aZQ (aY (by omega)) (λi Hc A B hi sm hA=>?_) (λD Hd ms hD sD hd hml=>?_)
 · walk_at "go"
   refine ⟨Wk.set rfl (Wk.refl _),?_⟩
   walk_at "go"
   exact ⟨a,ns,_,rfl,sm.seq hS,by omega,λn2=>hA n2 _ (Same.refl _)⟩
 walk_at "go"
 refine ⟨D,ms,_,rfl,aO hd,by omega,λb us hs H2 hb s2 e2 hat ok hlen=>?_⟩
 have s02:=sD.trans s2
 walk_at "go"
 refine ⟨a,ns,_,rfl,s02.seq hS,by omega,λn2=>?_⟩
 walk_at "go"
 refine ⟨_,_,7,rfl,by omega,by omega,λcw H3 s3 h1' h7 hL=>?_⟩
 have s03:=s02.trans s3
 walk_at "go"
 refine ⟨a,ns,_,rfl,s03.seq hS,by omega,λn3=>?_⟩
 walk_at "go"
 have z0:=Cv n3 (show 1 + n1 % 6≠0 by omega)
 have z1:=Cs n3 (show 0 < 1 + n1 % 6 by omega)
 obtain ⟨n,hn⟩:∃ n:Nat,n3 % (1 + n1 % 6)=((n:Nat):Int):=⟨(n3 % (1 + n1 % 6)).toNat,by omega⟩
 rw [hn] at z0 z1 ⊢
 refine ⟨a,ns,_,rfl,s03.seq hS,by omega,λn4=>?_⟩
 walk_at "go"
 refine ⟨by show 1<=sizeLine; decide,λp4 hp4=>?_⟩
 have s4:=aE hp4 (.lst [V.str (aZ cw)])
 have e4:rdL (upd H3 p4 (.lst [V.str (aZ cw)])) p4=some ((([cw]:List (List Nat)).map aZ).map V.str):=bV
 generalize upd H3 p4 (.lst [V.str (aZ cw)])=H4 at s4 e4 ⊢
 walk_at "go"
 refine ⟨n4,p4,[cw],rfl,e4,by show 1<=8; decide,λc hc=>by rw [Aw.mp hc]; exact ⟨by omega,hL⟩,λl kvs f H5 hl s5 el lk hf hkl=>?_⟩
 walk_at "go"
 refine ⟨by show 4<=sizeLine; decide,λr hr=>?_⟩
 have s6:=aE hr (.lst [.ref l,.ref b,.int ((n:Nat):Int),.str (aZ cw)])
 have s26:=s3.trans (s4.trans (s5.trans s6))
 exact q r l b kvs f us hs n cw _ (s02.trans s26) aD (s26 _ _ e2) ⟨s6 _ _ el,lk,λc=>(hf c).1,aO (s26 _ _ e2),hat.keep s26,ok,by omega,by omega,h1',by omega,hL⟩ hkl λc=>(hf c).2
def fO (hs:List (Option (List Nat))) (n:Nat):List Nat:=(hs.getD n none).getD []
theorem wU {hs:List (Option (List Nat))} (ok:HalOk hs) (n:Nat):(fO hs n).length<=7:=by
 unfold fO
 cases e:hs.getD n none with
 | none=>exact Ci _
 | some cs=>
   have hm:some cs∈hs:=by
     rw [Ad] at e
     cases e2:hs[n]? with
     | none=>rw [e2] at e; cases e
     | some h=>
       rw [e2] at e
       rw [<-show h=some cs from e]
       exact Ak e2
   have h7:=fF (ok cs hm)
   rw [Ab] at h7
   exact h7.2
theorem cJS {σ:St} {H1:Hp} {Q:VK} {v:V} {h:Option (List Nat)} (hv:HalV H1 v h) (q:∀ p H2,Same H1 H2->rdL H2 p=some (((h.getD []).map one).map V.str)->Q (.ref p) H2) :
   (v=.non/\bQP wA σ H1 Q)\/∃ (p:Addr) (xs:List V),v=.ref p/\rdL H1 p=some xs/\(xs≠[]->Q (.ref p) H1)/\(xs=[]->bQP wA σ H1 Q):=by
 have e0:h.getD []=[]->bQP wA σ H1 Q:=λe=>⟨Ci _,λp hp=>q p _ (aE hp _) (by rw [e]; exact bV)⟩
 cases h with
 | none=>exact .inl ⟨hv,e0 rfl⟩
 | some cs=>
   obtain ⟨p,e,hp⟩:=hv
   exact .inr ⟨p,_,e,aO hp,λ_=>q p H1 (Same.refl _) (aO hp),λz=>e0 (by cases cs with | nil=>rfl | cons a r=>cases z)⟩
theorem xJ {f:Nat->Option Int} {d c:Nat} {x:Int}:aL (λe=>if e=d then some x else f e) c=if c=d then x else aL f c:=by
 unfold aL
 dsimp only
 by_cases e:c=d
 · rw [if_pos e,if_pos e]; rfl
 · rw [if_neg e,if_neg e]
theorem aX6 (xs ys:List Nat) (c:Nat):cnt (xs ++ ys) c=cnt xs c + cnt ys c:=by
 unfold cnt
 rw [Gc]
 exact Int.natCast_add ..
theorem xP {cs:List Nat} {c:Nat} (h:c ∉ cs):cnt cs c=0:=by
 unfold cnt
 rw [List.countP_eq_zero.mpr λx hx z=>h (by rw [<-eq_of_beq z]; exact hx)]
 rfl
theorem wW {F:List Nat} {i:Nat} {x:V} (h:((F.map one).map V.str)[i]?=some x):∃ c,F[i]?=some c/\x=V.str (one c):=by
 rw [Ag,Ag] at h
 cases e:F[i]? with
 | none=>rw [e] at h; cases h
 | some c=>rw [e] at h; cases h; exact ⟨c,rfl,rfl⟩
theorem uK {hs:List (Option (List Nat))} {ks:List Nat} {i k:Nat} (h:ks[i]?=some k):bF hs (ks.take (i + 1))=bF hs (ks.take i) ++ fO hs k:=by
 unfold bF
 rw [Az,h,Dy]
 show _ ++ ((hs.getD k none).getD [] ++ [])=_
 rw [Bu]
 rfl
def rQ:Sp:=λvs H Q _=>∃ (a b l:Addr) (kvs:List (Key × V)) (f:Nat->Option Int) (us:List V) (hs:List (Option (List Nat))) (ks:List Nat),vs=[.ref a,.ref b,.ref l]/\H a=some (.dK kvs)/\Lk kvs f/\kvs.length<=500/\rdL H b=some us/\HalsAt H us hs/\HalOk hs/\rdL H l=some (ks.map λk=>V.int ((k:Nat):Int))/\ks.length<=6/\(∀ k∈ks,k < hs.length)/\
 ∀ (r:Addr) (kws:List (Key × V)) (g:Nat->Option Int) (H':Hp),H r=none->Same H H'->H' r=some (.dK kws)->Lk kws g->(∀ c,aL g c=aL f c + cnt (bF hs ks) c)->Q (.ref r) H'
theorem sc_l_pool:FnScope ["_law_locker_here", "_law_halyards_here", "_law_numbers", "_law_pool_here", "_law_k", "_law_flag"] ["_law_locker_here", "_law_halyards_here", "_law_numbers"] (aG iB):=⟨rfl,rfl,rfl,by decide +kernel,rfl,by decide +kernel,by decide +kernel⟩
theorem aJS {Zo Zz Zr Zx Zs Zp Zu Zw Zy Zt Zv Zq:Addr} {f:Addr} {fd:FuncData} (F:Fun K "_law_pool" "_law_pool" iB f fd) (G:Gs K mg Zo Zz Zr Zx Zs Zp Zu Zw Zy Zt Zv Zq)  : FnOk P w K mg base CX0 1 f fd ["_law_locker_here", "_law_halyards_here", "_law_numbers"] rQ:=by
 refine F.ok sc_l_pool (λvs H Q E h=>?_) (λcdv A outer s H vs Q E hr h=>?_)
 · obtain ⟨a,b,l,kvs,f,us,hs,ks,rfl,_⟩:=h; rfl
 obtain ⟨a,b,l,kvs,f,us,hs,ks,rfl,ha,lk,hkl,hb,hat,ok,hl,hks,hkk,q⟩:=h
 refine ⟨_,(@aF _ _ _ _ _ (@aP _ _ 3 _ _ _ _ sc_l_pool.nd (by rfl) (by exact (Or.inl rfl)) (bM pS rfl G.b_dict uH (aA (mv 0) aB)) (by rfl) (by first | exact Or.inl rfl | exact Or.inr rfl)) (@aF _ _ _ _ _ (bP Ba rfl (bW (mv 2)) (aQ (i:=4) sc_l_pool.nd rfl (Or.inl rfl)) (@aI _ _ _ (bP Ba rfl (bW (cJ0 (bH cC (mv 1) (mv 4) (λ_ _=>rfl)) (aQH (bE aB)))) (aQ (i:=5) sc_l_pool.nd rfl (Or.inl rfl)) (@aI _ _ _ (dB (Room.u1 hr) (mv 3) (mv 5) (aT bZ (dP Bl Ce (nP (Room.u1 hr)) (mv 3) (aA (mv 5) (aA aJ aB))) aJ) rfl))))) (@aI _ _ _ (aV (mv 3))))),?_⟩
 walk_at "go"
 refine oW (.inl ha) λp hp=>?_
 have s1:=aE hp (.dK kvs)
 have e1:(upd H p (.dK kvs)) p=some (.dK kvs):=aD
 generalize upd H p (.dK kvs)=H1 at s1 e1 ⊢
 have hl1:=aH s1 hl
 walk_at "go"
 refine cN (xs:=(ks.map λk=>V.int ((k:Nat):Int))) (λi σ H'=>∃ (kv1:List (Key × V)) (f1:Nat->Option Int) (v4 v5:Option V),σ=[some (.ref a),some (.ref b),some (.ref l),some (.ref p),v4,v5]/\Same H H'/\H' p=some (.dK kv1)/\Lk kv1 f1/\(∀ c,aL f1 c=aL f c + cnt (bF hs (ks.take i)) c)/\kv1.length<=500 + 7 * i)
   ⟨kvs,f,_,_,rfl,s1,e1,lk,λc=>by rw [Ee]; show _=_ + ((0:Nat):Int); omega,by omega⟩ (λi σ H' _ ⟨_,_,_,_,_,e,_⟩=>aH e hl) ?_ ?_
 · rintro i x σ H2 hx ⟨kv0,f0,v4,v5,rfl,s2,e2,lk0,hf0',hl0⟩
   obtain ⟨k,hk,rfl⟩:=jZ hx
   have hi6:i < ks.length:=(Ae.mp hk).1
   have hb2:=aH s2 hb
   obtain ⟨u,au,_,hv⟩:=(hat.keep s2).get (hkk k (Ak hk))
   walk_at "go"
   unfold dZT
   walk_at "go"
   refine cL hb2 au ?_
   refine cJS hv λpc H3 s3 r3=>?_
   have h7:(fO hs k).length<=7:=wU ok k
   have s03:=s2.trans s3
   have e3:=s3 _ _ e2
   change rdL H3 pc=some (((fO hs k).map one).map V.str) at r3
   walk_at "go"
   refine cN (xs:=((fO hs k).map one).map V.str) (λj σ H'=>∃ (kv1:List (Key × V)) (f1:Nat->Option Int) (v5:Option V),σ=[some (.ref a),some (.ref b),some (.ref l),some (.ref p),some (.int ((k:Nat):Int)),v5]/\Same H H'/\rdL H' pc=some (((fO hs k).map one).map V.str)/\H' p=some (.dK kv1)/\Lk kv1 f1/\(∀ c,aL f1 c=aL f0 c + cnt ((fO hs k).take j) c)/\kv1.length<=500 + 7 * i + j)
     ⟨kv0,f0,_,rfl,s03,r3,e3,lk0,λc=>by rw [Ee]; show _=_ + ((0:Nat):Int); omega,by omega⟩ (λi σ H' _ ⟨_,_,_,_,_,e,_⟩=>e) ?_ ?_
   · rintro j x σ H4 hx ⟨kv1,f1,v5,rfl,s4,r4,e4,lg,hg,hlj⟩
     have hj:j < (fO hs k).length:=by have:=(Ae.mp hx).1; rw [Ab,Ab] at this; exact this
     obtain ⟨d,hd,rfl⟩:=wW hx
     have hpl:kv1.length < sizeLine:=aY (by omega)
     have ppc:pc≠p:=λz=>by rw [z] at r4; unfold rdL at r4; rw [e4] at r4; cases r4
     walk_at "go"
     refine nW (z:=one d) (.inl e4) ?_
     rw [lg.val d,gJ]
     walk_at "go"
     refine eU (z:=one d) e4 hpl ?_
     refine ⟨_,_,_,rfl,aW hp s4,by rw [aQK ppc]; exact r4,aD,lg.put d (aL f1 d + 1),λc=>?_,by have:=cO kv1 (Sum.inr (one d)) (.int (aL f1 d + 1)); omega⟩
     rw [xJ,jB hd]
     have h1:=hg c
     have h2:=hg d
     by_cases e:c=d
     · rw [if_pos e,if_pos e,e,h2]; omega
     · rw [if_neg e,if_neg e,h1]; omega
   · rintro σ H4 ⟨kv1,f1,v5,rfl,s4,r4,e4,lg,hg,hlj⟩
     rw [Bh (by rw [Ab,Ab]; exact Ah _)] at hg
     rw [Ab,Ab] at hlj
     refine ⟨kv1,f1,_,_,rfl,s4,e4,lg,λc=>?_,by omega⟩
     rw [hg c,hf0' c,uK hk,aX6]
     omega
 · rintro σ H2 ⟨kv0,f0,v4,v5,rfl,s2,e2,lk0,hf0',hl0⟩
   rw [Bh (by rw [gH]; exact Ah _)] at hf0'
   walk_at "go"
   exact q p kv0 f0 H2 hp s2 e2 lk0 hf0'
theorem cX1 {c:Nat} (h:dF c):Builtin.Str.occurrences (Str.ofString "1234") (one c) 0 (Str.ofString "1234").length 1=[c - 49]:=by
 have q:∀ k:_root_.Fin 4,Builtin.Str.occurrences (Str.ofString "1234") (one (49 + k.val)) 0 (Str.ofString "1234").length 1=[k.val]:=by decide +kernel
 unfold dF at h
 have e:=q ⟨c - 49,by omega⟩
 rwa [show 49 + (c - 49)=c by omega] at e
def sY:Sp:=λvs H Q _=>∃ (b:Addr) (cs:List Nat),vs=[.ref b]/\rdL H b=some ((cs.map one).map V.str)/\cF (cs.map one)=true/\Q (.str (aZ (rdC cs))) H
theorem sc_l_read:FnScope ["_law_hoist_here", "_law_word_here", "_law_flag"] ["_law_hoist_here"] (aG hU):=⟨rfl,rfl,rfl,by decide +kernel,rfl,by decide +kernel,by decide +kernel⟩
theorem aZ9 {Zo Zz Zr Zx Zs Zp Zu Zw Zy Zt Zv Zq:Addr} {f:Addr} {fd:FuncData} (F:Fun K "_law_read" "_law_read" hU f fd) (G:Gs K mg Zo Zz Zr Zx Zs Zp Zu Zw Zy Zt Zv Zq)  : FnOk P w K mg base CX0 1 f fd ["_law_hoist_here"] sY:=by
 refine F.ok sc_l_read (λvs H Q E h=>?_) (λcdv A outer s H vs Q E hr h=>?_)
 · obtain ⟨b,cs,rfl,_⟩:=h; rfl
 obtain ⟨b,cs,rfl,hb,hh,q⟩:=h
 refine ⟨_,(@aF _ _ _ _ _ (@aP _ _ 1 _ _ _ _ sc_l_read.nd (by rfl) (by exact (Or.inl rfl)) fM (by rfl) (by first | exact Or.inl rfl | exact Or.inr rfl)) (@aF _ _ _ _ _ (bP Ba rfl (bW (mv 0)) (aQ (i:=2) sc_l_read.nd rfl (Or.inl rfl)) (@aI _ _ _ (cT (bC aQY (mv 2) fM (by rfl)) (@aI _ _ _ (@aP _ _ 1 _ _ _ _ sc_l_read.nd (by rfl) (by exact (Or.inl rfl)) (aT bZ (mv 1) (bH cC (mv 1) (dD PySem.F.plainAttrs_str PySem.F.slot_str_index PySem.F.type_str_index aQ3 fM (aA (mv 2) aB)) (λ_ _=>rfl))) (by rfl) (by first | exact Or.inl rfl | exact Or.inr rfl))) (@aI _ _ _ (@aP _ _ 1 _ _ _ _ sc_l_read.nd (by rfl) (by exact (Or.inl rfl)) (aT bZ (mv 1) (mv 2)) (by rfl) (by first | exact Or.inl rfl | exact Or.inr rfl)))))) (@aI _ _ _ (aV (mv 1))))),?_⟩
 have h7:=fF hh
 rw [Ab] at h7
 have hll:((cs.map one).map V.str).length=cs.length:=by rw [Ab,Ab]
 walk_at "go"
 refine cN (xs:=(cs.map one).map V.str) (λi σ H'=>∃ v,σ=[some (.ref b),some (.str (aZ (rdC (cs.take i)))),v]/\H'=H)
   ⟨none,rfl,rfl⟩ (λi σ H' _ ⟨_,_,e⟩=>by rw [e]; exact hb) ?_ ?_
 · rintro i x σ H' hx ⟨v,rfl,rfl⟩
   obtain ⟨c,hc,rfl⟩:=wW hx
   obtain ⟨c',e1,_,hcc⟩:=lI hh (i:=i) (z:=one c) (by rw [Ag,hc]; rfl)
   rw [<-one_inj.mp e1] at hcc
   have hi:i < cs.length:=(Ae.mp hc).1
   have hrl:(rdC (cs.take i)).length=i:=iW (by omega)
   have hst:=mH hc
   generalize rdC (cs.take i)=wd at hrl hst ⊢
   have hwl:(aZ wd).length=i:=(eT wd).trans hrl
   walk_at "go"
   rw [if_neg Am,show subIn (one c) (Str.ofString "1234")=decide (dF c) from kY c]
   refine gD (λhd=>?_) (λhd=>?_)
   · have hs:=Bf hd
     have hlt:c - 49 < i:=(hcc.resolve_left λl=>gN l hs).2
     walk_at "go"
     refine aXV (cX1 hs) ?_
     walk_at "go"
     have e1:atI (aZ wd).cps.toList ((c - 49:Nat):Int)=some (wd.getD (c - 49) 0):=by
       refine eO ?_
       rw [mP,Ad,Aa (by omega)]
       rfl
     have h2:(⟨#[wd.getD (c - 49) 0]⟩:Str).length=1:=rfl
     refine jA (by rw [hwl]; exact bQ (by omega)) e1 ?_
     walk_at "go"
     refine ⟨some (.str (one c)),?_,rfl⟩
     rw [hst,show stp wd c=wd.getD (c - 49) 0 from if_pos hs,<-hX]
     rfl
   · have hs:=Bx (Bt.mpr hd)
     have h2:(one c).length=1:=rfl
     walk_at "go"
     refine ⟨some (.str (one c)),?_,rfl⟩
     rw [hst,show stp wd c=c from if_neg hs,<-hX]
     rfl
 · rintro σ H' ⟨v,rfl,rfl⟩
   walk_at "go"
   rw [Bh (by rw [hll]; exact Ah _)]
   exact q
def oA:Sp:=λvs H Q _=>∃ (b:Addr) (us:List V) (hs:List (Option (List Nat))) (n:Nat),vs=[.ref b,.int ((n:Nat):Int)]/\rdL H b=some us/\HalsAt H us hs/\hs.length<=7/\
 ∀ (r:Addr) (H':Hp),H r=none->Same H H'->H' r=some (.lst ((aM hs n).map λk=>V.int ((k:Nat):Int)))->Q (.ref r) H'
theorem xO:FnScope ["_law_halyards_here", "_law_number"] ["_law_halyards_here", "_law_number"] (aG dX):=⟨rfl,rfl,rfl,by decide +kernel,rfl,by decide +kernel,by decide +kernel⟩
theorem vJ {Zo Zz Zr Zx Zs Zp Zu Zw Zy Zt Zv Zq:Addr} {f:Addr} {fd:FuncData} (F:Fun K "_law_others" "_law_others" dX f fd) (G:Gs K mg Zo Zz Zr Zx Zs Zp Zu Zw Zy Zt Zv Zq)  : FnOk P w K mg base CX0 1 f fd ["_law_halyards_here", "_law_number"] oA:=by
 refine F.ok xO (λvs H Q E h=>?_) (λcdv A outer s H vs Q E hr h=>?_)
 · obtain ⟨b,us,hs,n,rfl,_⟩:=h; rfl
 obtain ⟨b,us,hs,n,rfl,hb,hat,h7,q⟩:=h
 refine ⟨_,(@aI _ _ _ (aV (dC rfl (eY rfl G.b_range (aA (bA gQ rfl G.b_len dE (aA (mv 0) aB)) aB)) (fZ (N:=["_law_k", "_law_number", "_law_halyards_here"]) ["_law_halyards_here", "_law_number"] (aG dX) [none,some 1,some 0] rfl rfl rfl (λx h=>cA h) (by decide +kernel)) (by decide +kernel) rfl (by decide +kernel) (λC s₀ H₀ ex=>(aQ (i:=0) (show List.Nodup (["_law_k", "_law_number", "_law_halyards_here"]:List Str) by decide +kernel) rfl (Or.inl rfl))) (λC s₀ H₀ ex=>(jK (PW.pt (tY (bC bJ4 (mv 0) (mv 1) (bG _)) (oQ (bC tK (bH cC (mv 2) (mv 0) (λ_ _=>rfl)) cV (bG _))))))) (λC s₀ H₀ ex=>(mv 0))))),?_⟩
 have hul:=hat.len
 walk_at "go"
 refine ⟨⟨by omega,by omega⟩,?_⟩
 rw [show (((us.length:Nat):Int)).toNat=hs.length by rw [<-hul]; exact Fl _]
 refine bQF (oth hs n) (aY (by omega)) (λk Hc A B' hk sm hA hB'=>?_) (λD H6 hD s56 hd=>?_)
 · have hbc:=aH sm hb
   obtain ⟨v,av,_,hvc⟩:=(hat.keep sm).get hk
   rw [show (0:Int) + (k:Int)=((k:Nat):Int) by omega]
   walk_at "go"
   refine ⟨Wk.set rfl (Wk.refl _),?_⟩
   walk_at "go"
   by_cases hkn:k=n
   · rw [Ap (show ((k:Nat):Int)=((n:Nat):Int) by omega)]
     walk_at "go"
     exact hB' (by unfold oth; rw [Ap hkn,Bool.not_true,Gf]; rfl) _ (Same.refl _)
   · rw [Au (show ¬ ((k:Nat):Int)=((n:Nat):Int) by omega)]
     walk_at "go"
     refine cL hbc av ?_
     walk_at "go"
     cases eh:hs.getD k none with
     | none=>
       rw [eh] at hvc
       obtain rfl:v=V.non:=hvc
       rw [show decide (V.non=V.non)=true from rfl]
       walk_at "go"
       exact hB' (by unfold oth; rw [eh]; rfl) _ (Same.refl _)
     | some cs=>
       rw [eh] at hvc
       obtain ⟨pk,rfl,_⟩:=hvc
       rw [show decide (V.ref pk=V.non)=false from Au (λz=>nomatch z)]
       walk_at "go"
       exact hA _ (by unfold oth; rw [eh,Au hkn]; rfl) _ (Same.refl _)
 rw [bXC] at hd
 exact q D H6 hD s56 hd
def qH:Sp:=λvs H Q _=>∃ (b l:Addr) (us:List V) (hs:List (Option (List Nat))) (cw ks:List Nat),vs=[.ref b,.str (aZ cw),.ref l]/\rdL H b=some us/\HalsAt H us hs/\HalOk hs/\rdL H l=some (ks.map λk=>V.int ((k:Nat):Int))/\ks.length<=6/\(∀ k∈ks,k < hs.length/\(hs.getD k none).isSome=true)/\
 ∀ (r:Addr) (H':Hp),H r=none->Same H H'->H' r=some (.lst (((bT hs cw ks).map aZ).map V.str))->Q (.ref r) H'
theorem zM:FnScope ["_law_halyards_here", "_law_word_here", "_law_numbers"] ["_law_halyards_here", "_law_word_here", "_law_numbers"] (aG fH):=⟨rfl,rfl,rfl,by decide +kernel,rfl,by decide +kernel,by decide +kernel⟩
theorem aQF {Zo Zz Zr Zx Zs Zp Zu Zw Zy Zt Zv Zq:Addr} {f:Addr} {fd:FuncData} (F:Fun K "_law_words" "_law_words" fH f fd) (G:Gs K mg Zo Zz Zr Zx Zs Zp Zu Zw Zy Zt Zv Zq) (c_l_read:Cal P w K mg base 1 "_law_read" ["_law_hoist_here"] sY):FnOk P w K mg base CX0 2 f fd ["_law_halyards_here", "_law_word_here", "_law_numbers"] qH:=by
 refine F.ok zM (λvs H Q E h=>?_) (λcdv A outer s H vs Q E hr h=>?_)
 · obtain ⟨b,l,us,hs,cw,ks,rfl,_⟩:=h; rfl
 obtain ⟨b,l,us,hs,cw,ks,rfl,hb,hat,ok,hl,h6,hk,q⟩:=h
 refine ⟨_,(@aI _ _ _ (aV (aT bZ (bE (aA (mv 1) aB)) (dC rfl (bW (mv 2)) (fZ (N:=["_law_k", "_law_halyards_here"]) ["_law_halyards_here", "_law_word_here", "_law_numbers"] (aG fH) [none,some 0] rfl rfl rfl (λx h=>cA h) (by decide +kernel)) (by decide +kernel) rfl (by decide +kernel) (λC s₀ H₀ ex=>(aQ (i:=0) (show List.Nodup (["_law_k", "_law_halyards_here"]:List Str) by decide +kernel) rfl (Or.inl rfl))) (λC s₀ H₀ ex=>gS) (λC s₀ H₀ ex=>(aX c_l_read hr (by decide) rfl (aA (bH cC (mv 1) (mv 0) (λ_ _=>rfl)) aB))))))),?_⟩
 have hkl:(ks.map λk=>V.int ((k:Nat):Int)).length=ks.length:=gH ks
 walk_at "go"
 refine ⟨by show 1<=sizeLine; decide,λp hp=>?_⟩
 have s1:=aE hp (.lst [V.str (aZ cw)])
 have e1:(upd H p (.lst [V.str (aZ cw)])) p=some (.lst [V.str (aZ cw)]):=aD
 generalize upd H p (.lst [V.str (aZ cw)])=H1 at s1 e1 ⊢
 have hl1:=aH s1 hl
 walk_at "go"
 refine pK (xs:=(ks.map λk=>V.int ((k:Nat):Int))) (λm=>(ks[m]?).map λk=>V.str (aZ (rdC ((hs.getD k none).getD [])))) hl1 (aY (by omega)) (λm x Hc A B hxm sm hA hB=>?_) (λD H2 hD s2 hd=>?_)
 · obtain ⟨k,hk',rfl⟩:=jZ hxm
   obtain ⟨k1,k2⟩:=hk k (Ak hk')
   have hbc:=aH (s1.trans sm) hb
   obtain ⟨v,av,_,hvc⟩:=(hat.keep (s1.trans sm)).get k1
   walk_at "go"
   refine ⟨Wk.set rfl (Wk.refl _),?_⟩
   walk_at "go"
   refine cL hbc av ?_
   cases eh:hs.getD k none with
   | none=>rw [eh] at k2; cases k2
   | some cs=>
     rw [eh] at hvc
     obtain ⟨pk,rfl,hpk⟩:=hvc
     have hm:some cs∈hs:=by
       rw [Ad,Aa k1] at eh
       rw [<-show hs[k]=some cs from eh]
       exact Bw k1
     walk_at "go"
     exact ⟨pk,cs,rfl,aO hpk,ok cs hm,hA _ (by rw [hk',Dv,eh]; rfl) _ (Same.refl _)⟩
 rw [hkl,qM (λk=>V.str (aZ (rdC ((hs.getD k none).getD [])))) ks] at hd
 refine lB (bI (s2 _ _ e1)) (bI hd) (bQ (by rw [Ab]; show 1 + _<=_; omega)) λp3 hp3=>?_
 refine q p3 _ (none_of (s1.trans s2) hp3) ((s1.trans s2).trans (aE hp3 _)) ?_
 rw [aD]
 unfold bT
 rw [Ar,Ar,Cw,Cw]
 rfl
theorem vN {cws:List (List Nat)} {k:Nat} (hk:k < cws.length):atI ((cws.map aZ).map V.str) ((k:Nat):Int)=some (.str (aZ (cws.getD k []))):=by
 obtain ⟨v,h1,h2⟩:=bZP (xs:=(cws.map aZ).map V.str) (i:=((k:Nat):Int)) (by omega) (by rw [Ab,Ab]; omega)
 rw [Fl,Ag,Ag,Aa hk] at h2
 rw [h1,<-h2,Ad,Aa hk]
 rfl
theorem wY {kvs:List (List Key × V)} {k:List Key} (h:¬ k∈kvs.map (·.1)):bU kvs k=none:=by
 unfold bU
 have e:kvs.find? (λx=>decide (x.1=k))=none:=List.find?_eq_none.mpr λx hx=>by
   rw [Bj]
   intro e
   exact h (Bg.mpr ⟨x,hx,e⟩)
 rw [e]
 rfl
def iZ:Sp:=λvs H Q _=>∃ (a b l1 l2:Addr) (kvs:List (Key × V)) (f:Nat->Option Int) (cws:List (List Nat)) (rs:List Addr) (W:List Wt) (F:List Nat),vs=[.ref a,.ref b,.ref l1,.ref l2]/\H a=some (.dK kvs)/\Lk kvs f/\(∀ c,0<=aL f c/\aL f c<=100000)/\rdL H b=some ((cws.map aZ).map V.str)/\cws.length<=8/\(∀ c∈cws,c.length<=7)/\
 H l1=some (.lst (rs.map V.ref))/\WtsAt H rs W/\H l2=some (.lst ((F.map one).map V.str))/\LackOk cws (aL f) W F/\∀ H',Same H H'->Q (.bl true) H'
theorem sc_l_are_short:FnScope ["_law_locker_here", "_law_words_here", "_law_wants", "_law_flags", "_law_known", "_law_number", "_law_place", "_law_flag"] ["_law_locker_here", "_law_words_here", "_law_wants", "_law_flags"] (aG cR):=⟨rfl,rfl,rfl,by decide +kernel,rfl,by decide +kernel,by decide +kernel⟩
theorem pV {Zo Zz Zr Zx Zs Zp Zu Zw Zy Zt Zv Zq:Addr} {f:Addr} {fd:FuncData} (F:Fun K "_law_are_short" "_law_are_short" cR f fd) (G:Gs K mg Zo Zz Zr Zx Zs Zp Zu Zw Zy Zt Zv Zq) (c_l_choices:Cal P w K mg base 1 "_law_choices" ["_law_word_here", "_law_place"] iU):FnOk P w K mg base CX0 2 f fd ["_law_locker_here", "_law_words_here", "_law_wants", "_law_flags"] iZ:=by
 refine F.ok sc_l_are_short (λvs H Q E h=>?_) (λcdv A outer s H vs Q E hr h=>?_)
 · obtain ⟨a,b,l1,l2,kvs,f,cws,rs,W,F,rfl,_⟩:=h; rfl
 obtain ⟨a,b,l1,l2,kvs,f,cws,rs,W,F,rfl,ha,lk,hf,hb,h8,h7,el1,hwt,el2,hlo,q⟩:=h
 refine ⟨_,(@aF _ _ _ _ _ (@aP _ _ 4 _ _ _ _ sc_l_are_short.nd (by rfl) (by exact (Or.inl rfl)) qD (by rfl) (by first | exact Or.inl rfl | exact Or.inr rfl)) (@aF _ _ _ _ _ (bP Ba rfl (bW (mv 2)) (kI (K:=K) (i:=5) (j:=6) (by rfl) (by rfl) sc_l_are_short.nd (by rfl) (by exact (Or.inl rfl)) (by exact Or.inl rfl) (by rfl) (by exact (Or.inl rfl)) (by exact Or.inl rfl)) (@aF _ _ _ _ _ (cT (PW.pt (lT (bC (cJF (Room.u1 hr)) (jN (aA (mv 5) (aA (mv 6) aB))) (mv 4) (by rfl)) (lT (bC vF (mv 5) (bM bJY rfl G.b_range xG (aA (bA gQ rfl G.b_len dE (aA (mv 1) aB)) aB)) (by rfl)) (nL (bC vF (mv 6) (bM bJY rfl G.b_range xG (aA aJ (aA (aT bZ (bA gQ rfl G.b_len dE (aA (bH cC (mv 1) (mv 5) (λ_ _=>rfl)) aB)) aJ) aB))) (by rfl)))))) (@aI _ _ _ (aV iH)) bS) (@aF _ _ _ _ _ (dB (Room.u1 hr) (mv 4) (jN (aA (mv 5) (aA (mv 6) aB))) iH rfl) (@aI _ _ _ (bP Ba rfl (bW (aX c_l_choices hr (by decide) rfl (aA (bH cC (mv 1) (mv 5) (λ_ _=>rfl)) (aA (mv 6) aB)))) (aQ (i:=7) sc_l_are_short.nd rfl (Or.inl rfl)) (@aI _ _ _ (cT (bC bQT (mv 7) (mv 3) (by rfl)) (@aI _ _ _ (aV iH)) bS))))))) (@aF _ _ _ _ _ (cT (bC bJ4 (bA bZC rfl G.b_len dE (aA (bM (cJK rfl) rfl G.b_set (by decide +kernel) (aA (mv 3) aB)) aB)) (bA gQ rfl G.b_len dE (aA (mv 3) aB)) (bG _)) (@aI _ _ _ (aV iH)) bS) (@aI _ _ _ (aV (gK cXM (bA gQ rfl G.b_len dE (aA (mv 2) aB)) (bA (dZJ rfl) rfl G.b_sum dX1 (aA (dC rfl (bW (mv 3)) (fZ (N:=["_law_flag", "_law_locker_here"]) ["_law_locker_here", "_law_words_here", "_law_wants", "_law_flags", "_law_known", "_law_number", "_law_place", "_law_flag"] (aG cR) [none,some 0] rfl rfl rfl (λx h=>cA h) (by decide +kernel)) (by decide +kernel) rfl (by decide +kernel) (λC s₀ H₀ ex=>(aQ (i:=0) (show List.Nodup (["_law_flag", "_law_locker_here"]:List Str) by decide +kernel) rfl (Or.inl rfl))) (λC s₀ H₀ ex=>gS) (λC s₀ H₀ ex=>(dP Bl Ce (nP (Room.u1 hr)) (mv 1) (aA (mv 0) (aA aJ aB))))) aB)) (bG _))))))),?_⟩
 have hll:((cws.map aZ).map V.str).length=cws.length:=by rw [Ab,Ab]
 have hrl:(rs.map V.ref).length=W.length:=by rw [Ab,hwt.1]
 have ndF:=aQ7 hlo
 have ndW:W.Nodup:=hlo.sub.nodup (lL cws cws.length)
 have hW56:W.length<=56:=Bb hlo.sub.length_le (Bb (oU h7 _) (by omega))
 have hF27:F.length<=27:=by
   obtain ⟨p,e⟩:=hlo.flags
   rw [e]
   exact Bb (List.length_filter_le _ _) (by decide)
 have r1:=aO el1
 walk_at "go"
 intro pk hpk
 have s1:=aE hpk (.dT [])
 have e1:(upd H pk (.dT [])) pk=some (.dT []):=aD
 generalize upd H pk (.dT [])=H1 at s1 e1 ⊢
 have r11:=aH s1 r1
 walk_at "go"
 refine cN (xs:=rs.map V.ref) (λi σ H'=>∃ (kvt:List (List Key × V)) (v5 v6 v7:Option V),σ=[some (.ref a),some (.ref b),some (.ref l1),some (.ref l2),some (.ref pk),v5,v6,v7]/\Same H H'/\H' pk=some (.dT kvt)/\kvt.map (·.1)=(W.take i).map cG)
   ⟨[],_,_,_,rfl,s1,e1,rfl⟩ (λi σ H' _ ⟨_,_,_,_,_,e,_⟩=>aH e r1) ?_ ?_
 · rintro i x σ H2 hx ⟨kvt,v5,v6,v7,rfl,s2,e2,hkt⟩
   have hi:i < W.length:=by have:=(Ae.mp hx).1; rw [hrl] at this; exact this
   have ew:W[i]?=some W[i]:=Aa hi
   rw [Ag] at hx
   cases ep:rs[i]? with
   | none=>rw [ep] at hx; cases hx
   | some p=>
     rw [ep] at hx
     cases hx
     have htp:=s2 _ _ (hwt.2 i p W[i] ep ew)
     have hwm:=Ak ew
     have hnew:cG W[i] ∉ kvt.map (·.1):=λz=>by
       rw [hkt] at z
       obtain ⟨u,hu,eu⟩:=Bg.mp z
       rw [jY eu] at hu
       obtain ⟨j,hj⟩:=List.mem_iff_getElem?.mp hu
       rw [List.getElem?_take] at hj
       split at hj
       · rename_i hji
         have:=(List.getElem?_inj (by omega) ndW).mp (hj.trans ew.symm)
         omega
       · cases hj
     have hkl:kvt.length=i:=by
       have:=Df List.length hkt
       rw [Ab,Ab,Bo] at this
       omega
     obtain ⟨hw1,hw2,hw3⟩:=wlP_mem.mp (hlo.sub.subset hwm)
     have htk:(W.take (i + 1)).map cG=(W.take i).map cG ++ [cG W[i]]:=by rw [Az,ew,Al]; rfl
     have hall:=hlo.all W[i] hwm
     generalize W[i]=w at htp hnew hw1 hw2 hw3 htk hall hwm
     obtain ⟨wn,wp⟩:=w
     have hw1:wn < cws.length:=hw1
     have hw2:1<=wp:=hw2
     have hw3:wp<=(cws.getD wn []).length:=hw3
     have hall:∀ c∈chs (cws.getD wn []) (wp - 1),c∈F:=hall
     have hcl:(aZ (cws.getD wn [])).length=(cws.getD wn []).length:=eT _
     have hc7:(cws.getD wn []).length<=7:=by
       rw [Ad,Aa hw1]
       exact h7 _ (Bw hw1)
     have htp:H2 p=some (.tup [.int (wn:Int),.int (wp:Int)]):=htp
     have tt:=kH htp
     walk_at "go"
     refine ⟨by show 2<=sizeLine; decide,λt ht=>?_⟩
     have s3:=aE ht (HO.tup [V.int (wn:Int),V.int (wp:Int)])
     have t3:(upd H2 t (HO.tup [V.int (wn:Int),V.int (wp:Int)])) t=some (HO.tup ((cG (wn,wp)).map kV)):=aD
     have e3:=s3 _ _ e2
     generalize upd H2 t (HO.tup [V.int (wn:Int),V.int (wp:Int)])=H3 at s3 t3 e3 ⊢
     refine dXS (neg:=false) (k:=cG (wn,wp)) (.inl e3) t3 ?_
     rw [wY hnew,show (if false=true then !(none:Option V).isSome else (none:Option V).isSome)=false from rfl]
     have s03:=s2.trans s3
     have rb3:=aH s03 hb
     walk_at "go"
     rw [hll]
     refine cXG λr4 hr4=>?_
     have s4:=aE hr4 (HO.rng 0 ((cws.length:Nat):Int))
     have g4:(upd H3 r4 (HO.rng 0 ((cws.length:Nat):Int))) r4=some (HO.rng 0 ((cws.length:Nat):Int)):=aD
     have e4:=s4 _ _ e3
     generalize upd H3 r4 (HO.rng 0 ((cws.length:Nat):Int))=H4 at s4 g4 e4 ⊢
     refine wO g4 ?_
     rw [Ap (show (0:Int)<=(wn:Int)/\(wn:Int) < ((cws.length:Nat):Int) from ⟨by omega,by omega⟩)]
     have s04:=s03.trans s4
     have rb4:=aH s04 hb
     walk_at "go"
     refine cL rb4 (vN hw1) ?_
     walk_at "go"
     rw [hcl]
     refine cXW λr5 hr5=>?_
     have s5:=aE hr5 (HO.rng 1 (((cws.getD wn []).length:Int) + 1))
     have g5:(upd H4 r5 (HO.rng 1 (((cws.getD wn []).length:Int) + 1))) r5=some (HO.rng 1 (((cws.getD wn []).length:Int) + 1)):=aD
     have e5:=s5 _ _ e4
     generalize upd H4 r5 (HO.rng 1 (((cws.getD wn []).length:Int) + 1))=H5 at s5 g5 e5 ⊢
     refine wO g5 ?_
     rw [Ap (show (1:Int)<=(wp:Int)/\(wp:Int) < ((cws.getD wn []).length:Int) + 1 from ⟨by omega,by omega⟩)]
     have s05:=s04.trans s5
     walk_at "go"
     refine ⟨by show 2<=sizeLine; decide,λt2 ht2=>?_⟩
     have s6:=aE ht2 (HO.tup [V.int (wn:Int),V.int (wp:Int)])
     have t6:(upd H5 t2 (HO.tup [V.int (wn:Int),V.int (wp:Int)])) t2=some (HO.tup ((cG (wn,wp)).map kV)):=aD
     have e6:=s6 _ _ e5
     generalize upd H5 t2 (HO.tup [V.int (wn:Int),V.int (wp:Int)])=H6 at s6 t6 e6 ⊢
     refine oH (k:=cG (wn,wp)) e6 t6 (aY (by omega)) ?_
     rw [iF _ (wY hnew)]
     have s07:Same H (upd H6 pk (.dT (kvt ++ [(cG (wn,wp),V.bl true)]))):=aW hpk (s05.trans s6)
     have e7:(upd H6 pk (.dT (kvt ++ [(cG (wn,wp),V.bl true)]))) pk=some (.dT (kvt ++ [(cG (wn,wp),V.bl true)])):=aD
     generalize upd H6 pk (.dT (kvt ++ [(cG (wn,wp),V.bl true)]))=H7 at s07 e7 ⊢
     have rb7:=aH s07 hb
     walk_at "go"
     refine cL rb7 (vN hw1) ?_
     walk_at "go"
     refine ⟨cws.getD wn [],wp - 1,_,rfl,by omega,by omega,hc7,λrc H8 hrc s8 er8=>?_⟩
     have rc8:=aO er8
     walk_at "go"
     refine cN (xs:=((chs (cws.getD wn []) (wp - 1)).map one).map V.str) (λu σ H'=>∃ (v7:Option V),σ=[some (.ref a),some (.ref b),some (.ref l1),some (.ref l2),some (.ref pk),some (.int (wn:Int)),some (.int (wp:Int)),v7]/\Same H7 H'/\H' rc=some (.lst (((chs (cws.getD wn []) (wp - 1)).map one).map V.str)))
       ⟨_,rfl,s8,er8⟩ (λu σ H' _ ⟨_,_,_,e⟩=>aO e) ?_ ?_
     · rintro u x σ H9 hx ⟨v7,rfl,s9,er9⟩
       obtain ⟨d,hdm,rfl⟩:∃ d,d∈chs (cws.getD wn []) (wp - 1)/\x=.str (one d):=by
         rw [Ag,Ag] at hx
         cases e:(chs (cws.getD wn []) (wp - 1))[u]? with
         | none=>rw [e] at hx; cases hx
         | some d=>rw [e] at hx; cases hx; exact ⟨d,Ak e,rfl⟩
       have r9:=aH (s07.trans s9) (aO el2)
       walk_at "go"
       refine cZI (neg:=true) r9 rfl (dG _) ?_
       rw [xK,Ap (hall d hdm),show (if true=true then !true else true)=false from rfl]
       walk_at "go"
       exact ⟨_,rfl,s9,er9⟩
     · rintro σ H9 ⟨v7,rfl,s9,er9⟩
       walk_at "go"
       exact ⟨kvt ++ [(cG (wn,wp),V.bl true)],_,_,_,rfl,s07.trans s9,s9 _ _ e7,by rw [Al,hkt,htk]; rfl⟩
 · rintro σ H2 ⟨kvt,v5,v6,v7,rfl,s2,e2,hkt⟩
   have r2:=aO (s2 _ _ el2)
   have r12:=aO (s2 _ _ el1)
   have hFl:((F.map one).map V.str).length=F.length:=by rw [Ab,Ab]
   walk_at "go"
   refine cJL (zs:=F.map one) r2 (by rw [Ab]; omega) λrt hrt=>?_
   have hdn:sC (F.map one)=F.length:=by
     rw [yG,Ab]
     exact List.pairwise_map.mpr (ndF.imp λh e=>h (one_inj.mp e))
   rw [hdn]
   have s3:=s2.trans (aE hrt (pO rt F.length))
   have r23:=aH (aE hrt (pO rt F.length)) r2
   have r13:=aH (aE hrt (pO rt F.length)) r12
   have es:(upd H2 rt (pO rt F.length)) rt=some (pO rt F.length):=aD
   generalize upd H2 rt (pO rt F.length)=H3 at s3 r23 r13 es ⊢
   walk_at "go"
   refine bQ7 es (by omega) ?_
   walk_at "go"
   rw [hFl,Ap rfl]
   walk_at "go"
   refine pK (xs:=(F.map one).map V.str) (λj=>(F[j]?).map λc=>V.int (aL f c)) r23 (by rw [hFl]; exact aY (by omega)) (λj x Hc A B hx sm hA hB=>?_) (λD Hd hD sd hr=>?_)
   · obtain ⟨d,hd,rfl⟩:∃ d,F[j]?=some d/\x=.str (one d):=by
       rw [Ag,Ag] at hx
       cases e:F[j]? with
       | none=>rw [e] at hx; cases hx
       | some d=>rw [e] at hx; cases hx; exact ⟨d,rfl,rfl⟩
     have r:=hA (.int (aL f d)) (by rw [hd]; rfl)
     have hac:=sm _ _ (s3 _ _ ha)
     walk_at "go"
     refine ⟨Wk.set rfl (Wk.refl _),?_⟩
     walk_at "go"
     refine nW (z:=one d) (.inl hac) ?_
     rw [lk.val d,gJ]
     exact r _ (Same.refl _)
   · have efm:(List.range ((F.map one).map V.str).length).filterMap (λj=>(F[j]?).map λc=>V.int (aL f c))=(F.map (aL f)).map V.int:=by
       rw [hFl,Cw]
       have h:∀ n,n<=F.length->(List.range n).filterMap (λj=>(F[j]?).map λc=>V.int (aL f c))=(F.take n).map (V.int ∘ aL f):=λn=>by
         induction n with
         | zero=>intro _; rfl
         | succ n ih=>
           intro hn
           have e:F[n]?=some F[n]:=Aa (by omega)
           rw [dQ (y:=V.int (aL f F[n])) (by rw [e]; rfl),ih (by omega),Az,e,Al]
           rfl
       have r:=h F.length (Ah _)
       rw [Bp] at r
       exact r
     rw [efm] at hr
     walk_at "go"
     refine dJY (aO hr) (λn hn=>by obtain ⟨c,_,rfl⟩:=Bg.mp hn; have:=hf c; omega) (by rw [Ab]; omega) ?_
     walk_at "go"
     rw [hrl,Ap (show ((W.length:Nat):Int) > (F.map (aL f)).sum from hlo.few)]
     exact q _ (s3.trans sd)
theorem aJ8 {f:Nat->Option Int} {hs:List (Option (List Nat))} {n:Nat} {cw ks:List Nat} {j:Nat} (h:qE f hs n cw ks j):ks.Sublist (aM hs n):=mem_sets.mp (Ak h.1)
theorem vY {f:Nat->Option Int} (hf0:∀ c,0<=aL f c) (hs:List (Option (List Nat))) (L:List Nat) (c:Nat):jH f hs L c=if lE c then aL f c + cnt (bF hs L) c else 0:=by
 by_cases hc:lE c
 · rw [if_pos hc]
   have h0:0<=aL f c + cnt (bF hs L) c:=by have:=hf0 c; have:=gB (bF hs L) c; omega
   have e:aL (mD f hs L) c=aL f c + cnt (bF hs L) c:=fR (n:=λc=>aL f c + cnt (bF hs L) c) hc h0
   unfold jH
   rw [fR hc (by rw [e]; exact h0),e]
 · rw [if_neg hc]
   show (bO _ c).getD 0=0
   unfold bO
   rw [if_neg λz=>hc z.1]
   rfl
def NoS (f:Nat->Option Int) (hs:List (Option (List Nat))) (n:Nat) (cw:List Nat):Prop:=∀ l,l.Sublist (aM hs n)->¬ qB f hs n cw l
def LackAt (H:Hp) (cws:List (List Nat)) (c:Nat->Int) (l1 l2:Addr):Prop:=∃ (rs:List Addr) (W:List Wt) (F:List Nat),H l1=some (.lst (rs.map V.ref))/\WtsAt H rs W/\H l2=some (.lst ((F.map one).map V.str))/\LackOk cws c W F
theorem LackAt.keep {H H':Hp} {cws:List (List Nat)} {c:Nat->Int} {l1 l2:Addr} (h:LackAt H cws c l1 l2) (s:Same H H'):LackAt H' cws c l1 l2:=by
 obtain ⟨rs,W,F,h1,h2,h3,h4⟩:=h
 exact ⟨rs,W,F,s _ _ h1,⟨h2.1,λj p w hp hw=>s _ _ (h2.2 j p w hp hw)⟩,s _ _ h3,h4⟩
def ToldAt (H:Hp) (f:Nat->Option Int) (hs:List (Option (List Nat))) (n:Nat) (cw:List Nat) (r:Addr):Prop:=(¬ NoS f hs n cw/\H r=some (.lst [.non,.non]))\/(NoS f hs n cw/\∃ l1 l2,H r=some (.lst [.ref l1,.ref l2])/\LackAt H (bT hs cw (aM hs n)) (jH f hs (n :: aM hs n)) l1 l2)
theorem ToldAt.keep {H H':Hp} {f:Nat->Option Int} {hs:List (Option (List Nat))} {n:Nat} {cw:List Nat} {r:Addr} (h:ToldAt H f hs n cw r) (s:Same H H'):ToldAt H' f hs n cw r:=by
 rcases h with ⟨h1,h2⟩ | ⟨h1,l1,l2,h2,h3⟩
 · exact .inl ⟨h1,s _ _ h2⟩
 · exact .inr ⟨h1,l1,l2,s _ _ h2,h3.keep s⟩
theorem ToldAt.nn {H:Hp} {f:Nat->Option Int} {hs:List (Option (List Nat))} {n:Nat} {cw:List Nat} {r q:Addr} {neg b:Bool} {Q:VK} (h:ToldAt H f hs n cw r) (hq:rdL H q=some [.non,.non]) (hb:b=true ↔ NoS f hs n cw) (k:Q (.bl (if neg then b else !b)) H):mNN neg (.ref r) (.ref q) H Q:=by
 refine ⟨r,q,rfl,rfl,hq,?_⟩
 rcases h with ⟨h1,h2⟩ | ⟨h1,l1,l2,h2,rs,W,F,h3,_,h4,_⟩
 · refine .inl ⟨aO h2,?_⟩
   have e:b=false:=Bt.mpr λz=>h1 (hb.mp z)
   rw [e] at k
   cases neg <;> exact k
 · refine .inr ⟨l1,l2,_,_,aO h2,aO h3,aO h4,?_⟩
   rw [hb.mpr h1] at k
   cases neg <;> exact k
def pX:Sp:=λvs H Q _=>∃ (a b:Addr) (kvs:List (Key × V)) (f:Nat->Option Int) (us:List V) (hs:List (Option (List Nat))) (n:Nat) (cw:List Nat) (way:Int),vs=[.ref a,.ref b,.int ((n:Nat):Int),.str (aZ cw),.int way]/\iR H a b kvs f us hs n cw/\
 ∀ (r:Addr) (H':Hp),H r=none->Same H H'->ToldAt H' f hs n cw r->Q (.ref r) H'
theorem sc_l_tried:FnScope ["_law_locker_here", "_law_halyards_here", "_law_number", "_law_word_here", "_law_way", "_law_told", "e", "_law_odd"] ["_law_locker_here", "_law_halyards_here", "_law_number", "_law_word_here", "_law_way"] (aG fS):=⟨rfl,rfl,rfl,by decide +kernel,rfl,by decide +kernel,by decide +kernel⟩
theorem zA {Zo Zz Zr Zx Zs Zp Zu Zw Zy Zt Zv Zq:Addr} {f:Addr} {fd:FuncData} (F:Fun K "_law_tried" "_law_tried" fS f fd) (G:Gs K mg Zo Zz Zr Zx Zs Zp Zu Zw Zy Zt Zv Zq) (c_hauled:oE P w K mg base 12 "hauled" ["locker", "halyards", "number", "word"] (nJ Zo)) (c_hauling_papers:oE P w K mg base 12 "hauling_papers" ["locker", "halyards", "number", "word"] (gL Zo)):FnOk P w K mg base CX0 13 f fd ["_law_locker_here", "_law_halyards_here", "_law_number", "_law_word_here", "_law_way"] pX:=by
 refine F.ok sc_l_tried (λvs H Q E h=>?_) (λcdv A outer s H vs Q E hr h=>?_)
 · obtain ⟨a,b,kvs,f,us,hs,n,cw,way,rfl,_⟩:=h; rfl
 obtain ⟨a,b,kvs,f,us,hs,n,cw,way,rfl,hin,q⟩:=h
 refine ⟨_,(@aF _ _ _ _ _ (@aP _ _ 5 _ _ _ _ sc_l_tried.nd (by rfl) (by exact (Or.inl rfl)) (bE (aA cV (aA cV aB))) (by rfl) (by first | exact Or.inl rfl | exact Or.inr rfl)) (@aF _ _ _ _ _ (bJF (i:=6) rfl rfl rfl sc_l_tried.nd rfl rfl rfl G.c_Lack (λpins R=>(@aI _ _ _ (cT (bC vA (mv 4) aJ (bG _)) (@aI _ _ _ (cK (tF c_hauled (lF rfl) hr (by decide) rfl (aA (mv 0) (aA (mv 1) (aA (mv 2) (aA (mv 3) aB))))))) (@aI _ _ _ (cK (tF c_hauling_papers (lF rfl) hr (by decide) rfl (aA (mv 0) (aA (mv 1) (aA (mv 2) (aA (mv 3) aB)))))))))) (λpins ea=>(@aF _ _ _ _ _ (@aP _ _ 7 _ _ _ _ sc_l_tried.nd (by rfl) (by exact (Or.inl rfl)) (bA (yV (K:=K) rfl) rfl G.b_isinstance dR (aA (mv 6) (aA (jN (aA (eM rfl G.c_Short) (aA (eM rfl G.c_NoBook) (aA (eM rfl G.c_NoCut) (aA (eM rfl G.c_NoText) (aA (eM rfl G.c_NoWord) (aA (eM rfl G.c_NoHalyard) (aA (eM rfl G.c_NoFlag) (aA (eM rfl G.c_NoDeed) (aA (eM rfl G.c_NoRow) (aA (eM rfl G.c_NoHoist) aB))))))))))) aB))) (by rfl) (by first | exact Or.inl rfl | exact Or.inr rfl)) (@aF _ _ _ _ _ (cT (PW.pt (lT (eW (mv 7)) (lT (jV (eW (bA (yV (K:=K) rfl) rfl G.b_isinstance dR (aA (mv 6) (aA (eM rfl G.c_TowerError) aB))))) (nL (jV (eW (bA (yV (K:=K) rfl) rfl G.b_isinstance dR (aA (mv 6) (aA (aQL rfl G.b_ValueError rC) aB))))))))) (@aI _ _ _ (aV (bE (aA (bE aB) (aA (bE aB) aB))))) bS) (@aI _ _ _ (@aP _ _ 5 _ _ _ _ sc_l_tried.nd (by rfl) (by exact (Or.inl rfl)) (bE (aA (mE (K:=K) rfl (mv 6) rfl) (aA (mE (K:=K) rfl (mv 6) rfl) aB))) (by rfl) (by first | exact Or.inl rfl | exact Or.inr rfl))))))) (@aI _ _ _ (aV (mv 5))))),?_⟩
 walk_at "go"
 refine ⟨by show 2<=sizeLine; decide,λr0 hr0=>?_⟩
 have s1:=aE hr0 (.lst [.non,.non])
 have e1:(upd H r0 (.lst [.non,.non])) r0=some (.lst [.non,.non]):=aD
 generalize upd H r0 (.lst [.non,.non])=H1 at s1 e1 ⊢
 obtain ⟨ha,lk,hf0,hb,hat,ok,h6,hn,hc1,hc7,hcL⟩:=hin
 have hin1:iR H1 a b kvs f us hs n cw:=⟨s1 _ _ ha,lk,hf0,aH s1 hb,hat.keep s1,ok,h6,hn,hc1,hc7,hcL⟩
 have hka:PySem.W.kitAny K (.ref Zo) [.ref Zr,.ref Zs,.ref Zp,.ref Zu,.ref Zw,.ref Zy,.ref Zt,.ref Zv,.ref Zq,.ref Zx]=some false:=by
   simp only [PySem.W.kitAny,G.i_1,G.i_2,G.i_3,G.i_4,G.i_5,G.i_6,G.i_7,G.i_8,G.i_9,G.i_10]
 walk_at "go"
 refine gD (λ_=>?_) (λ_=>?_) <;> walk_at "go"
 refine ⟨a,b,kvs,f,us,hs,n,cw,rfl,hin1,λt L B R ks gs j vs' kws H2 s2 _ _ _ _ hfs _ _ _ _ _ _ _ _=>?_,λhno dx l1 l2 rs W F H2 s2 ed el1 hwt el2 hlo _ _=>⟨G.m_Lack,λea hea=>?_⟩⟩
 rotate_left 2
 refine ⟨a,b,kvs,f,us,hs,n,cw,rfl,hin1,λp ts ks j H2 s2 hfs _ _ _ _=>?_,λhno dx l1 l2 rs W F H2 s2 ed el1 hwt el2 hlo _ _=>⟨G.m_Lack,λea hea=>?_⟩⟩
 iterate 2
   · walk_at "go"
     exact q r0 H2 hr0 (s1.trans s2) (.inl ⟨λz=>z ks (aJ8 hfs) hfs.2.1,s2 _ _ e1⟩)
   · have k3:=aE hea (jS ea (.ref Zo) (some dx))
     have x3:(upd H2 ea (jS ea (.ref Zo) (some dx))) ea=_:=aD
     generalize upd H2 ea (jS ea (.ref Zo) (some dx))=H3 at k3 x3 ⊢
     walk_at "go"
     refine ⟨by show 10<=sizeLine; decide,λtp htp=>?_⟩
     have k4:=aE htp (.tup [.ref Zr,.ref Zs,.ref Zp,.ref Zu,.ref Zw,.ref Zy,.ref Zt,.ref Zv,.ref Zq,.ref Zx])
     have x4:(upd H3 tp (.tup [.ref Zr,.ref Zs,.ref Zp,.ref Zu,.ref Zw,.ref Zy,.ref Zt,.ref Zv,.ref Zq,.ref Zx])) tp=_:=aD
     generalize upd H3 tp (.tup [.ref Zr,.ref Zs,.ref Zp,.ref Zu,.ref Zw,.ref Zy,.ref Zt,.ref Zv,.ref Zq,.ref Zx])=H4 at k4 x4 ⊢
     have xe:=k4 _ _ x3
     have s24:=k3.trans k4
     have xd:=s24 _ _ ed
     walk_at "go"
     refine cJ9 xe xd G.xx_Lack x4 rfl hka ?_
     walk_at "go"
     refine bQ3 xe xd G.xx_Lack rfl G.i_11 ?_
     walk_at "go"
     refine bQ3 xe xd G.xx_Lack rfl G.i_12 ?_
     walk_at "go"
     refine ⟨ea,Zo,dx,_,_,rfl,.inl xe,xd,G.xx_Lack,G.xn_Lack_wants,rfl,?_⟩
     walk_at "go"
     refine ⟨ea,Zo,dx,_,_,rfl,.inl xe,xd,G.xx_Lack,G.xn_Lack_flags,rfl,?_⟩
     walk_at "go"
     refine ⟨by show 2<=sizeLine; decide,λr5 hr5=>?_⟩
     have s05:=s1.trans (s2.trans s24)
     have s25:=s24.trans (aE hr5 (.lst [.ref l1,.ref l2]))
     walk_at "go"
     exact q r5 _ (none_of s05 hr5) (s05.trans (aE hr5 _)) (.inr ⟨hno,l1,l2,aD,rs,W,F,s25 _ _ el1,⟨hwt.1,λj p w hp hw=>s25 _ _ (hwt.2 j p w hp hw)⟩,s25 _ _ el2,hlo⟩)
theorem HalsAt.alw {H:Hp} {vs us:List V} {hs:List (Option (List Nat))} {p q:Addr} (a:HalsAt H vs hs) (b:HalsAt H us hs) (hp:rdL H p=some vs) (hq:rdL H q=some us):Alw H 2 (.ref p) (.ref q):=by
 refine .lst hp hq (by rw [a.len,b.len]) λj x y hx hy=>?_
 obtain ⟨h,hh,hv⟩:=a.at hx
 have hw:=b.val j y h hy hh
 cases h with
 | none=>
   rw [show x=.non from hv,show y=.non from hw]
   exact Alw.flat rfl
 | some cs=>
   obtain ⟨p1,rfl,h1⟩:=hv
   obtain ⟨p2,rfl,h2⟩:=hw
   exact .lst (aO h1) (aO h2) rfl (Alw.flats (dG _))
theorem Alw.up {H:Hp}:∀ {n:Nat} {x y:V},Alw H n x y->Alw H (n + 1) x y
 | 0,x,y,h=>.inl h
 | n + 1,x,y,h=>by
   rcases h with h | ⟨p,q,h1,h2,⟨xs,ys,h3,h4,h5,h6⟩ | h3⟩
   · exact .inl h
   · exact .inr ⟨p,q,h1,h2,.inl ⟨xs,ys,h3,h4,h5,λj x' y' hx hy=>Alw.up (h6 j x' y' hx hy)⟩⟩
   · exact .inr ⟨p,q,h1,h2,.inr h3⟩
theorem bQH (os:List Nat):∃ A,cQ os=[] :: A:=by
 unfold cQ
 rw [List.range_succ_eq_map,Eo,fY]
 exact ⟨_,rfl⟩
theorem aJ3 {f:Nat->Option Int} {hs:List (Option (List Nat))} {n:Nat} {cw ks:List Nat} {j:Nat} (hcan:qB f hs n cw []) (h:qE f hs n cw ks j):ks=[]/\j=0:=by
 obtain ⟨A,hA⟩:=bQH (aM hs n)
 obtain ⟨h1,_,h3⟩:=h
 rw [hA] at h1 h3
 cases j with
 | zero=>cases h1; exact ⟨rfl,rfl⟩
 | succ j=>exact absurd hcan (h3 0 [] (Nat.succ_pos _) rfl)
theorem aXX (cws:List (List Nat)):∀ i,(wlP cws i).Pairwise λa b=>cQV ((a.1:Int),(a.2:Int)) ((b.1:Int),(b.2:Int))
 | 0=>List.Pairwise.nil
 | i + 1=>by
   rw [iD]
   refine List.pairwise_append.mpr ⟨aXX cws i,?_,λa ha b hb=>?_⟩
   · unfold jW
     refine List.Pairwise.map _ (λa b h=>?_) List.pairwise_lt_range
     exact .inr ⟨rfl,by show ((1 + a:Nat):Int) < ((1 + b:Nat):Int); omega⟩
   · have h1:=(wlP_mem.mp ha).1
     unfold jW at hb
     obtain ⟨j,_,rfl⟩:=Bg.mp hb
     exact .inl (by show (a.1:Int) < (i:Int); omega)
theorem yC {F:List Nat} {p:Nat->Bool} (e:F=flagsT.cps.toList.filter p):flagsT.cps.toList.filter (λc=>decide (c∈F))=F:=by
 have h:flagsT.cps.toList.filter (λc=>decide (c∈F))=flagsT.cps.toList.filter p:=by
   refine List.filter_congr λc hc=>?_
   have hm:c∈F ↔ p c=true:=by rw [e,Ct]; exact ⟨λz=>z.2,λz=>⟨hc,z⟩⟩
   cases hp:p c with
   | true=>exact Ap (hm.mpr hp)
   | false=>exact Au λz=>by rw [hm.mp z] at hp; cases hp
 rw [h,<-e]
theorem qP (F:List Nat):∀ L:List Nat,L.filterMap (λc=>if decide (c∈F)=true then some (V.str (one c)) else none)=((L.filter λc=>decide (c∈F)).map one).map V.str
 | []=>rfl
 | c :: r=>by
   rw [Dm,Fa]
   by_cases hg:decide (c∈F)=true
   · rw [if_pos hg,if_pos hg,Ar,Ar,<-qP F r]
   · rw [if_neg hg,if_neg hg,<-qP F r]
theorem aZE {f g:Nat->Option Int} {hs:List (Option (List Nat))} {L:List Nat} {cws:List (List Nat)} {W:List Wt} {F:List Nat} (hf0:∀ c,0<=aL f c) (hg:∀ c,aL g c=aL f c + cnt (bF hs L) c) (h:LackOk cws (jH f hs L) W F):LackOk cws (aL g) W F:=by
 refine ⟨h.sub,h.flags,h.all,?_⟩
 have e:F.map (aL g)=F.map (jH f hs L):=Cz λc hc=>by
   obtain ⟨p,hp⟩:=h.flags
   rw [hp] at hc
   rw [vY hf0,if_pos (flags_mem.mp (Ct.mp hc).1),hg c]
 rw [e]
 exact h.few
def nN:Sp:=λvs H Q _=>∃ (r a b l1 l2:Addr) (kvs:List (Key × V)) (f:Nat->Option Int) (us:List V) (hs:List (Option (List Nat))) (n:Nat) (cw:List Nat),vs=[.ref r,.ref a,.ref b,.int ((n:Nat):Int),.str (aZ cw)]/\H r=some (.lst [.ref l1,.ref l2])/\iR H a b kvs f us hs n cw/\kvs.length<=500/\(∀ c,aL f c<=1000)/\LackAt H (bT hs cw (aM hs n)) (jH f hs (n :: aM hs n)) l1 l2/\
 ∀ H',Same H H'->Q (.bl true) H'
theorem sc_l_is_due:FnScope ["_law_told", "_law_locker_here", "_law_halyards_here", "_law_number", "_law_word_here", "_law_wants", "_law_flags", "_law_others_here", "_law_pool_here"] ["_law_told", "_law_locker_here", "_law_halyards_here", "_law_number", "_law_word_here"] (aG dY):=⟨rfl,rfl,rfl,by decide +kernel,rfl,by decide +kernel,by decide +kernel⟩
theorem vL {Zo Zz Zr Zx Zs Zp Zu Zw Zy Zt Zv Zq:Addr} {f:Addr} {fd:FuncData} (F:Fun K "_law_is_due" "_law_is_due" dY f fd) (G:Gs K mg Zo Zz Zr Zx Zs Zp Zu Zw Zy Zt Zv Zq) (c_l_others:Cal P w K mg base 1 "_law_others" ["_law_halyards_here", "_law_number"] oA) (c_l_pool:Cal P w K mg base 1 "_law_pool" ["_law_locker_here", "_law_halyards_here", "_law_numbers"] rQ) (c_l_are_short:Cal P w K mg base 2 "_law_are_short" ["_law_locker_here", "_law_words_here", "_law_wants", "_law_flags"] iZ) (c_l_words:Cal P w K mg base 2 "_law_words" ["_law_halyards_here", "_law_word_here", "_law_numbers"] qH):FnOk P w K mg base CX0 3 f fd ["_law_told", "_law_locker_here", "_law_halyards_here", "_law_number", "_law_word_here"] nN:=by
 refine F.ok sc_l_is_due (λvs H Q E h=>?_) (λcdv A outer s H vs Q E hr h=>?_)
 · obtain ⟨r,a,b,l1,l2,kvs,f,us,hs,n,cw,rfl,_⟩:=h; rfl
 obtain ⟨r,a,b,l1,l2,kvs,f,us,hs,n,cw,rfl,er,⟨ha,lk,hf0,hb,hat,ok,h6,hn,hc1,hc7,hcL⟩,hkl,hf1,⟨rs,W,F,el1,hwt,el2,hlo⟩,q⟩:=h
 refine ⟨_,(@aF _ _ _ _ _ (zK (mv 0) (bZA rfl (fJ (aQ (i:=5) sc_l_is_due.nd rfl (Or.inl rfl)) (fJ (aQ (i:=6) sc_l_is_due.nd rfl (Or.inr rfl)) tO)))) (@aF _ _ _ _ _ (cT (PW.pt (lT (jV (eW (bA cZX rfl G.b_isinstance dR (aA (mv 5) (aA (aQL rfl G.b_list fI) aB))))) (lT (jV (eW (bA cZX rfl G.b_isinstance dR (aA (mv 6) (aA (aQL rfl G.b_list fI) aB))))) (nL (bC (dJI hr.units) (mv 5) (bA (aJD (Ec (Fv (by decide) _) hr.units)) rfl G.b_sorted aZM (aA (mv 5) aB)) (bG _)))))) (@aI _ _ _ (aV iH)) bS) (@aF _ _ _ _ _ (cT (bC (cZH hr.units0) (dC rfl (mR fM) (fZ (N:=["_law_flag", "_law_flags"]) ["_law_told", "_law_locker_here", "_law_halyards_here", "_law_number", "_law_word_here", "_law_wants", "_law_flags", "_law_others_here", "_law_pool_here"] (aG dY) [none,some 6] rfl rfl rfl (λx h=>cA h) (by decide +kernel)) (by decide +kernel) rfl (by decide +kernel) (λC s₀ H₀ ex=>(aQ (i:=0) (show List.Nodup (["_law_flag", "_law_flags"]:List Str) by decide +kernel) rfl (Or.inl rfl))) (λC s₀ H₀ ex=>(jK (bC eQE (mv 0) (mv 1) (by rfl)))) (λC s₀ H₀ ex=>(mv 0))) (mv 6) (bG _)) (@aI _ _ _ (aV iH)) bS) (@aF _ _ _ _ _ (@aP _ _ 7 _ _ _ _ sc_l_is_due.nd (by rfl) (by exact (Or.inl rfl)) (aX c_l_others hr (by decide) rfl (aA (mv 2) (aA (mv 3) aB))) (by rfl) (by first | exact Or.inl rfl | exact Or.inr rfl)) (@aF _ _ _ _ _ (@aP _ _ 8 _ _ _ _ sc_l_is_due.nd (by rfl) (by exact (Or.inl rfl)) (aX c_l_pool hr (by decide) rfl (aA (mv 1) (aA (mv 2) (aA (aT bZ (bE (aA (mv 3) aB)) (mv 7)) aB)))) (by rfl) (by first | exact Or.inl rfl | exact Or.inr rfl)) (@aI _ _ _ (aV (aX c_l_are_short hr (by decide) rfl (aA (mv 8) (aA (aX c_l_words hr (by decide) rfl (aA (mv 2) (aA (mv 4) (aA (mv 7) aB)))) (aA (mv 5) (aA (mv 6) aB)))))))))))),?_⟩
 have r1:=aO el1
 have r2:=aO el2
 have rr:=aO er
 have hol:=lO hn
 have hok:∀ k∈aM hs n,k < hs.length/\(hs.getD k none).isSome=true:=λk hk=>⟨(iJ hk).1,(iJ hk).2.1⟩
 have hww:=kC (cw:=cw) ok ⟨hc7,hcL⟩ hok
 have hwl:(bT hs cw (aM hs n)).length<=7:=by unfold bT; rw [Ay,Ab]; omega
 have hW56:W.length<=56:=Bb hlo.sub.length_le (Bb (oU (λc hc=>(hww c hc).1) _) (by omega))
 obtain ⟨pF,hpF⟩:=hlo.flags
 have hF27:F.length<=27:=by rw [hpF]; exact Bb (List.length_filter_le _ _) (by decide)
 walk_at "go"
 refine aJ9 (ks:=W.map λw=>((w.1:Int),(w.2:Int))) r1 (by rw [Ab,hwt.1]) (λi p k hp hk=>?_) (by rw [hwt.1]; omega) ?_ λp1 hp1=>?_
 · rw [Ag] at hk
   cases ew:W[i]? with
   | none=>rw [ew] at hk; cases hk
   | some w=>rw [ew] at hk; cases hk; exact hwt.2 i p w hp ew
 · exact List.Pairwise.map _ (λ_ _ h=>h) ((aXX _ _).sublist hlo.sub)
 have s1:=aE hp1 (.lst (rs.map V.ref))
 refine eQP 0 (aH s1 r1) bV rfl (λj x y hx hy=>?_) ?_
 · rw [hx] at hy
   cases hy
   rw [Ag] at hx
   cases e:rs[j]? with
   | none=>rw [e] at hx; cases hx
   | some p=>rw [e] at hx; cases hx; exact Alx.same (.inr ⟨p,rfl⟩)
 generalize upd H p1 (.lst (rs.map V.ref))=H1 at s1 ⊢
 walk_at "go"
 refine aXR (λc=>if decide (c∈F)=true then some (.str (one c)) else none) (by decide) (λi3 c Hc2 A' B' hc sm2 hA'=>?_) (λD H2 hD s2 e2=>?_)
 · have r:=hA' _ (Same.refl _)
   have r22:=aH (s1.trans sm2) r2
   walk_at "go"
   refine ⟨Wk.set rfl (Wk.refl _),?_⟩
   walk_at "go"
   refine cZI (neg:=false) r22 rfl (dG _) ?_
   rw [if_neg (by decide),show inV (V.str ⟨#[c]⟩) ((F.map one).map V.str)=decide (c∈F) from xK]
   refine gD (λhg=>?_) (λhg=>?_)
   · rw [if_pos hg] at r
     walk_at "go"
     exact r
   · rw [if_neg hg] at r
     exact r
 rw [show (Str.ofString "abcdefghijklmnopqrstuvw1234")=flagsT from rfl,qP,yC hpF] at e2
 have s02:=s1.trans s2
 refine vK (aO e2) (aH s02 r2) (dG _) (dG _) ?_
 rw [if_pos rfl,aZ3 (dG _)]
 walk_at "go"
 refine ⟨b,us,hs,n,rfl,aH s02 hb,hat.keep s02,by omega,λp3 H3 hp3 s3 e3=>?_⟩
 have s03:=s02.trans s3
 walk_at "go"
 refine ⟨by show 1<=sizeLine; decide,λp4 hp4=>?_⟩
 have s4:=aE hp4 (.lst [V.int ((n:Nat):Int)])
 have e4:(upd H3 p4 (.lst [V.int ((n:Nat):Int)])) p4=some (.lst [V.int ((n:Nat):Int)]):=aD
 generalize upd H3 p4 (.lst [V.int ((n:Nat):Int)])=H4 at s4 e4 ⊢
 walk_at "go"
 refine lB (bI e4) (bI (s4 _ _ e3)) (bQ (by rw [gH]; show 1 + _<=_; omega)) λp5 hp5=>?_
 have s5:=aE hp5 (.lst ((n :: aM hs n).map λk=>V.int ((k:Nat):Int)))
 have e5:rdL (upd H4 p5 (.lst ((n :: aM hs n).map λk=>V.int ((k:Nat):Int)))) p5=some ((n :: aM hs n).map λk=>V.int ((k:Nat):Int)):=bV
 have s05:=s03.trans (s4.trans s5)
 have s35:=s4.trans s5
 change wA _ (upd H4 p5 (.lst ((n :: aM hs n).map λk=>V.int ((k:Nat):Int)))) _
 generalize upd H4 p5 (.lst ((n :: aM hs n).map λk=>V.int ((k:Nat):Int)))=H5 at s05 s35 e5 ⊢
 clear s5
 walk_at "go"
 refine ⟨a,b,p5,kvs,f,us,hs,n :: aM hs n,rfl,s05 _ _ ha,lk,hkl,aH s05 hb,hat.keep s05,ok,e5,by rw [Ay]; omega,λk hk=>by rcases Bc.mp hk with e | e; (· rw [e]; exact hn); (· exact (hok k e).1),λr6 kw6 g6 H6 hr6 s6 e6 lk6 hg6=>?_⟩
 have s06:=s05.trans s6
 walk_at "go"
 refine ⟨b,p3,us,hs,cw,aM hs n,rfl,aH s06 hb,hat.keep s06,ok,aO ((s35.trans s6) _ _ e3),by omega,hok,λr7 H7 hr7 s7 e7=>?_⟩
 have s07:=s06.trans s7
 have fl:=fV ok (n :: aM hs n)
 rw [Ay] at fl
 walk_at "go"
 refine ⟨r6,r7,l1,l2,kw6,g6,bT hs cw (aM hs n),rs,W,F,rfl,s7 _ _ e6,lk6,λc=>?_,aO e7,by omega,λc hc=>(hww c hc).1,s07 _ _ el1,⟨hwt.1,λj p w hp hw=>s07 _ _ (hwt.2 j p w hp hw)⟩,s07 _ _ el2,aZE hf0 hg6 hlo,λH8 s8=>q _ (s07.trans s8)⟩
 have h1:=hf0 c
 have h2:=hf1 c
 have h3:=gB (bF hs (n :: aM hs n)) c
 have h4:cnt (bF hs (n :: aM hs n)) c<=((bF hs (n :: aM hs n)).length:Int):=Int.ofNat_le.mpr List.countP_le_length
 rw [hg6 c]
 omega
theorem bJ0 (cw:List Nat):Hg cw cw:=⟨rfl,λk g hk=>ch_iff.mpr (.inl (by rw [Ad,hk]; rfl))⟩
theorem cXH {f f':Nat->Option Int} {hs:List (Option (List Nat))} {n:Nat} {cw:List Nat} (hf0:∀ c,0<=aL f c) (hf':∀ c,aL f' c=aL f c + cnt cw c) (hcL:∀ d∈cw,bK d):qB f' hs n cw []:=by
 have hf0':∀ c,0<=aL f' c:=λc=>by rw [hf' c]; have:=hf0 c; have:=gB cw c; omega
 unfold qB
 refine CanL.canH ⟨[cw],.cons (bJ0 cw) .nil,λc=>?_⟩
 rw [vY hf0',show [cw].flatten=cw by simp,<-aXB]
 by_cases hc:lE c
 · rw [if_pos hc,hf' c]
   have:=hf0 c
   have:=gB (bF hs [n]) c
   omega
 · rw [if_neg hc,xP λz=>hc (.inl (hcL c z))]
   exact Fn _
def sX:Sp:=λvs H Q _=>∃ (a b:Addr) (kvs:List (Key × V)) (f:Nat->Option Int) (us:List V) (hs:List (Option (List Nat))) (n:Nat) (cw:List Nat),vs=[.ref a,.ref b,.int ((n:Nat):Int),.str (aZ cw)]/\iR H a b kvs f us hs n cw/\kvs.length<=100/\(∀ c,aL f c<=1000)/\∀ H',Same H H'->Q (.bl true) H'
theorem sc_l_good:FnScope ["_law_locker_here", "_law_halyards_here", "_law_number", "_law_word_here", "_law_handed", "_law_told", "_law_other", "_law_one", "_law_more", "_law_letter"] ["_law_locker_here", "_law_halyards_here", "_law_number", "_law_word_here"] (aG iC):=⟨rfl,rfl,rfl,by decide +kernel,rfl,by decide +kernel,by decide +kernel⟩
theorem aJ4 {Zo Zz Zr Zx Zs Zp Zu Zw Zy Zt Zv Zq:Addr} {f:Addr} {fd:FuncData} (F:Fun K "_law_good" "_law_good" iC f fd) (G:Gs K mg Zo Zz Zr Zx Zs Zp Zu Zw Zy Zt Zv Zq) (c_l_tried:Cal P w K mg base 13 "_law_tried" ["_law_locker_here", "_law_halyards_here", "_law_number", "_law_word_here", "_law_way"] pX) (c_l_is_due:Cal P w K mg base 3 "_law_is_due" ["_law_told", "_law_locker_here", "_law_halyards_here", "_law_number", "_law_word_here"] nN) (c_hauled:oE P w K mg base 12 "hauled" ["locker", "halyards", "number", "word"] (nJ Zo)):FnOk P w K mg base CX0 14 f fd ["_law_locker_here", "_law_halyards_here", "_law_number", "_law_word_here"] sX:=by
 refine F.ok sc_l_good (λvs H Q E h=>?_) (λcdv A outer s H vs Q E hr h=>?_)
 · obtain ⟨a,b,kvs,f,us,hs,n,cw,rfl,_⟩:=h; rfl
 obtain ⟨a,b,kvs,f,us,hs,n,cw,rfl,hin,hkl,hf1,q⟩:=h
 have hin':=hin
 obtain ⟨ha,lk,hf0,hb,hat,ok,h6,hn,hc1,hc7,hcL⟩:=hin'
 have hinK:∀ H',Same H H'->iR H' a b kvs f us hs n cw:=λH' s=>⟨s _ _ ha,lk,hf0,aH s hb,hat.keep s,ok,h6,hn,hc1,hc7,hcL⟩
 have hul:=hat.len
 obtain ⟨bN,hbN⟩:∃ bN:Bool,bN=true ↔ NoS f hs n cw:=by
   by_cases e:NoS f hs n cw
   · exact ⟨true,λ_=>e,λ_=>rfl⟩
   · exact ⟨false,(λz=>nomatch z),λz=>absurd z e⟩
 refine ⟨_,(@aF _ _ _ _ _ (@aP _ _ 4 _ _ _ _ sc_l_good.nd (by rfl) (by exact (Or.inl rfl)) (bE (aA (bM pS rfl G.b_dict uH (aA (mv 0) aB)) (aA (dC rfl (bW (mv 1)) (bQ5 (N:=["_law_hoist_here"]) (by decide +kernel) (by decide +kernel)) (by decide +kernel) rfl (by decide +kernel) (λC s₀ H₀ ex=>(aQ (i:=0) (show List.Nodup (["_law_hoist_here"]:List Str) by decide +kernel) rfl (Or.inl rfl))) (λC s₀ H₀ ex=>gS) (λC s₀ H₀ ex=>(wG (bC bZ3 (mv 0) cV (bG _)) cV (bM lG rfl G.b_list fI (aA (mv 0) aB))))) aB))) (by rfl) (by first | exact Or.inl rfl | exact Or.inr rfl)) (@aF _ _ _ _ _ (@aP _ _ 5 _ _ _ _ sc_l_good.nd (by rfl) (by exact (Or.inl rfl)) (aX c_l_tried hr (by decide) rfl (aA (bH cC (mv 4) aJ (λ_ _=>rfl)) (aA (bH cC (mv 4) aJ (λ_ _=>rfl)) (aA (mv 2) (aA (mv 3) (aA aJ aB)))))) (by rfl) (by first | exact Or.inl rfl | exact Or.inr rfl)) (@aF _ _ _ _ _ (@aP _ _ 6 _ _ _ _ sc_l_good.nd (by rfl) (by exact (Or.inl rfl)) (aX c_l_tried hr (by decide) rfl (aA (bH cC (mv 4) aJ (λ_ _=>rfl)) (aA (bH cC (mv 4) aJ (λ_ _=>rfl)) (aA (mv 2) (aA (mv 3) (aA aJ aB)))))) (by rfl) (by first | exact Or.inl rfl | exact Or.inr rfl)) (@aF _ _ _ _ _ (cT (PW.pt (lT (bC (dJ3 hr.units) (mv 4) (bE (aA (mv 0) (aA (mv 1) aB))) (bG _)) (nL (bC bJ4 (gK (bX2 (Ec (Fv (by decide) _) hr.units)) (mv 5) (bE (aA cV (aA cV aB))) (bG _)) (gK (bX2 (Ec (Fv (by decide) _) hr.units)) (mv 6) (bE (aA cV (aA cV aB))) (bG _)) (bG _))))) (@aI _ _ _ (aV iH)) bS) (@aF _ _ _ _ _ (bP Ba rfl (bW (bE (aA (mv 5) (aA (mv 6) aB)))) (aQ (i:=7) sc_l_good.nd rfl (Or.inl rfl)) (@aI _ _ _ (cT (PW.pt (tY (bC (cJT (Ec (Fv (by decide) _) hr.units)) (mv 7) (bE (aA cV (aA cV aB))) (bG _)) (oQ (jV (eW (aX c_l_is_due hr (by decide) rfl (aA (mv 7) (aA (mv 0) (aA (mv 1) (aA (mv 2) (aA (mv 3) aB))))))))))) (@aI _ _ _ (aV iH)) bS))) (@aF _ _ _ _ _ (@aP _ _ 8 _ _ _ _ sc_l_good.nd (by rfl) (by exact (Or.inl rfl)) (bM pS rfl G.b_dict uH (aA (mv 0) aB)) (by rfl) (by first | exact Or.inl rfl | exact Or.inr rfl)) (@aF _ _ _ _ _ (bP Ba rfl (mR (mv 3)) (aQ (i:=9) sc_l_good.nd rfl (Or.inl rfl)) (@aI _ _ _ (dB (Room.u1 hr) (mv 8) (mv 9) (aT bZ (dP Bl Ce (nP (Room.u1 hr)) (mv 8) (aA (mv 9) (aA aJ aB))) aJ) rfl))) (@aI _ _ _ (aV (bXB (gK (dJU hr.units) (mv 4) (bE (aA (mv 0) (aA (mv 1) aB))) (bG _)) (aQH (gK (bZO hr.units0) (bH cC (kJ c_hauled sN hr (by decide) rfl (aA (mv 8) (aA (mv 1) (aA (mv 2) (aA (mv 3) aB))))) aJ (λ_ _=>rfl)) (bE aB) (bG _))))))))))))),?_⟩
 walk_at "go"
 refine oW (.inl ha) λd hd=>?_
 have s1:=aE hd (.dK kvs)
 have e1:(upd H d (.dK kvs)) d=some (.dK kvs):=aD
 generalize upd H d (.dK kvs)=H1 at s1 e1 ⊢
 have hb1:=aH s1 hb
 walk_at "go"
 refine aXD (hs:=hs) hb1 (aY (by omega)) hul (λi x h Hc A B hx hh sm hA=>?_) (λD Hd vs hD sD hdd hatD hfr=>?_)
 · have hv:=(hat.keep (s1.trans sm)).val i x h hx hh
   cases h with
   | none=>
     obtain rfl:x=V.non:=hv
     walk_at "go"
     refine ⟨Wk.set rfl (Wk.refl _),?_⟩
     walk_at "go"
     rw [show decide (V.non=V.non)=true from rfl]
     walk_at "go"
     exact hA .non _ (Same.refl _) rfl λp z=>nomatch z
   | some cs=>
     obtain ⟨pc,rfl,hpc⟩:=hv
     have rc:=aO hpc
     walk_at "go"
     refine ⟨Wk.set rfl (Wk.refl _),?_⟩
     walk_at "go"
     rw [show decide (V.ref pc=V.non)=false from Au (λz=>nomatch z)]
     walk_at "go"
     intro l2 hl2
     exact hA (.ref l2) _ (aE hl2 _) ⟨l2,rfl,aD⟩ λp z=>by cases z; exact hl2
 · walk_at "go"
   refine ⟨by show 2<=sizeLine; decide,λpH hpH=>?_⟩
   have s2:=aE hpH (.lst [.ref d,.ref D])
   have e2:(upd Hd pH (.lst [.ref d,.ref D])) pH=some (.lst [.ref d,.ref D]):=aD
   generalize upd Hd pH (.lst [.ref d,.ref D])=H2 at s2 e2 ⊢
   have sd2:=sD.trans s2
   have s02:=s1.trans sd2
   have hin2:∀ H',Same H2 H'->iR H' d D kvs f vs hs n cw:=λH' s=>⟨(sd2.trans s) _ _ e1,lk,hf0,aO ((s2.trans s) _ _ hdd),hatD.keep (s2.trans s),ok,h6,hn,hc1,hc7,hcL⟩
   have r2:=aO e2
   walk_at "go"
   refine cL r2 (v:=.ref d) rfl ?_
   walk_at "go"
   refine cL r2 (v:=.ref D) rfl ?_
   walk_at "go"
   refine ⟨d,D,kvs,f,vs,hs,n,cw,0,rfl,hin2 _ (Same.refl _),λt1 H3 ht1 s3 hT1=>?_⟩
   have r3:=aH s3 r2
   walk_at "go"
   refine cL r3 (v:=.ref d) rfl ?_
   walk_at "go"
   refine cL r3 (v:=.ref D) rfl ?_
   walk_at "go"
   refine ⟨d,D,kvs,f,vs,hs,n,cw,1,rfl,hin2 _ s3,λt2 H4 ht2 s4 hT2=>?_⟩
   have s24:=s3.trans s4
   have hT1:=hT1.keep s4
   have alw:∀ H' p,Same H2 H'->rdL H' p=some [.ref a,.ref b]->Alw H' 4 (.ref pH) (.ref p):=λH' p s hp=>by
     refine .lst (aH s r2) hp rfl λj x y hx hy=>?_
     match j,hx,hy with
     | 0,hx,hy=>cases hx; cases hy; exact .dic (.inl ((hin2 _ s).1)) (.inl ((s02.trans s) _ _ ha)) (lk.deq lk)
     | 1,hx,hy=>cases hx; cases hy; exact Alw.up ((hatD.keep (s2.trans s)).alw (hat.keep (s02.trans s)) (aO ((s2.trans s) _ _ hdd)) (aH (s02.trans s) hb))
     | j + 2,hx,_=>cases hx
   walk_at "go"
   refine ⟨by show 2<=sizeLine; decide,λp5 hp5=>?_⟩
   have s5:=aE hp5 (.lst [.ref a,.ref b])
   have e5:rdL (upd H4 p5 (.lst [.ref a,.ref b])) p5=_:=bV
   have s25:=s24.trans s5
   generalize upd H4 p5 (.lst [.ref a,.ref b])=H5 at s5 e5 s25 ⊢
   refine cJE 3 (alw _ _ s25 e5) ?_
   walk_at "go"
   refine ⟨by show 2<=sizeLine; decide,λp6 hp6=>?_⟩
   have s6:=aE hp6 (.lst [.non,.non])
   have e6:rdL (upd H5 p6 (.lst [.non,.non])) p6=_:=bV
   have s46:=s5.trans s6
   generalize upd H5 p6 (.lst [.non,.non])=H6 at s6 e6 s46 ⊢
   refine (hT1.keep s46).nn e6 hbN ?_
   walk_at "go"
   refine ⟨by show 2<=sizeLine; decide,λp7 hp7=>?_⟩
   have s7:=aE hp7 (.lst [.non,.non])
   have e7:rdL (upd H6 p7 (.lst [.non,.non])) p7=_:=bV
   have s47:=s46.trans s7
   generalize upd H6 p7 (.lst [.non,.non])=H7 at s7 e7 s47 ⊢
   refine (hT2.keep s47).nn e7 hbN ?_
   walk_at "go"
   refine gD (λhz=>absurd hz (by simp)) (λ_=>?_)
   walk_at "go"
   refine ⟨by show 2<=sizeLine; decide,λp8 hp8=>?_⟩
   have s8:=aE hp8 (.lst [.ref t1,.ref t2])
   have e8:rdL (upd H7 p8 (.lst [.ref t1,.ref t2])) p8=some [.ref t1,.ref t2]:=bV
   have s48:=s47.trans s8
   generalize upd H7 p8 (.lst [.ref t1,.ref t2])=H8 at s8 e8 s48 ⊢
   have s28:=s24.trans s48
   clear s5 s6 s7 s46 s47 s25 e5 e6 e7 s8 hp5 hp6 hp7 hp8
   walk_at "go"
   refine cN (xs:=[.ref t1,.ref t2]) (λi σ H'=>∃ (v7:Option V),σ=[some (.ref a),some (.ref b),some (.int ((n:Nat):Int)),some (.str (aZ cw)),some (.ref pH),some (.ref t1),some (.ref t2),v7,none,none]/\Same H8 H')
     ⟨_,rfl,Same.refl _⟩ (λi σ H' _ ⟨_,_,e⟩=>aH e e8) ?_ ?_
   · rintro i x σ H9 hx ⟨v7,rfl,s9⟩
     obtain ⟨t,rfl,hT⟩:∃ t,x=.ref t/\ToldAt H9 f hs n cw t:=by
       match i,hx with
       | 0,hx=>cases hx; exact ⟨t1,rfl,hT1.keep (s48.trans s9)⟩
       | 1,hx=>cases hx; exact ⟨t2,rfl,hT2.keep (s48.trans s9)⟩
       | i + 2,hx=>cases hx
     walk_at "go"
     refine ⟨by show 2<=sizeLine; decide,λp10 hp10=>?_⟩
     have s10:=aE hp10 (.lst [.non,.non])
     have e10:rdL (upd H9 p10 (.lst [.non,.non])) p10=_:=bV
     generalize upd H9 p10 (.lst [.non,.non])=H10 at s10 e10 ⊢
     have hT10:=hT.keep s10
     have s910:=s9.trans s10
     refine hT10.nn e10 hbN ?_
     cases bN with
     | false=>
       walk_at "go"
       exact ⟨_,rfl,s910⟩
     | true=>
       rcases hT10 with ⟨z,_⟩ | ⟨_,l1,l2,et,hla⟩
       · exact absurd (hbN.mp rfl) z
       walk_at "go"
       refine ⟨t,a,b,l1,l2,kvs,f,us,hs,n,cw,rfl,et,hinK _ (s02.trans (s28.trans s910)),by omega,hf1,hla,λH11 s11=>?_⟩
       walk_at "go"
       exact ⟨_,rfl,s910.trans s11⟩
   · rintro σ H9 ⟨v7,rfl,s9⟩
     have s29:=s28.trans s9
     have s09:=s02.trans s29
     walk_at "go"
     refine oW (.inl (s09 _ _ ha)) λm hm=>?_
     have s10:=aE hm (.dK kvs)
     have e10:(upd H9 m (.dK kvs)) m=some (.dK kvs):=aD
     have hm0:H m=none:=none_of s09 hm
     have hm2:H2 m=none:=none_of s29 hm
     generalize upd H9 m (.dK kvs)=H10 at s10 e10 ⊢
     walk_at "go"
     refine aQJ (λj σ H'=>∃ (v9:Option V) (kv1:List (Key × V)) (f1:Nat->Option Int),σ=[some (.ref a),some (.ref b),some (.int ((n:Nat):Int)),some (.str (aZ cw)),some (.ref pH),some (.ref t1),some (.ref t2),v7,some (.ref m),v9]/\Same H2 H'/\H' m=some (.dK kv1)/\Lk kv1 f1/\(∀ c,aL f1 c=aL f c + cnt (cw.take j) c)/\kv1.length<=100 + j)
       ⟨_,kvs,f,rfl,s29.trans s10,e10,lk,λc=>by rw [Ee]; show _=_ + ((0:Nat):Int); omega,by omega⟩ ?_ ?_
     · rintro j x σ H11 hx ⟨v9,kv1,f1,rfl,s11,e11,lk1,hf1',hl1⟩
       replace hx:cw[j]?=some x:=hx
       have hj:j < cw.length:=(Ae.mp hx).1
       walk_at "go"
       refine nW (z:=one x) (.inl e11) ?_
       rw [lk1.val x,gJ]
       walk_at "go"
       refine eU (z:=one x) e11 (aY (by omega)) ?_
       refine ⟨_,_,_,rfl,aW hm2 s11,aD,lk1.put x _,λc=>?_,?_⟩
       · rw [xJ,Az,hx,aX6]
         have h1:=hf1' c
         have h2:=hf1' x
         by_cases e:c=x
         · rw [if_pos e,e]
           have h3:cnt (some x).toList x=1:=by show ((List.countP _ [x]:Nat):Int)=1; simp
           omega
         · rw [if_neg e]
           have h3:cnt (some x).toList c=0:=xP λz=>e (Aw.mp z)
           omega
       · have:=cO kv1 (Sum.inr (one x)) (.int (aL f1 x + 1))
         omega
     · rintro σ H11 ⟨v9,kv1,f1,rfl,s11,e11,lk1,hf1',hl1⟩
       replace hf1':∀ c,aL f1 c=aL f c + cnt cw c:=λc=>by
         have h:=hf1' c
         rwa [Bh (by show cw.length<=_; exact Ah _)] at h
       have hf10:∀ c,0<=aL f1 c:=λc=>by rw [hf1' c]; have:=hf0 c; have:=gB cw c; omega
       have hcan:qB f1 hs n cw []:=cXH hf0 hf1' hcL
       walk_at "go"
       refine ⟨by show 2<=sizeLine; decide,λp12 hp12=>?_⟩
       have s12:=s11.trans (aE hp12 (.lst [.ref a,.ref b]))
       have e12:rdL (upd H11 p12 (.lst [.ref a,.ref b])) p12=_:=bV
       have em12:=aE hp12 (.lst [.ref a,.ref b]) _ _ e11
       generalize upd H11 p12 (.lst [.ref a,.ref b])=H12 at s12 e12 em12 ⊢
       refine cJE 3 (alw _ _ s12 e12) ?_
       have s012:=s02.trans s12
       walk_at "go"
       refine ⟨m,b,kv1,f1,us,hs,n,cw,rfl,⟨em12,lk1,hf10,aH s012 hb,hat.keep s012,ok,h6,hn,hc1,hc7,hcL⟩,λt L B R ks gs j vs' kwr H13 s13 ht et hL eL hfst hgs hcnt hB eB hatB hR eR lkR=>?_,λhno=>absurd hcan (hno [] (List.nil_sublist _))⟩
       obtain ⟨rfl,_⟩:ks=[]/\j=0:=aJ3 hcan hfst
       walk_at "go"
       refine lX et (v:=.ref L) rfl ?_
       walk_at "go"
       refine ⟨by decide,λp14 hp14=>?_⟩
       refine vK (aH (aE hp14 _) (aO eL)) bV rfl rfl ?_
       exact q _ (s012.trans (s13.trans (aE hp14 _)))
theorem sc_law:FnScope ["_law_script", "_law_start", "_law_locker_here", "_law_halyards_here", "_law_number", "_law_word_here"] ["_law_script"] (aG mO):=⟨rfl,rfl,rfl,by decide +kernel,rfl,by decide +kernel,by decide +kernel⟩
theorem cJV {Zo Zz Zr Zx Zs Zp Zu Zw Zy Zt Zv Zq:Addr} {f:Addr} {fd:FuncData} (F:Fun K "law" "law" mO f fd) (G:Gs K mg Zo Zz Zr Zx Zs Zp Zu Zw Zy Zt Zv Zq) (c_l_drawn:Cal P w K mg base 4 "_law_drawn" ["_law_script", "_law_start"] (qL K)) (c_l_good:Cal P w K mg base 14 "_law_good" ["_law_locker_here", "_law_halyards_here", "_law_number", "_law_word_here"] sX):FnOk P w K mg base CX0 15 f fd ["_law_script"] (tG K):=by
 refine F.ok sc_law (λvs H Q E h=>?_) (λcdv A outer s H vs Q E hr h=>?_)
 · obtain ⟨a,ns,rfl,_⟩:=h; rfl
 obtain ⟨a,ns,rfl,hS,h63,q⟩:=h
 refine ⟨_,(@aF _ _ _ _ _ (bP Ba rfl (aZK rfl G.b_range (aA aJ (aA (bA (cZ1 rfl) rfl G.b_max bX9 (aA aJ (aA (bA (cZY rfl) rfl G.b_min bZ2 (aA (bA mK rfl G.b_len dE (aA (mv 0) aB)) (aA aJ aB))) aB))) (aA aJ aB)))) (aQ (i:=1) sc_law.nd rfl (Or.inl rfl)) (@aF _ _ _ _ _ (zK (aX c_l_drawn hr (by decide) rfl (aA (mv 0) (aA (mv 1) aB))) (bZA rfl (fJ (aQ (i:=2) sc_law.nd rfl (Or.inl rfl)) (fJ (aQ (i:=3) sc_law.nd rfl (Or.inl rfl)) (fJ (aQ (i:=4) sc_law.nd rfl (Or.inl rfl)) (fJ (aQ (i:=5) sc_law.nd rfl (Or.inl rfl)) tO)))))) (@aI _ _ _ (cT (jV (eW (aX c_l_good hr (by decide) rfl (aA (mv 2) (aA (mv 3) (aA (mv 4) (aA (mv 5) aB))))))) (@aI _ _ _ (aV iH)) bS)))) (@aI _ _ _ (aV iH))),?_⟩
 walk_at "go"
 refine ⟨_,_,rfl,.inl hS,?_⟩
 have hnl:(ns.map V.int).length=ns.length:=Ab ..
 rw [hnl]
 walk_at "go"
 obtain ⟨m,hm⟩:∃ m:Int,m=(if (1:Int) < (if (50:Int) < (ns.length:Int) then 50 else (ns.length:Int)) then (if (50:Int) < (ns.length:Int) then 50 else (ns.length:Int)) else 1):=⟨_,rfl⟩
 have hm1:m<=50:=by rw [hm]; split <;> split <;> omega
 have hm2:0<=m:=by rw [hm]; split <;> split <;> omega
 rw [<-hm]
 refine ⟨⟨by omega,by omega,by omega,by omega,by omega,by omega⟩,?_⟩
 refine aZP (λi σ H'=>∃ (v1 v2 v3 v4 v5:Option V),σ=[some (.ref a),v1,v2,v3,v4,v5]/\Same H H') ⟨_,_,_,_,_,rfl,Same.refl _⟩ ?_ ?_
 · rintro i σ H3 hi ⟨v1,v2,v3,v4,v5,rfl,s3⟩
   have hat:=cX0 (by omega) hi
   have hS3:=s3.seq hS
   walk_at "go"
   refine ⟨a,ns,_,rfl,hS3,by omega,by omega,λr l b kvs f us hs n cw H4 s4 e4 eb hin hkl hf1=>?_⟩
   have r4:=aO e4
   walk_at "go"
   refine ⟨l,b,kvs,f,us,hs,n,cw,rfl,hin,hkl,hf1,λH5 s5=>?_⟩
   walk_at "go"
   exact ⟨_,_,_,_,_,rfl,s3.trans (s4.trans s5)⟩
 · rintro σ H3 ⟨v1,v2,v3,v4,v5,rfl,s3⟩
   walk_at "go"
   exact q _
end
local macro_rules | `(tactic| walk_at "bd") => `(tactic| (intro a1 a2 a3 a4 a5 a6 us hl; iterate 7 (all_goals try (rcases us with _ | ⟨u,us⟩; (· first | rfl | (simp at hl)))); all_goals (simp at hl)))
theorem all_mk {l:PySem.W.OpenLaw} {w:World} {K:PySem.W.Frag} {h:Heap} {mg:Str->Option Value} {fa:Addr} {od_0 an_0 od_1 an_1 od_2 an_2 od_3 an_3 od_4 an_4 od_5 an_5 od_6 an_6 od_7 an_7 od_8 an_8 od_9 an_9 od_10 an_10 od_11 an_11 od_12 an_12 od_13 an_13 od_14 an_14 od_15 an_15 od_16 an_16 od_17 an_17 od_18 an_18 od_19 an_19 od_20 an_20 od_21 an_21 od_22 an_22 od_23 an_23 od_24 an_24 od_25 an_25 od_26 an_26 od_27 an_27 od_28 an_28 od_29 an_29 od_30 an_30 od_31 an_31 od_32 an_32 od_33 an_33 od_34 an_34 od_35 an_35 od_36 an_36 od_37 an_37 od_38 an_38 od_39 an_39 od_40 an_40 od_41 an_41:Option Addr} {sl_0 sl_1 sl_2 sl_3 sl_4 sl_5 sl_6 sl_7 sl_8 sl_9 sl_10 sl_11 sl_12 sl_13 sl_14 sl_15 sl_16 sl_17 sl_18 sl_19 sl_20 sl_21 sl_22 sl_23 sl_24 sl_25 sl_26 sl_27 sl_28 sl_29 sl_30 sl_31 sl_32 sl_33 sl_34 sl_35 sl_36 sl_37 sl_38 sl_39 sl_40 sl_41:Array (Option Value)} {f_0 f_1 f_2 f_3 f_4 f_5 f_6 f_7 f_8 f_9 f_10 f_11 f_12 f_13 f_14 f_15 f_16 f_17 f_18 f_19 f_20 f_21 f_22 f_23 f_24 f_25 f_26 f_27 f_28 f_29 f_30 f_31 f_32 f_33 f_34 f_35 f_36 f_37 f_38 f_39 f_40 f_41:Addr} {oc_0 kV_0 dc_0 pm_0 cd_0 ct_0 oc_1 kV_1 dc_1 pm_1 cd_1 ct_1 oc_2 kV_2 dc_2 pm_2 cd_2 ct_2 oc_3 kV_3 dc_3 pm_3 cd_3 ct_3 oc_4 kV_4 dc_4 pm_4 cd_4 ct_4 oc_5 kV_5 dc_5 pm_5 cd_5 ct_5 oc_6 kV_6 dc_6 pm_6 cd_6 ct_6 oc_7 kV_7 dc_7 pm_7 cd_7 ct_7 oc_8 kV_8 dc_8 pm_8 cd_8 ct_8 oc_9 kV_9 dc_9 pm_9 cd_9 ct_9 oc_10 kV_10 dc_10 pm_10 cd_10 ct_10 oc_11 kV_11 dc_11 pm_11 cd_11 ct_11 oc_12 kV_12 dc_12 pm_12 cd_12 ct_12 oc_13 kV_13 dc_13 pm_13 cd_13 ct_13 oc_14 kV_14 dc_14 pm_14 cd_14 ct_14 oc_15 kV_15 dc_15 pm_15 cd_15 ct_15 oc_16 kV_16 dc_16 pm_16 cd_16 ct_16 oc_17 kV_17 dc_17 pm_17 cd_17 ct_17 oc_18 kV_18 dc_18 pm_18 cd_18 ct_18 oc_19 kV_19 dc_19 pm_19 cd_19 ct_19 oc_20 kV_20 dc_20 pm_20 cd_20 ct_20 oc_21 kV_21 dc_21 pm_21 cd_21 ct_21 oc_22 kV_22 dc_22 pm_22 cd_22 ct_22 oc_23 kV_23 dc_23 pm_23 cd_23 ct_23 oc_24 kV_24 dc_24 pm_24 cd_24 ct_24 oc_25 kV_25 dc_25 pm_25 cd_25 ct_25 oc_26 kV_26 dc_26 pm_26 cd_26 ct_26 oc_27 kV_27 dc_27 pm_27 cd_27 ct_27 oc_28 kV_28 dc_28 pm_28 cd_28 ct_28 oc_29 kV_29 dc_29 pm_29 cd_29 ct_29 oc_30 kV_30 dc_30 pm_30 cd_30 ct_30 oc_31 kV_31 dc_31 pm_31 cd_31 ct_31 oc_32 kV_32 dc_32 pm_32 cd_32 ct_32 oc_33 kV_33 dc_33 pm_33 cd_33 ct_33 oc_34 kV_34 dc_34 pm_34 cd_34 ct_34 oc_35 kV_35 dc_35 pm_35 cd_35 ct_35 oc_36 kV_36 dc_36 pm_36 cd_36 ct_36 oc_37 kV_37 dc_37 pm_37 cd_37 ct_37 oc_38 kV_38 dc_38 pm_38 cd_38 ct_38 oc_39 kV_39 dc_39 pm_39 cd_39 ct_39 oc_40 kV_40 dc_40 pm_40 cd_40 ct_40 oc_41 kV_41 dc_41 pm_41 cd_41 ct_41:Value} {t_FLAGS:Tok} {t_SUBSTITUTES:Tok} {t_MOST_PLACES:Tok} {Zo:Addr} {Zz:Addr} {Zr:Addr} {Zx:Addr} {Zs:Addr} {Zp:Addr} {Zu:Addr} {Zw:Addr} {Zy:Addr} {Zt:Addr} {Zv:Addr} {Zq:Addr} (X:K.In h) (Gn:h.Ns mainGlobals mg) (hfa:mg "law"=some (.ref fa))
   (a_0:PySem.W.nsIn K mainGlobals "_law_cell"=some (some (.ref f_0))) (l_0:K.lookup f_0=some ⟨oc_0,od_0,.func (PySem.W.fnOf "_law_cell" "_law_cell" (aS gZ) (aR gZ) (aG gZ) .none kV_0 dc_0 pm_0 an_0 cd_0 ct_0),sl_0⟩) (c_0:PySem.W.codeIn K cd_0 "_law_cell"=true) (k_0:PySem.W.keepIn K (.ref f_0)=true)
   (a_1:PySem.W.nsIn K mainGlobals "_law_stream"=some (some (.ref f_1))) (l_1:K.lookup f_1=some ⟨oc_1,od_1,.func (PySem.W.fnOf "_law_stream" "_law_stream" (aS fB) (aR fB) (aG fB) .none kV_1 dc_1 pm_1 an_1 cd_1 ct_1),sl_1⟩) (c_1:PySem.W.codeIn K cd_1 "_law_stream"=true) (k_1:PySem.W.keepIn K (.ref f_1)=true)
   (a_2:PySem.W.nsIn K mainGlobals "_law_choices"=some (some (.ref f_2))) (l_2:K.lookup f_2=some ⟨oc_2,od_2,.func (PySem.W.fnOf "_law_choices" "_law_choices" (aS eE) (aR eE) (aG eE) .none kV_2 dc_2 pm_2 an_2 cd_2 ct_2),sl_2⟩) (c_2:PySem.W.codeIn K cd_2 "_law_choices"=true) (k_2:PySem.W.keepIn K (.ref f_2)=true)
   (a_3:PySem.W.nsIn K mainGlobals "_law_hoist"=some (some (.ref f_3))) (l_3:K.lookup f_3=some ⟨oc_3,od_3,.func (PySem.W.fnOf "_law_hoist" "_law_hoist" (aS fW) (aR fW) (aG fW) .none kV_3 dc_3 pm_3 an_3 cd_3 ct_3),sl_3⟩) (c_3:PySem.W.codeIn K cd_3 "_law_hoist"=true) (k_3:PySem.W.keepIn K (.ref f_3)=true)
   (a_4:PySem.W.nsIn K mainGlobals "_law_word"=some (some (.ref f_4))) (l_4:K.lookup f_4=some ⟨oc_4,od_4,.func (PySem.W.fnOf "_law_word" "_law_word" (aS hZ) (aR hZ) (aG hZ) .none kV_4 dc_4 pm_4 an_4 cd_4 ct_4),sl_4⟩) (c_4:PySem.W.codeIn K cd_4 "_law_word"=true) (k_4:PySem.W.keepIn K (.ref f_4)=true)
   (a_5:PySem.W.nsIn K mainGlobals "_law_halyards"=some (some (.ref f_5))) (l_5:K.lookup f_5=some ⟨oc_5,od_5,.func (PySem.W.fnOf "_law_halyards" "_law_halyards" (aS dL) (aR dL) (aG dL) .none kV_5 dc_5 pm_5 an_5 cd_5 ct_5),sl_5⟩) (c_5:PySem.W.codeIn K cd_5 "_law_halyards"=true) (k_5:PySem.W.keepIn K (.ref f_5)=true)
   (a_6:PySem.W.nsIn K mainGlobals "_law_locker"=some (some (.ref f_6))) (l_6:K.lookup f_6=some ⟨oc_6,od_6,.func (PySem.W.fnOf "_law_locker" "_law_locker" (aS fA) (aR fA) (aG fA) .none kV_6 dc_6 pm_6 an_6 cd_6 ct_6),sl_6⟩) (c_6:PySem.W.codeIn K cd_6 "_law_locker"=true) (k_6:PySem.W.keepIn K (.ref f_6)=true)
   (a_7:PySem.W.nsIn K mainGlobals "_law_drawn"=some (some (.ref f_7))) (l_7:K.lookup f_7=some ⟨oc_7,od_7,.func (PySem.W.fnOf "_law_drawn" "_law_drawn" (aS fD) (aR fD) (aG fD) .none kV_7 dc_7 pm_7 an_7 cd_7 ct_7),sl_7⟩) (c_7:PySem.W.codeIn K cd_7 "_law_drawn"=true) (k_7:PySem.W.keepIn K (.ref f_7)=true)
   (a_8:PySem.W.nsIn K mainGlobals "plain_locker"=some (some (.ref f_8))) (l_8:K.lookup f_8=some ⟨oc_8,od_8,.func (PySem.W.fnOf "plain_locker" "plain_locker" (aS cU) (aR cU) (aG cU) .none kV_8 dc_8 pm_8 an_8 cd_8 ct_8),sl_8⟩) (c_8:PySem.W.codeIn K cd_8 "plain_locker"=true) (k_8:PySem.W.keepIn K (.ref f_8)=true)
   (a_9:PySem.W.nsIn K mainGlobals "put_in"=some (some (.ref f_9))) (l_9:K.lookup f_9=some ⟨oc_9,od_9,.func (PySem.W.fnOf "put_in" "put_in" (aS iE) (aR iE) (aG iE) .none kV_9 dc_9 pm_9 an_9 cd_9 ct_9),sl_9⟩) (c_9:PySem.W.codeIn K cd_9 "put_in"=true) (k_9:PySem.W.keepIn K (.ref f_9)=true)
   (a_10:PySem.W.nsIn K mainGlobals "rising_lists"=some (some (.ref f_10))) (l_10:K.lookup f_10=some ⟨oc_10,od_10,.func (PySem.W.fnOf "rising_lists" "rising_lists" (aS cI) (aR cI) (aG cI) .none kV_10 dc_10 pm_10 an_10 cd_10 ct_10),sl_10⟩) (c_10:PySem.W.codeIn K cd_10 "rising_lists"=true) (k_10:PySem.W.keepIn K (.ref f_10)=true)
   (a_11:PySem.W.nsIn K mainGlobals "sets_of"=some (some (.ref f_11))) (l_11:K.lookup f_11=some ⟨oc_11,od_11,.func (PySem.W.fnOf "sets_of" "sets_of" (aS fU) (aR fU) (aG fU) .none kV_11 dc_11 pm_11 an_11 cd_11 ct_11),sl_11⟩) (c_11:PySem.W.codeIn K cd_11 "sets_of"=true) (k_11:PySem.W.keepIn K (.ref f_11)=true)
   (y_12:PySem.W.typeIn K (.ref f_12)=some (.type "function"))
   (a_12:PySem.W.findIn K (.ref Zo) "__init__"=some (some (.ref f_12))) (l_12:K.lookup f_12=some ⟨oc_12,od_12,.func (PySem.W.fnOf "__init__" "Lack.__init__" (aS eJ) (aR eJ) (aG eJ) .none kV_12 dc_12 pm_12 an_12 cd_12 ct_12),sl_12⟩) (c_12:PySem.W.codeIn K cd_12 "Lack.__init__"=true) (k_12:PySem.W.keepIn K (.ref f_12)=true)
   (a_13:PySem.W.nsIn K mainGlobals "others_hung"=some (some (.ref f_13))) (l_13:K.lookup f_13=some ⟨oc_13,od_13,.func (PySem.W.fnOf "others_hung" "others_hung" (aS cS) (aR cS) (aG cS) .none kV_13 dc_13 pm_13 an_13 cd_13 ct_13),sl_13⟩) (c_13:PySem.W.codeIn K cd_13 "others_hung"=true) (k_13:PySem.W.keepIn K (.ref f_13)=true)
   (a_14:PySem.W.nsIn K mainGlobals "wants_of"=some (some (.ref f_14))) (l_14:K.lookup f_14=some ⟨oc_14,od_14,.func (PySem.W.fnOf "wants_of" "wants_of" (aS dW) (aR dW) (aG dW) .none kV_14 dc_14 pm_14 an_14 cd_14 ct_14),sl_14⟩) (c_14:PySem.W.codeIn K cd_14 "wants_of"=true) (k_14:PySem.W.keepIn K (.ref f_14)=true)
   (a_15:PySem.W.nsIn K mainGlobals "choices_at"=some (some (.ref f_15))) (l_15:K.lookup f_15=some ⟨oc_15,od_15,.func (PySem.W.fnOf "choices_at" "choices_at" (aS cZ) (aR cZ) (aG cZ) .none kV_15 dc_15 pm_15 an_15 cd_15 ct_15),sl_15⟩) (c_15:PySem.W.codeIn K cd_15 "choices_at"=true) (k_15:PySem.W.keepIn K (.ref f_15)=true)
   (a_16:PySem.W.nsIn K mainGlobals "choices_of"=some (some (.ref f_16))) (l_16:K.lookup f_16=some ⟨oc_16,od_16,.func (PySem.W.fnOf "choices_of" "choices_of" (aS dJ) (aR dJ) (aG dJ) .none kV_16 dc_16 pm_16 an_16 cd_16 ct_16),sl_16⟩) (c_16:PySem.W.codeIn K cd_16 "choices_of"=true) (k_16:PySem.W.keepIn K (.ref f_16)=true)
   (a_17:PySem.W.nsIn K mainGlobals "hoists_of"=some (some (.ref f_17))) (l_17:K.lookup f_17=some ⟨oc_17,od_17,.func (PySem.W.fnOf "hoists_of" "hoists_of" (aS eI) (aR eI) (aG eI) .none kV_17 dc_17 pm_17 an_17 cd_17 ct_17),sl_17⟩) (c_17:PySem.W.codeIn K cd_17 "hoists_of"=true) (k_17:PySem.W.keepIn K (.ref f_17)=true)
   (a_18:PySem.W.nsIn K mainGlobals "asked_from"=some (some (.ref f_18))) (l_18:K.lookup f_18=some ⟨oc_18,od_18,.func (PySem.W.fnOf "asked_from" "asked_from" (aS cX) (aR cX) (aG cX) .none kV_18 dc_18 pm_18 an_18 cd_18 ct_18),sl_18⟩) (c_18:PySem.W.codeIn K cd_18 "asked_from"=true) (k_18:PySem.W.keepIn K (.ref f_18)=true)
   (a_19:PySem.W.nsIn K mainGlobals "hang_along"=some (some (.ref f_19))) (l_19:K.lookup f_19=some ⟨oc_19,od_19,.func (PySem.W.fnOf "hang_along" "hang_along" (aS dM) (aR dM) (aG dM) .none kV_19 dc_19 pm_19 an_19 cd_19 ct_19),sl_19⟩) (c_19:PySem.W.codeIn K cd_19 "hang_along"=true) (k_19:PySem.W.keepIn K (.ref f_19)=true)
   (a_20:PySem.W.nsIn K mainGlobals "hang_all"=some (some (.ref f_20))) (l_20:K.lookup f_20=some ⟨oc_20,od_20,.func (PySem.W.fnOf "hang_all" "hang_all" (aS cP) (aR cP) (aG cP) .none kV_20 dc_20 pm_20 an_20 cd_20 ct_20),sl_20⟩) (c_20:PySem.W.codeIn K cd_20 "hang_all"=true) (k_20:PySem.W.keepIn K (.ref f_20)=true)
   (a_21:PySem.W.nsIn K mainGlobals "lack_of"=some (some (.ref f_21))) (l_21:K.lookup f_21=some ⟨oc_21,od_21,.func (PySem.W.fnOf "lack_of" "lack_of" (aS fX) (aR fX) (aG fX) .none kV_21 dc_21 pm_21 an_21 cd_21 ct_21),sl_21⟩) (c_21:PySem.W.codeIn K cd_21 "lack_of"=true) (k_21:PySem.W.keepIn K (.ref f_21)=true)
   (a_22:PySem.W.nsIn K mainGlobals "flags_on"=some (some (.ref f_22))) (l_22:K.lookup f_22=some ⟨oc_22,od_22,.func (PySem.W.fnOf "flags_on" "flags_on" (aS eZ) (aR eZ) (aG eZ) .none kV_22 dc_22 pm_22 an_22 cd_22 ct_22),sl_22⟩) (c_22:PySem.W.codeIn K cd_22 "flags_on"=true) (k_22:PySem.W.keepIn K (.ref f_22)=true)
   (a_23:PySem.W.nsIn K mainGlobals "is_flag"=some (some (.ref f_23))) (l_23:K.lookup f_23=some ⟨oc_23,od_23,.func (PySem.W.fnOf "is_flag" "is_flag" (aS fT) (aR fT) (aG fT) .none kV_23 dc_23 pm_23 an_23 cd_23 ct_23),sl_23⟩) (c_23:PySem.W.codeIn K cd_23 "is_flag"=true) (k_23:PySem.W.keepIn K (.ref f_23)=true)
   (a_24:PySem.W.nsIn K mainGlobals "may_stand"=some (some (.ref f_24))) (l_24:K.lookup f_24=some ⟨oc_24,od_24,.func (PySem.W.fnOf "may_stand" "may_stand" (aS eG) (aR eG) (aG eG) .none kV_24 dc_24 pm_24 an_24 cd_24 ct_24),sl_24⟩) (c_24:PySem.W.codeIn K cd_24 "may_stand"=true) (k_24:PySem.W.keepIn K (.ref f_24)=true)
   (a_25:PySem.W.nsIn K mainGlobals "is_hoist"=some (some (.ref f_25))) (l_25:K.lookup f_25=some ⟨oc_25,od_25,.func (PySem.W.fnOf "is_hoist" "is_hoist" (aS fG) (aR fG) (aG fG) .none kV_25 dc_25 pm_25 an_25 cd_25 ct_25),sl_25⟩) (c_25:PySem.W.codeIn K cd_25 "is_hoist"=true) (k_25:PySem.W.keepIn K (.ref f_25)=true)
   (a_26:PySem.W.nsIn K mainGlobals "read_of"=some (some (.ref f_26))) (l_26:K.lookup f_26=some ⟨oc_26,od_26,.func (PySem.W.fnOf "read_of" "read_of" (aS fQ) (aR fQ) (aG fQ) .none kV_26 dc_26 pm_26 an_26 cd_26 ct_26),sl_26⟩) (c_26:PySem.W.codeIn K cd_26 "read_of"=true) (k_26:PySem.W.keepIn K (.ref f_26)=true)
   (a_27:PySem.W.nsIn K mainGlobals "words_with"=some (some (.ref f_27))) (l_27:K.lookup f_27=some ⟨oc_27,od_27,.func (PySem.W.fnOf "words_with" "words_with" (aS cW) (aR cW) (aG cW) .none kV_27 dc_27 pm_27 an_27 cd_27 ct_27),sl_27⟩) (c_27:PySem.W.codeIn K cd_27 "words_with"=true) (k_27:PySem.W.keepIn K (.ref f_27)=true)
   (a_28:PySem.W.nsIn K mainGlobals "least_set"=some (some (.ref f_28))) (l_28:K.lookup f_28=some ⟨oc_28,od_28,.func (PySem.W.fnOf "least_set" "least_set" (aS eF) (aR eF) (aG eF) .none kV_28 dc_28 pm_28 an_28 cd_28 ct_28),sl_28⟩) (c_28:PySem.W.codeIn K cd_28 "least_set"=true) (k_28:PySem.W.keepIn K (.ref f_28)=true)
   (y_29:PySem.W.typeIn K (.ref f_29)=some (.type "function"))
   (a_29:PySem.W.findIn K (.ref Zr) "__init__"=some (some (.ref f_29))) (l_29:K.lookup f_29=some ⟨oc_29,od_29,.func (PySem.W.fnOf "__init__" "Short.__init__" (aS dI) (aR dI) (aG dI) .none kV_29 dc_29 pm_29 an_29 cd_29 ct_29),sl_29⟩) (c_29:PySem.W.codeIn K cd_29 "Short.__init__"=true) (k_29:PySem.W.keepIn K (.ref f_29)=true)
   (a_30:PySem.W.nsIn K mainGlobals "taken"=some (some (.ref f_30))) (l_30:K.lookup f_30=some ⟨oc_30,od_30,.func (PySem.W.fnOf "taken" "taken" (aS kB) (aR kB) (aG kB) .none kV_30 dc_30 pm_30 an_30 cd_30 ct_30),sl_30⟩) (c_30:PySem.W.codeIn K cd_30 "taken"=true) (k_30:PySem.W.keepIn K (.ref f_30)=true)
   (a_31:PySem.W.nsIn K mainGlobals "hauled"=some (some (.ref f_31))) (l_31:K.lookup f_31=some ⟨oc_31,od_31,.func (PySem.W.fnOf "hauled" "hauled" (aS hV) (aR hV) (aG hV) .none kV_31 dc_31 pm_31 an_31 cd_31 ct_31),sl_31⟩) (c_31:PySem.W.codeIn K cd_31 "hauled"=true) (k_31:PySem.W.keepIn K (.ref f_31)=true)
   (a_32:PySem.W.nsIn K mainGlobals "hauling_papers"=some (some (.ref f_32))) (l_32:K.lookup f_32=some ⟨oc_32,od_32,.func (PySem.W.fnOf "hauling_papers" "hauling_papers" (aS cH) (aR cH) (aG cH) .none kV_32 dc_32 pm_32 an_32 cd_32 ct_32),sl_32⟩) (c_32:PySem.W.codeIn K cd_32 "hauling_papers"=true) (k_32:PySem.W.keepIn K (.ref f_32)=true)
   (a_33:PySem.W.nsIn K mainGlobals "_law_tried"=some (some (.ref f_33))) (l_33:K.lookup f_33=some ⟨oc_33,od_33,.func (PySem.W.fnOf "_law_tried" "_law_tried" (aS fS) (aR fS) (aG fS) .none kV_33 dc_33 pm_33 an_33 cd_33 ct_33),sl_33⟩) (c_33:PySem.W.codeIn K cd_33 "_law_tried"=true) (k_33:PySem.W.keepIn K (.ref f_33)=true)
   (a_34:PySem.W.nsIn K mainGlobals "_law_others"=some (some (.ref f_34))) (l_34:K.lookup f_34=some ⟨oc_34,od_34,.func (PySem.W.fnOf "_law_others" "_law_others" (aS dX) (aR dX) (aG dX) .none kV_34 dc_34 pm_34 an_34 cd_34 ct_34),sl_34⟩) (c_34:PySem.W.codeIn K cd_34 "_law_others"=true) (k_34:PySem.W.keepIn K (.ref f_34)=true)
   (a_35:PySem.W.nsIn K mainGlobals "_law_pool"=some (some (.ref f_35))) (l_35:K.lookup f_35=some ⟨oc_35,od_35,.func (PySem.W.fnOf "_law_pool" "_law_pool" (aS iB) (aR iB) (aG iB) .none kV_35 dc_35 pm_35 an_35 cd_35 ct_35),sl_35⟩) (c_35:PySem.W.codeIn K cd_35 "_law_pool"=true) (k_35:PySem.W.keepIn K (.ref f_35)=true)
   (a_36:PySem.W.nsIn K mainGlobals "_law_are_short"=some (some (.ref f_36))) (l_36:K.lookup f_36=some ⟨oc_36,od_36,.func (PySem.W.fnOf "_law_are_short" "_law_are_short" (aS cR) (aR cR) (aG cR) .none kV_36 dc_36 pm_36 an_36 cd_36 ct_36),sl_36⟩) (c_36:PySem.W.codeIn K cd_36 "_law_are_short"=true) (k_36:PySem.W.keepIn K (.ref f_36)=true)
   (a_37:PySem.W.nsIn K mainGlobals "_law_read"=some (some (.ref f_37))) (l_37:K.lookup f_37=some ⟨oc_37,od_37,.func (PySem.W.fnOf "_law_read" "_law_read" (aS hU) (aR hU) (aG hU) .none kV_37 dc_37 pm_37 an_37 cd_37 ct_37),sl_37⟩) (c_37:PySem.W.codeIn K cd_37 "_law_read"=true) (k_37:PySem.W.keepIn K (.ref f_37)=true)
   (a_38:PySem.W.nsIn K mainGlobals "_law_words"=some (some (.ref f_38))) (l_38:K.lookup f_38=some ⟨oc_38,od_38,.func (PySem.W.fnOf "_law_words" "_law_words" (aS fH) (aR fH) (aG fH) .none kV_38 dc_38 pm_38 an_38 cd_38 ct_38),sl_38⟩) (c_38:PySem.W.codeIn K cd_38 "_law_words"=true) (k_38:PySem.W.keepIn K (.ref f_38)=true)
   (a_39:PySem.W.nsIn K mainGlobals "_law_is_due"=some (some (.ref f_39))) (l_39:K.lookup f_39=some ⟨oc_39,od_39,.func (PySem.W.fnOf "_law_is_due" "_law_is_due" (aS dY) (aR dY) (aG dY) .none kV_39 dc_39 pm_39 an_39 cd_39 ct_39),sl_39⟩) (c_39:PySem.W.codeIn K cd_39 "_law_is_due"=true) (k_39:PySem.W.keepIn K (.ref f_39)=true)
   (a_40:PySem.W.nsIn K mainGlobals "_law_good"=some (some (.ref f_40))) (l_40:K.lookup f_40=some ⟨oc_40,od_40,.func (PySem.W.fnOf "_law_good" "_law_good" (aS iC) (aR iC) (aG iC) .none kV_40 dc_40 pm_40 an_40 cd_40 ct_40),sl_40⟩) (c_40:PySem.W.codeIn K cd_40 "_law_good"=true) (k_40:PySem.W.keepIn K (.ref f_40)=true)
   (a_41:PySem.W.nsIn K mainGlobals "law"=some (some (.ref f_41))) (l_41:K.lookup f_41=some ⟨oc_41,od_41,.func (PySem.W.fnOf "law" "law" (aS mO) (aR mO) (aG mO) .none kV_41 dc_41 pm_41 an_41 cd_41 ct_41),sl_41⟩) (c_41:PySem.W.codeIn K cd_41 "law"=true) (k_41:PySem.W.keepIn K (.ref f_41)=true)
   (z_len:PySem.W.nsIn K mainGlobals "len"=some none)
   (z_range:PySem.W.nsIn K mainGlobals "range"=some none)
   (z_min:PySem.W.nsIn K mainGlobals "min"=some none)
   (z_list:PySem.W.nsIn K mainGlobals "list"=some none)
   (z_max:PySem.W.nsIn K mainGlobals "max"=some none)
   (z_enumerate:PySem.W.nsIn K mainGlobals "enumerate"=some none)
   (z_int:PySem.W.nsIn K mainGlobals "int"=some none)
   (z_all:PySem.W.nsIn K mainGlobals "all"=some none)
   (z_zip:PySem.W.nsIn K mainGlobals "zip"=some none)
   (z_isinstance:PySem.W.nsIn K mainGlobals "isinstance"=some none)
   (z_ValueError:PySem.W.nsIn K mainGlobals "ValueError"=some none)
   (z_dict:PySem.W.nsIn K mainGlobals "dict"=some none)
   (z_sum:PySem.W.nsIn K mainGlobals "sum"=some none)
   (z_set:PySem.W.nsIn K mainGlobals "set"=some none)
   (z_sorted:PySem.W.nsIn K mainGlobals "sorted"=some none)
   (g_FLAGS:PySem.W.nsIn K mainGlobals "FLAGS"=some (some (.str "abcdefghijklmnopqrstuvw1234" t_FLAGS)))
   (g_SUBSTITUTES:PySem.W.nsIn K mainGlobals "SUBSTITUTES"=some (some (.str "1234" t_SUBSTITUTES)))
   (g_MOST_PLACES:PySem.W.nsIn K mainGlobals "MOST_PLACES"=some (some (.int 7 t_MOST_PLACES)))
   (q_Lack:PySem.W.nsIn K mainGlobals "Lack"=some (some (.ref Zo)))
   (q_TowerError:PySem.W.nsIn K mainGlobals "TowerError"=some (some (.ref Zz)))
   (q_Short:PySem.W.nsIn K mainGlobals "Short"=some (some (.ref Zr)))
   (q_NoHoist:PySem.W.nsIn K mainGlobals "NoHoist"=some (some (.ref Zx)))
   (q_NoBook:PySem.W.nsIn K mainGlobals "NoBook"=some (some (.ref Zs)))
   (q_NoCut:PySem.W.nsIn K mainGlobals "NoCut"=some (some (.ref Zp)))
   (q_NoText:PySem.W.nsIn K mainGlobals "NoText"=some (some (.ref Zu)))
   (q_NoWord:PySem.W.nsIn K mainGlobals "NoWord"=some (some (.ref Zw)))
   (q_NoHalyard:PySem.W.nsIn K mainGlobals "NoHalyard"=some (some (.ref Zy)))
   (q_NoFlag:PySem.W.nsIn K mainGlobals "NoFlag"=some (some (.ref Zt)))
   (q_NoDeed:PySem.W.nsIn K mainGlobals "NoDeed"=some (some (.ref Zv)))
   (q_NoRow:PySem.W.nsIn K mainGlobals "NoRow"=some (some (.ref Zq)))
   (f_m_Lack:PySem.W.exmOne K (.ref Zo) (.ref Zo)=some true)
   (f_x_NoHoist:PySem.W.excIn K Zx [.type "ValueError",.type "Exception",.type "BaseException",.type "object"] "ValueError.__new__"=true)
   (f_m_Short:PySem.W.exmOne K (.ref Zr) (.ref Zr)=some true)
   (f_i_1:PySem.W.kitOne K (.ref Zo) (.ref Zr)=some false)
   (f_i_2:PySem.W.kitOne K (.ref Zo) (.ref Zs)=some false)
   (f_i_3:PySem.W.kitOne K (.ref Zo) (.ref Zp)=some false)
   (f_i_4:PySem.W.kitOne K (.ref Zo) (.ref Zu)=some false)
   (f_i_5:PySem.W.kitOne K (.ref Zo) (.ref Zw)=some false)
   (f_i_6:PySem.W.kitOne K (.ref Zo) (.ref Zy)=some false)
   (f_i_7:PySem.W.kitOne K (.ref Zo) (.ref Zt)=some false)
   (f_i_8:PySem.W.kitOne K (.ref Zo) (.ref Zv)=some false)
   (f_i_9:PySem.W.kitOne K (.ref Zo) (.ref Zq)=some false)
   (f_i_10:PySem.W.kitOne K (.ref Zo) (.ref Zx)=some false)
   (f_i_11:PySem.W.kitOne K (.ref Zo) (.ref Zz)=some true)
   (f_i_12:PySem.W.kitOne K (.ref Zo) (.type "ValueError")=some true)
   (f_t1_TowerError:PySem.W.specialIn K (.ref Zz) "__getattribute__"=some (some (.builtin "type.__getattribute__")))
   (f_t2_TowerError:PySem.W.readsIn K Zz (.type "type")=true)
   (f_t3_TowerError:PySem.W.findCls K (.ref Zz) (.type "type") "__init__"=some (.val (.builtin "ValueError.__init__")))
   (f_xo_Lack:tW K Zo [.type "ValueError",.type "Exception",.type "BaseException",.type "object"] "ValueError.__new__"=true)
   (f_xk_Lack:PySem.W.keepIn K (.ref Zo)=true)
   (f_xe1_Lack:PySem.W.hasDictIn K Zo=true)
   (f_xe2_Lack:PySem.W.findIn K (.ref Zo) "__getattribute__"=some (some (.builtin "BaseException.__getattribute__")))
   (f_xe3_Lack:PySem.W.findIn K (.ref Zo) "__getattr__"=some none)
   (f_xe4_Lack:PySem.W.findIn K (.ref Zo) "__class__"=some (some (.builtin "object.__class__")))
   (f_xe5_Lack:PySem.W.specialIn K (.builtin "object.__class__") "__get__"=some (some (.builtin "getset_descriptor.__get__")))
   (f_xe6_Lack:PySem.W.takesIn K (.builtin "object.__class__")=some true)
   (f_xe7_Lack:PySem.W.mroIn K Zo (.type "object")=some true)
   (f_xe8_Lack:PySem.W.subIn K (.ref Zo) (.type "BaseException")=some true)
   (f_xs_Lack:PySem.W.findIn K (.ref Zo) "__setattr__"=some (some (.builtin "object.__setattr__")))
   (f_xr_Lack:bJA K Zo Zz=true)
   (f_xv_Lack:PySem.W.subIn K (.ref Zo) (.type "ValueError")=some true)
   (f_xn_Lack_wants:PySem.W.findIn K (.ref Zo) "wants"=some none)
   (f_xn_Lack_flags:PySem.W.findIn K (.ref Zo) "flags"=some none)
   (f_xo_Short:tW K Zr [.type "ValueError",.type "Exception",.type "BaseException",.type "object"] "ValueError.__new__"=true)
   (f_xk_Short:PySem.W.keepIn K (.ref Zr)=true)
   (f_xe1_Short:PySem.W.hasDictIn K Zr=true)
   (f_xe2_Short:PySem.W.findIn K (.ref Zr) "__getattribute__"=some (some (.builtin "BaseException.__getattribute__")))
   (f_xe3_Short:PySem.W.findIn K (.ref Zr) "__getattr__"=some none)
   (f_xe4_Short:PySem.W.findIn K (.ref Zr) "__class__"=some (some (.builtin "object.__class__")))
   (f_xe5_Short:PySem.W.specialIn K (.builtin "object.__class__") "__get__"=some (some (.builtin "getset_descriptor.__get__")))
   (f_xe6_Short:PySem.W.takesIn K (.builtin "object.__class__")=some true)
   (f_xe7_Short:PySem.W.mroIn K Zr (.type "object")=some true)
   (f_xe8_Short:PySem.W.subIn K (.ref Zr) (.type "BaseException")=some true)
   (f_xs_Short:PySem.W.findIn K (.ref Zr) "__setattr__"=some (some (.builtin "object.__setattr__")))
   (f_xr_Short:bJA K Zr Zz=true)
   (f_xv_Short:PySem.W.subIn K (.ref Zr) (.type "ValueError")=some true)
   (f_xn_Short_flag:PySem.W.findIn K (.ref Zr) "flag"=some none)
   : ∃ fd:FuncData,(∀ (s:Shared) (v:Value),BindsTo s fd ⟨[v],[]⟩ [("_law_script",v)])/\∀ base:Heap,K.In base->base.Ns mainGlobals mg->FnOk l.prog w K mg base CX0 15 fa fd ["_law_script"] (tG K):=by
 have M:∀ {x:Str} {v:Value},PySem.W.nsIn K mainGlobals x=some (some v)->mg x=some v:=λh=>PySem.W.mg_of X Gn h
 have N:∀ {x:Str},PySem.W.nsIn K mainGlobals x=some none->mg x=none:=λh=>PySem.W.mg_none_of X Gn h
 have e:=hfa.symm.trans (M a_41)
 cases e
 have G:Gs K mg Zo Zz Zr Zx Zs Zp Zu Zw Zy Zt Zv Zq:=⟨M q_Lack,M q_TowerError,M q_Short,M q_NoHoist,M q_NoBook,M q_NoCut,M q_NoText,M q_NoWord,M q_NoHalyard,M q_NoFlag,M q_NoDeed,M q_NoRow,f_m_Lack,f_x_NoHoist,f_m_Short,f_i_1,f_i_2,f_i_3,f_i_4,f_i_5,f_i_6,f_i_7,f_i_8,f_i_9,f_i_10,f_i_11,f_i_12,f_t1_TowerError,f_t2_TowerError,f_t3_TowerError,f_xo_Lack,f_xk_Lack,f_xe1_Lack,f_xe2_Lack,f_xe3_Lack,f_xe4_Lack,f_xe5_Lack,f_xe6_Lack,f_xe7_Lack,f_xe8_Lack,f_xs_Lack,f_xr_Lack,f_xv_Lack,f_xn_Lack_wants,f_xn_Lack_flags,f_xo_Short,f_xk_Short,f_xe1_Short,f_xe2_Short,f_xe3_Short,f_xe4_Short,f_xe5_Short,f_xe6_Short,f_xe7_Short,f_xe8_Short,f_xs_Short,f_xr_Short,f_xv_Short,f_xn_Short_flag,N z_len,N z_range,N z_min,N z_list,N z_max,N z_enumerate,N z_int,N z_all,N z_zip,N z_isinstance,N z_ValueError,N z_dict,N z_sum,N z_set,N z_sorted,⟨_,M g_FLAGS⟩,⟨_,M g_SUBSTITUTES⟩,⟨_,M g_MOST_PLACES⟩⟩
 have F_0:=bD (st:=gZ) l_0 c_0 k_0
 have b_0:=F_0.binds (ps:=["_law_script", "_law_k"]) (by walk_at "bd")
 have F_1:=bD (st:=fB) l_1 c_1 k_1
 have b_1:=F_1.binds (ps:=["_law_cell_here", "_law_many"]) (by walk_at "bd")
 have F_2:=bD (st:=eE) l_2 c_2 k_2
 have b_2:=F_2.binds (ps:=["_law_word_here", "_law_place"]) (by walk_at "bd")
 have F_3:=bD (st:=fW) l_3 c_3 k_3
 have b_3:=F_3.binds (ps:=["_law_word_here", "_law_cell_here"]) (by walk_at "bd")
 have F_4:=bD (st:=hZ) l_4 c_4 k_4
 have b_4:=F_4.binds (ps:=["_law_cell_here", "_law_spread", "_law_longest"]) (by walk_at "bd")
 have F_5:=bD (st:=dL) l_5 c_5 k_5
 have b_5:=F_5.binds (ps:=["_law_cells", "_law_spread"]) (by walk_at "bd")
 have F_6:=bD (st:=fA) l_6 c_6 k_6
 have b_6:=F_6.binds (ps:=["_law_cell_here", "_law_words_here"]) (by walk_at "bd")
 have F_7:=bD (st:=fD) l_7 c_7 k_7
 have b_7:=F_7.binds (ps:=["_law_script", "_law_start"]) (by walk_at "bd")
 have F_8:=bD (st:=cU) l_8 c_8 k_8
 have b_8:=F_8.binds (ps:=["locker"]) (by walk_at "bd")
 have F_9:=bD (st:=iE) l_9 c_9 k_9
 have b_9:=F_9.binds (ps:=["locker", "flags"]) (by walk_at "bd")
 have F_10:=bD (st:=cI) l_10 c_10 k_10
 have b_10:=F_10.binds (ps:=["numbers", "many"]) (by walk_at "bd")
 have F_11:=bD (st:=fU) l_11 c_11 k_11
 have b_11:=F_11.binds (ps:=["others"]) (by walk_at "bd")
 have F_12:=bD (st:=eJ) l_12 c_12 k_12
 have b_12:=F_12.binds (ps:=["self", "wants", "flags"]) (by walk_at "bd")
 have F_13:=bD (st:=cS) l_13 c_13 k_13
 have b_13:=F_13.binds (ps:=["halyards", "number"]) (by walk_at "bd")
 have F_14:=bD (st:=dW) l_14 c_14 k_14
 have b_14:=F_14.binds (ps:=["words"]) (by walk_at "bd")
 have F_15:=bD (st:=cZ) l_15 c_15 k_15
 have b_15:=F_15.binds (ps:=["word", "place"]) (by walk_at "bd")
 have F_16:=bD (st:=dJ) l_16 c_16 k_16
 have b_16:=F_16.binds (ps:=["words"]) (by walk_at "bd")
 have F_17:=bD (st:=eI) l_17 c_17 k_17
 have b_17:=F_17.binds (ps:=["words", "flags"]) (by walk_at "bd")
 have F_18:=bD (st:=cX) l_18 c_18 k_18
 have b_18:=F_18.binds (ps:=["first", "choices", "hung"]) (by walk_at "bd")
 have F_19:=bD (st:=dM) l_19 c_19 k_19
 have b_19:=F_19.binds (ps:=["flag", "asked", "hung"]) (by walk_at "bd")
 have F_20:=bD (st:=cP) l_20 c_20 k_20
 have b_20:=F_20.binds (ps:=["locker", "words"]) (by walk_at "bd")
 have F_21:=bD (st:=fX) l_21 c_21 k_21
 have b_21:=F_21.binds (ps:=["locker", "words"]) (by walk_at "bd")
 have F_22:=bD (st:=eZ) l_22 c_22 k_22
 have b_22:=F_22.binds (ps:=["halyards", "numbers"]) (by walk_at "bd")
 have F_23:=bD (st:=fT) l_23 c_23 k_23
 have b_23:=F_23.binds (ps:=["text"]) (by walk_at "bd")
 have F_24:=bD (st:=eG) l_24 c_24 k_24
 have b_24:=F_24.binds (ps:=["text", "place"]) (by walk_at "bd")
 have F_25:=bD (st:=fG) l_25 c_25 k_25
 have b_25:=F_25.binds (ps:=["flags"]) (by walk_at "bd")
 have F_26:=bD (st:=fQ) l_26 c_26 k_26
 have b_26:=F_26.binds (ps:=["flags"]) (by walk_at "bd")
 have F_27:=bD (st:=cW) l_27 c_27 k_27
 have b_27:=F_27.binds (ps:=["halyards", "word", "lowered"]) (by walk_at "bd")
 have F_28:=bD (st:=eF) l_28 c_28 k_28
 have b_28:=F_28.binds (ps:=["locker", "halyards", "number", "word"]) (by walk_at "bd")
 have F_29:=bD (st:=dI) l_29 c_29 k_29
 have b_29:=F_29.binds (ps:=["self", "flag"]) (by walk_at "bd")
 have F_30:=bD (st:=kB) l_30 c_30 k_30
 have b_30:=F_30.binds (ps:=["locker", "flags"]) (by walk_at "bd")
 have F_31:=bD (st:=hV) l_31 c_31 k_31
 have b_31:=F_31.binds (ps:=["locker", "halyards", "number", "word"]) (by walk_at "bd")
 have F_32:=bD (st:=cH) l_32 c_32 k_32
 have b_32:=F_32.binds (ps:=["locker", "halyards", "number", "word"]) (by walk_at "bd")
 have F_33:=bD (st:=fS) l_33 c_33 k_33
 have b_33:=F_33.binds (ps:=["_law_locker_here", "_law_halyards_here", "_law_number", "_law_word_here", "_law_way"]) (by walk_at "bd")
 have F_34:=bD (st:=dX) l_34 c_34 k_34
 have b_34:=F_34.binds (ps:=["_law_halyards_here", "_law_number"]) (by walk_at "bd")
 have F_35:=bD (st:=iB) l_35 c_35 k_35
 have b_35:=F_35.binds (ps:=["_law_locker_here", "_law_halyards_here", "_law_numbers"]) (by walk_at "bd")
 have F_36:=bD (st:=cR) l_36 c_36 k_36
 have b_36:=F_36.binds (ps:=["_law_locker_here", "_law_words_here", "_law_wants", "_law_flags"]) (by walk_at "bd")
 have F_37:=bD (st:=hU) l_37 c_37 k_37
 have b_37:=F_37.binds (ps:=["_law_hoist_here"]) (by walk_at "bd")
 have F_38:=bD (st:=fH) l_38 c_38 k_38
 have b_38:=F_38.binds (ps:=["_law_halyards_here", "_law_word_here", "_law_numbers"]) (by walk_at "bd")
 have F_39:=bD (st:=dY) l_39 c_39 k_39
 have b_39:=F_39.binds (ps:=["_law_told", "_law_locker_here", "_law_halyards_here", "_law_number", "_law_word_here"]) (by walk_at "bd")
 have F_40:=bD (st:=iC) l_40 c_40 k_40
 have b_40:=F_40.binds (ps:=["_law_locker_here", "_law_halyards_here", "_law_number", "_law_word_here"]) (by walk_at "bd")
 have F_41:=bD (st:=mO) l_41 c_41 k_41
 refine ⟨PySem.W.fnOf "law" "law" (aS mO) (aR mO) (aG mO) .none kV_41 dc_41 pm_41 an_41 cd_41 ct_41,λs v=>.of_eq rfl,λbase _ _=>?_⟩
 have mk:∀ {k:Nat} {x:Str} {ps:List Str} {sp:Sp} {f:Addr} {fd:FuncData},FnOk l.prog w K mg base CX0 k f fd ps sp->mg x=some (.ref f)->PySem.W.keepIn K (.ref f)=true->Binds K fd ps []->Cal l.prog w K mg base k x ps sp:=λa b c d=>⟨_,_,a,b,c,d⟩
 have mkX:∀ {k:Nat} {x:Str} {ps:List Str} {sp:Sp} {f:Addr} {fd:FuncData},FnOk l.prog w K mg base (CXr l.prog w) k f fd ps sp->mg x=some (.ref f)->PySem.W.keepIn K (.ref f)=true->Binds K fd ps []->oE l.prog w K mg base k x ps sp:=λa b c d=>⟨_,_,a,b,c,d⟩
 have c_l_cell:=mk (aZG F_0 G ) (M a_0) k_0 b_0
 have c_l_stream:=mk (wC F_1 G ) (M a_1) k_1 b_1
 have c_l_choices:=mk (uS F_2 G ) (M a_2) k_2 b_2
 have c_l_hoist:=mk (yN F_3 G c_l_stream c_l_choices) (M a_3) k_3 b_3
 have c_l_word:=mk (aZN F_4 G c_l_stream) (M a_4) k_4 b_4
 have c_l_halyards:=mk (qV F_5 G c_l_hoist c_l_word) (M a_5) k_5 b_5
 have c_l_locker:=mk (xM F_6 G c_l_stream) (M a_6) k_6 b_6
 have c_l_drawn:=mk (zC F_7 G c_l_cell c_l_halyards c_l_word c_l_locker) (M a_7) k_7 b_7
 have c_plain_locker:=mk (oB F_8 G ) (M a_8) k_8 b_8
 have c_put_in:=mk (aZH F_9 G c_plain_locker) (M a_9) k_9 b_9
 have c_rising_lists:Cal l.prog w K mg base 9 "rising_lists" ["numbers", "many"] (cM 8):=⟨f_10,_,bQ6 cM nG (M a_10) k_10 b_10 (λd n c=>oF F_10 G c) 8,M a_10,k_10,b_10⟩
 have c_sets_of:=mk (zG F_11 G c_rising_lists) (M a_11) k_11 b_11
 have c_Lack_init:aQA l.prog w K mg base 1 Zo ["self", "wants", "flags"] (fP Zo):=⟨f_12,_,vD F_12 G ,a_12,y_12,b_12⟩
 have c_others_hung:=mk (pZ F_13 G ) (M a_13) k_13 b_13
 have c_wants_of:=mk (vO F_14 G ) (M a_14) k_14 b_14
 have c_choices_at:=mk (rG F_15 G ) (M a_15) k_15 b_15
 have c_choices_of:=mk (qY F_16 G c_wants_of c_choices_at) (M a_16) k_16 b_16
 have c_hoists_of:=mk (uV F_17 G ) (M a_17) k_17 b_17
 have c_asked_from:=mk (rB F_18 G ) (M a_18) k_18 b_18
 have c_hang_along:=mk (rJ F_19 G ) (M a_19) k_19 b_19
 have c_hang_all:=mkX (xA F_20 G c_choices_of c_plain_locker c_hoists_of c_asked_from c_hang_along c_Lack_init) (M a_20) k_20 b_20
 have c_lack_of:=mk (aQS F_21 G c_hang_all) (M a_21) k_21 b_21
 have c_flags_on:=mk (yF F_22 G ) (M a_22) k_22 b_22
 have c_is_flag:=mk (yL F_23 G ) (M a_23) k_23 b_23
 have c_may_stand:=mk (uP F_24 G c_is_flag) (M a_24) k_24 b_24
 have c_is_hoist:=mk (xY F_25 G c_may_stand) (M a_25) k_25 b_25
 have c_read_of:=mkX (zO F_26 G c_is_hoist) (M a_26) k_26 b_26
 have c_words_with:=mk (rK F_27 G c_read_of) (M a_27) k_27 b_27
 have c_least_set:=mkX (tE F_28 G c_sets_of c_Lack_init c_others_hung c_put_in c_lack_of c_flags_on c_words_with) (M a_28) k_28 b_28
 have c_Short_init:aQA l.prog w K mg base 1 Zr ["self", "flag"] (gU Zr):=⟨f_29,_,qX F_29 G ,a_29,y_29,b_29⟩
 have c_taken:=mkX (bQQ F_30 G c_plain_locker c_Short_init) (M a_30) k_30 b_30
 have c_hauled:=mkX (aJX F_31 G c_put_in c_least_set c_flags_on c_hang_all c_taken c_words_with) (M a_31) k_31 b_31
 have c_hauling_papers:=mkX (mJ F_32 G c_least_set) (M a_32) k_32 b_32
 have c_l_tried:=mk (zA F_33 G c_hauled c_hauling_papers) (M a_33) k_33 b_33
 have c_l_others:=mk (vJ F_34 G ) (M a_34) k_34 b_34
 have c_l_pool:=mk (aJS F_35 G ) (M a_35) k_35 b_35
 have c_l_are_short:=mk (pV F_36 G c_l_choices) (M a_36) k_36 b_36
 have c_l_read:=mk (aZ9 F_37 G ) (M a_37) k_37 b_37
 have c_l_words:=mk (aQF F_38 G c_l_read) (M a_38) k_38 b_38
 have c_l_is_due:=mk (vL F_39 G c_l_others c_l_pool c_l_are_short c_l_words) (M a_39) k_39 b_39
 have c_l_good:=mk (aJ4 F_40 G c_l_tried c_l_is_due c_hauled) (M a_40) k_40 b_40
 exact cJV F_41 G c_l_drawn c_l_good
theorem walk {l:PySem.W.OpenLaw} {q:Program} {loose:List Str} {XP:(Str->Option Value)->Heap->Prop} {YP:World->Heap->Prop} {d:DefRec} {K:Params->PySem.W.Frag} (hn:l.most=some 63) (hdf:d.params.defaults=[])
   (hY:∀ (w:World) (h:Heap),YP w h->(K w.params).In h)
   (F:∀ (w:World) (mg:Str->Option Value) (fa:Addr) (h:Heap),(K w.params).In h->h.Ns mainGlobals mg->mg d.name=some (.ref fa)->
     ∃ fd:FuncData,(∀ (s:Shared) (u:Value),BindsTo s fd ⟨[u],[]⟩ [("_law_script",u)])/\∀ base:Heap,(K w.params).In base->base.Ns mainGlobals mg->FnOk l.prog w (K w.params) mg base CX0 15 fa fd ["_law_script"] (tG (K w.params))) :
   PySem.W.WalkO q loose XP YP l.row.toRowW d [] (λf vs=>PySem.call f vs) :=
 L2.cQ9 (n:=63) (k:=15) (x := "_law_script") (CX:=λ_=>CX0) (sp:=λw=>tG (K w.params)) hn (by decide) hdf ⟨rfl,by decide,by decide⟩ hY F (λ_ _ a ns hl _ hS=>⟨a,ns,rfl,hS,hl,λ_=>rfl⟩) λ_ _ _ _ _ z=>z
end Mine
namespace PySem.W.Fast
theorem tw11033775838876338947:True:=⟨⟩
theorem tw4403142106246190979:True:=⟨⟩
theorem tw6892574784910519649:True:=⟨⟩
theorem tw15377905179336596455:True:=⟨⟩
theorem tw17372743670518944921:True:=⟨⟩
theorem tw3302731190679481015:True:=⟨⟩
theorem tw1530093030758409873:True:=⟨⟩
theorem tw6022031280536250475:True:=⟨⟩
theorem tw383405208704356960:True:=⟨⟩
theorem tw7387389976946816331:True:=⟨⟩
theorem tw15900346307846470483:True:=⟨⟩
theorem tw17610968494910763579:True:=⟨⟩
theorem tw14746309109549669469:True:=⟨⟩
theorem tw3724071350296853565:True:=⟨⟩
theorem tw6290718907175962500:True:=⟨⟩
theorem tw13900147133742483439:True:=⟨⟩
theorem tw1553855338334788908:True:=⟨⟩
theorem tw10787923418506933840:True:=⟨⟩
theorem tw6745704436034326812:True:=⟨⟩
theorem tw4727995239321424640:True:=⟨⟩
theorem tw11526957881617469865:True:=⟨⟩
theorem tw1083468375276402448:True:=⟨⟩
theorem tw12748449222892122865:True:=⟨⟩
theorem tw3325398248727159595:True:=⟨⟩
theorem tw12364956692179909111:True:=⟨⟩
theorem tw5948430451100222765:True:=⟨⟩
theorem tw1479048462902076875:True:=⟨⟩
theorem tw11661379788580215020:True:=⟨⟩
theorem tw12192804200101736752:True:=⟨⟩
theorem tw12026083543801600021:True:=⟨⟩
theorem tw1620689519536903267:True:=⟨⟩
theorem tw11232367108594443960:True:=⟨⟩
theorem tw16785648702836783706:True:=⟨⟩
theorem tw6361187678699394510:True:=⟨⟩
theorem tw3484358525878755824:True:=⟨⟩
theorem tw13912826343613802811:True:=⟨⟩
theorem tw17732372074100680055:True:=⟨⟩
theorem tw13017442607526460360:True:=⟨⟩
theorem tw620055466449793326:True:=⟨⟩
theorem tw12279351100372891200:True:=⟨⟩
theorem tw2903199612907312664:True:=⟨⟩
theorem tw8076543985421313797:True:=⟨⟩
theorem tw16985951739287052070:True:=⟨⟩
theorem tw17491618837401923356:True:=⟨⟩
theorem tw3648158721513927811:True:=⟨⟩
theorem tw10557043060229668162:True:=⟨⟩
theorem tw16445701483285199584:True:=⟨⟩
theorem tw2348162913862567767:True:=⟨⟩
theorem tw13067047125026592252:True:=⟨⟩
theorem tw902881591803016163:True:=⟨⟩
theorem tw16530651857681336690:True:=⟨⟩
theorem tw5105958883273246405:True:=⟨⟩
theorem tw13936928257292578346:True:=⟨⟩
theorem tw17144977838249026099:True:=⟨⟩
theorem tw182698331867407276:True:=⟨⟩
theorem tw9313741053572271118:True:=⟨⟩
theorem tw1853792887696743777:True:=⟨⟩
theorem tw15997640772046827588:True:=⟨⟩
theorem tw17709232516274518601:True:=⟨⟩
theorem tw14584078478431967445:True:=⟨⟩
theorem tw1686977394285908561:True:=⟨⟩
theorem tw131818487385413505:True:=⟨⟩
theorem tw5170532006451108843:True:=⟨⟩
theorem tw16944293167141437319:True:=⟨⟩
theorem tw292542771804989904:True:=⟨⟩
theorem tw9421632592077636268:True:=⟨⟩
theorem tw904167468983289939:True:=⟨⟩
theorem tw2728899983066400982:True:=⟨⟩
theorem tw12073908464018846699:True:=⟨⟩
theorem tw16938394716221545106:True:=⟨⟩
theorem tw6452973741926387444:True:=⟨⟩
theorem tw10281798726130756513:True:=⟨⟩
theorem tw14070227133104789267:True:=⟨⟩
theorem tw10264331065925113231:True:=⟨⟩
theorem tw10837834167578174548:True:=⟨⟩
theorem tw6743201941005954654:True:=⟨⟩
theorem tw2096181587744841748:True:=⟨⟩
theorem tw5979516592258742625:True:=⟨⟩
theorem tw3819704972433268431:True:=⟨⟩
theorem tw11937475139085314035:True:=⟨⟩
theorem tw18276807016902752288:True:=⟨⟩
theorem tw15778833864548327049:True:=⟨⟩
theorem tw6524743025116162710:True:=⟨⟩
theorem tw13791759451547428524:True:=⟨⟩
theorem tw8041405399182292347:True:=⟨⟩
theorem tw5839384221939705507:True:=⟨⟩
theorem tw962910101162934874:True:=⟨⟩
theorem tw14730084675729183309:True:=⟨⟩
theorem tw12109994842566881237:True:=⟨⟩
theorem tw689314690355250010:True:=⟨⟩
theorem tw14868270044042923709:True:=⟨⟩
theorem tw12182132927358841853:True:=⟨⟩
theorem tw12307055038538671352:True:=⟨⟩
theorem tw18088297396455831895:True:=⟨⟩
theorem tw14589667722235672988:True:=⟨⟩
theorem tw15854887304099483427:True:=⟨⟩
theorem tw11554133385626641690:True:=⟨⟩
theorem tw4024377810876526382:True:=⟨⟩
theorem tw13161230148571494057:True:=⟨⟩
theorem tw17232082136716874943:True:=⟨⟩
theorem tw18125005885215469763:True:=⟨⟩
theorem tw17627216163970784373:True:=⟨⟩
theorem tw18147001338084820863:True:=⟨⟩
theorem tw936011036593807696:True:=⟨⟩
theorem tw4314541042176954934:True:=⟨⟩
theorem tw3636905836972467022:True:=⟨⟩
theorem tw16307774926309230091:True:=⟨⟩
theorem tw16257927962054065009:True:=⟨⟩
theorem tw17111407826597605950:True:=⟨⟩
theorem tw5199398153008076830:True:=⟨⟩
theorem tw18041456326393956075:True:=⟨⟩
theorem tw9304995783044904154:True:=⟨⟩
theorem tw8596336679830496612:True:=⟨⟩
theorem tw8690648964242019810:True:=⟨⟩
theorem tw16216767457236731990:True:=⟨⟩
theorem tw18071280038702514860:True:=⟨⟩
theorem tw7040454612185458787:True:=⟨⟩
theorem tw11864113765515642260:True:=⟨⟩
theorem tw10847964842394707453:True:=⟨⟩
theorem tw1608887771094585681:True:=⟨⟩
theorem tw7998353122549628640:True:=⟨⟩
theorem tw7214955743316613210:True:=⟨⟩
theorem tw9154286571232676564:True:=⟨⟩
theorem tw6919028560048729395:True:=⟨⟩
theorem tw16410515022711703057:True:=⟨⟩
theorem tw10598514920370641579:True:=⟨⟩
theorem tw7745024608791558607:True:=⟨⟩
theorem tw16043060746309554894:True:=⟨⟩
theorem tw16270328497465123181:True:=⟨⟩
theorem tw15997537790635523891:True:=⟨⟩
theorem tw12928353660104839065:True:=⟨⟩
theorem tw22159745194618006:True:=⟨⟩
theorem tw4196278570136840381:True:=⟨⟩
theorem tw7184773992698689619:True:=⟨⟩
theorem tw14111465533709123151:True:=⟨⟩
theorem tw13554298143196520746:True:=⟨⟩
theorem tw29543168730356555:True:=⟨⟩
theorem tw863228500241991852:True:=⟨⟩
theorem tw7351724747976392838:True:=⟨⟩
theorem tw6574233662275217620:True:=⟨⟩
theorem tw13466801382151596863:True:=⟨⟩
theorem tw10153522222244266344:True:=⟨⟩
theorem tw8019996181941509150:True:=⟨⟩
theorem tw16359801839261534577:True:=⟨⟩
theorem tw5489329803319755721:True:=⟨⟩
theorem tw13322774741127360018:True:=⟨⟩
theorem tw16948593161276761040:True:=⟨⟩
theorem tw9044707709843119374:True:=⟨⟩
theorem tw12457586095083097103:True:=⟨⟩
theorem tw1293895575487735515:True:=⟨⟩
theorem tw8883132627953711146:True:=⟨⟩
theorem tw12566200071946071386:True:=⟨⟩
theorem tw12496121279559122991:True:=⟨⟩
theorem tw18117871632244867962:True:=⟨⟩
theorem tw7435545159025599590:True:=⟨⟩
theorem tw17809496922631693107:True:=⟨⟩
theorem tw14689894394837169307:True:=⟨⟩
theorem tw9555681566650603575:True:=⟨⟩
theorem tw2237158156668184440:True:=⟨⟩
theorem tw18185106782338628739:True:=⟨⟩
theorem tw11013494967627950380:True:=⟨⟩
theorem tw15829500362374670287:True:=⟨⟩
theorem tw17262025987168420962:True:=⟨⟩
theorem tw427777797001494059:True:=⟨⟩
theorem tw17916615354808972443:True:=⟨⟩
theorem tw952065574783100865:True:=⟨⟩
theorem tw4860551280883184491:True:=⟨⟩
theorem tw3277222926337079330:True:=⟨⟩
theorem tw2253340949338150257:True:=⟨⟩
theorem tw16830050490884471578:True:=⟨⟩
theorem tw2565893752559074451:True:=⟨⟩
theorem tw10619613184563596014:True:=⟨⟩
theorem tw6554334006019584356:True:=⟨⟩
theorem tw9417884322004126601:True:=⟨⟩
theorem tw18440644659267722573:True:=⟨⟩
theorem tw9853110890920992917:True:=⟨⟩
theorem tw610349319280946108:True:=⟨⟩
theorem tw4084724559114497194:True:=⟨⟩
theorem tw1550927153687407884:True:=⟨⟩
theorem tw10472534693202440377:True:=⟨⟩
theorem tw2179074618723086165:True:=⟨⟩
theorem tw2809186737089067446:True:=⟨⟩
theorem tw3506617730069785820:True:=⟨⟩
theorem tw324361019380073730:True:=⟨⟩
theorem tw3984611718798882691:True:=⟨⟩
theorem tw17555971147604845273:True:=⟨⟩
theorem tw6013593305996357845:True:=⟨⟩
theorem tw8853923994588083467:True:=⟨⟩
theorem tw12684603745162399311:True:=⟨⟩
theorem tw4542034254137409287:True:=⟨⟩
theorem tw13843936335386075955:True:=⟨⟩
theorem tw10586789075226534204:True:=⟨⟩
theorem tw17866479733084381113:True:=⟨⟩
theorem tw2058683606303046205:True:=⟨⟩
theorem tw12472556939063185948:True:=⟨⟩
theorem tw15569279006797957064:True:=⟨⟩
theorem tw15859711612150693061:True:=⟨⟩
theorem tw12473712264799756607:True:=⟨⟩
theorem tw609890489592353183:True:=⟨⟩
theorem tw1860614928920615294:True:=⟨⟩
theorem tw6442975130573638191:True:=⟨⟩
theorem tw2809374035709033595:True:=⟨⟩
theorem tw8547565916939363058:True:=⟨⟩
theorem tw3922532221432203926:True:=⟨⟩
theorem tw14087130163873477029:True:=⟨⟩
theorem tw17858340489967167939:True:=⟨⟩
theorem tw17466365154245574715:True:=⟨⟩
theorem tw17095992343513377129:True:=⟨⟩
theorem tw9547033115137275669:True:=⟨⟩
theorem tw11203153546347143622:True:=⟨⟩
theorem tw10858689754268973755:True:=⟨⟩
theorem tw10578854705250405943:True:=⟨⟩
theorem tw9156241495466312513:True:=⟨⟩
theorem tw17182978323906635462:True:=⟨⟩
theorem tw6186375955681619582:True:=⟨⟩
theorem tw6789411737671613091:True:=⟨⟩
theorem tw11102817367427902181:True:=⟨⟩
theorem tw17137760723408312639:True:=⟨⟩
theorem tw12203030073054268885:True:=⟨⟩
theorem tw5797569587443278776:True:=⟨⟩
theorem tw9177490709991895399:True:=⟨⟩
theorem tw16047054035401389297:True:=⟨⟩
theorem tw15810979083094174476:True:=⟨⟩
theorem tw9914262559964096243:True:=⟨⟩
theorem tw6171984055770495597:True:=⟨⟩
theorem tw14616087408582795182:True:=⟨⟩
theorem tw8978303754349486774:True:=⟨⟩
theorem tw18311890652098433876:True:=⟨⟩
theorem tw7241951247575413347:True:=⟨⟩
theorem tw2718654078020582747:True:=⟨⟩
theorem tw13388350545217052713:True:=⟨⟩
theorem tw3279899782053601552:True:=⟨⟩
theorem tw2481329946165162318:True:=⟨⟩
theorem tw8687712046092005939:True:=⟨⟩
theorem tw5906339834884947797:True:=⟨⟩
theorem tw17043937968480452122:True:=⟨⟩
theorem tw10311097013404721296:True:=⟨⟩
theorem tw13577323112083386801:True:=⟨⟩
theorem tw4659310378239248859:True:=⟨⟩
theorem tw9504651607665059485:True:=⟨⟩
theorem tw14076772659853959801:True:=⟨⟩
theorem tw6303468539544129795:True:=⟨⟩
theorem tw13456096545421369595:True:=⟨⟩
theorem tw15229476882992590332:True:=⟨⟩
theorem tw17750578016768173912:True:=⟨⟩
theorem tw9805130647739947821:True:=⟨⟩
theorem tw16198449847732782563:True:=⟨⟩
theorem tw15861839170347045141:True:=⟨⟩
theorem tw14029156019841857731:True:=⟨⟩
theorem tw8147695673953043227:True:=⟨⟩
theorem tw10832322338454551197:True:=⟨⟩
theorem tw2968604455870309038:True:=⟨⟩
theorem tw4953155447063394709:True:=⟨⟩
theorem tw7256393752083214349:True:=⟨⟩
theorem tw10012114849441611349:True:=⟨⟩
theorem tw17015032223451155495:True:=⟨⟩
theorem tw1478414827136733587:True:=⟨⟩
theorem tw7019369248858181985:True:=⟨⟩
theorem tw1827199729851604453:True:=⟨⟩
theorem tw9530901235610492261:True:=⟨⟩
theorem tw13882826370567117533:True:=⟨⟩
theorem tw9367025194764264711:True:=⟨⟩
theorem tw7164279607209648020:True:=⟨⟩
theorem tw5864984633376612916:True:=⟨⟩
theorem tw7317685239803490785:True:=⟨⟩
theorem tw12206012926902189666:True:=⟨⟩
theorem tw7776373462557591597:True:=⟨⟩
theorem tw13568537033775993191:True:=⟨⟩
theorem tw974337871340058038:True:=⟨⟩
theorem tw845837078394443142:True:=⟨⟩
theorem tw13633005564487756549:True:=⟨⟩
theorem tw1529720813559150952:True:=⟨⟩
theorem tw9218010785443696981:True:=⟨⟩
theorem tw2926289451997567986:True:=⟨⟩
theorem tw14154514017177225646:True:=⟨⟩
theorem tw2661402018695810655:True:=⟨⟩
theorem tw4178397997159075582:True:=⟨⟩
theorem tw11221061410642898404:True:=⟨⟩
theorem tw9863039073340880689:True:=⟨⟩
theorem tw5925103951587809860:True:=⟨⟩
theorem tw1268607361403800102:True:=⟨⟩
theorem tw10164132442975621022:True:=⟨⟩
theorem tw16769238386682341506:True:=⟨⟩
theorem tw14042885116132546268:True:=⟨⟩
theorem tw2984199716087158538:True:=⟨⟩
theorem tw14270469243196830173:True:=⟨⟩
theorem tw9128464239575753264:True:=⟨⟩
theorem tw853747311205812970:True:=⟨⟩
theorem tw14648742120854744170:True:=⟨⟩
theorem tw6439837200472128284:True:=⟨⟩
theorem tw2455025490353665552:True:=⟨⟩
theorem tw3572002270730997582:True:=⟨⟩
theorem tw1469754252750829119:True:=⟨⟩
theorem tw15967726467233766206:True:=⟨⟩
theorem tw10097961187877797016:True:=⟨⟩
theorem tw3510598707494965404:True:=⟨⟩
theorem tw10121744279958691860:True:=⟨⟩
theorem tw15127147707398583970:True:=⟨⟩
theorem tw16763929912213082378:True:=⟨⟩
theorem tw8487848298042014966:True:=⟨⟩
theorem tw9187516741395756772:True:=⟨⟩
theorem tw7714076940416483041:True:=⟨⟩
theorem tw7646074112263867414:True:=⟨⟩
theorem tw8511089707235928342:True:=⟨⟩
theorem tw5018637869306250612:True:=⟨⟩
theorem tw9773951506460182563:True:=⟨⟩
theorem tw10224799914791476293:True:=⟨⟩
theorem tw7739095630679218365:True:=⟨⟩
theorem tw9315775674914916434:True:=⟨⟩
theorem tw15481644244566696142:True:=⟨⟩
theorem tw12498001417466990296:True:=⟨⟩
theorem tw15819253915991603290:True:=⟨⟩
theorem tw15967504120938377443:True:=⟨⟩
theorem tw103163249846981858:True:=⟨⟩
theorem tw1385712651140884546:True:=⟨⟩
theorem tw8900224936333961437:True:=⟨⟩
theorem tw12252396053907309352:True:=⟨⟩
theorem tw4216684598727093973:True:=⟨⟩
theorem tw5807794267974203064:True:=⟨⟩
theorem tw6912093330273750621:True:=⟨⟩
theorem tw3177622178585368419:True:=⟨⟩
theorem tw826084441302297446:True:=⟨⟩
theorem tw14507634284831327994:True:=⟨⟩
theorem tw1054719842443180259:True:=⟨⟩
theorem tw5328530139460199371:True:=⟨⟩
theorem tw2062105869175053598:True:=⟨⟩
theorem tw3551600736443794734:True:=⟨⟩
theorem tw11384894199223570921:True:=⟨⟩
theorem tw12709033821560253667:True:=⟨⟩
theorem tw13469678889270294110:True:=⟨⟩
theorem tw11613650616320269332:True:=⟨⟩
theorem tw15451090528983187973:True:=⟨⟩
theorem tw13206183321976281680:True:=⟨⟩
theorem tw578538325558694108:True:=⟨⟩
theorem tw8332252249507166385:True:=⟨⟩
theorem tw18417961797534514397:True:=⟨⟩
theorem tw988664281545758670:True:=⟨⟩
theorem tw16306800083508277010:True:=⟨⟩
theorem tw4275841147223927353:True:=⟨⟩
theorem tw8878398957666687512:True:=⟨⟩
theorem tw8989620602057330043:True:=⟨⟩
theorem tw14332966440284039279:True:=⟨⟩
theorem tw11178655607561374252:True:=⟨⟩
theorem tw7558270312826677816:True:=⟨⟩
theorem tw4869728120760894640:True:=⟨⟩
theorem tw2657455985022557902:True:=⟨⟩
theorem tw15183023455788360046:True:=⟨⟩
theorem tw17126949986012781068:True:=⟨⟩
theorem tw16499613026860842223:True:=⟨⟩
theorem tw2194613178199454334:True:=⟨⟩
theorem tw14937508854580217830:True:=⟨⟩
theorem tw9856778064554596720:True:=⟨⟩
theorem tw14718769335798702474:True:=⟨⟩
theorem tw5064864109435520277:True:=⟨⟩
theorem tw12846400292256127651:True:=⟨⟩
theorem tw11718333269237195292:True:=⟨⟩
theorem tw4850945880324629663:True:=⟨⟩
theorem tw9814758386159305257:True:=⟨⟩
theorem tw1583722387551990103:True:=⟨⟩
theorem tw14073473723777229468:True:=⟨⟩
theorem tw43376377788307444:True:=⟨⟩
theorem tw4927990443542086468:True:=⟨⟩
theorem tw7365257565131207611:True:=⟨⟩
theorem tw14704730911965069012:True:=⟨⟩
theorem tw12742386178593678282:True:=⟨⟩
theorem tw16673683537124067786:True:=⟨⟩
theorem tw82882518055115091:True:=⟨⟩
theorem tw4706733232983084781:True:=⟨⟩
theorem tw13266262083946880872:True:=⟨⟩
theorem tw8514260987047888884:True:=⟨⟩
theorem tw1043637985011567248:True:=⟨⟩
theorem tw14888341305562637249:True:=⟨⟩
theorem tw11948274135637906453:True:=⟨⟩
theorem tw7448162928966719023:True:=⟨⟩
theorem tw16111072492276583454:True:=⟨⟩
theorem tw4158460974182497999:True:=⟨⟩
theorem tw926601999905991110:True:=⟨⟩
theorem tw12395532767513758942:True:=⟨⟩
theorem tw12528443918292872289:True:=⟨⟩
theorem tw12523140522135196596:True:=⟨⟩
theorem tw451801963418201625:True:=⟨⟩
theorem tw1858247944678810417:True:=⟨⟩
theorem tw7347532295416895766:True:=⟨⟩
theorem tw9534264879279000178:True:=⟨⟩
theorem tw12402287147906703512:True:=⟨⟩
theorem tw10267775387537045920:True:=⟨⟩
theorem tw9757868354850407496:True:=⟨⟩
theorem tw9703672056559443343:True:=⟨⟩
theorem tw4705860945631126859:True:=⟨⟩
theorem tw11631255094564070506:True:=⟨⟩
theorem tw918763756469944943:True:=⟨⟩
theorem tw10917200967031252448:True:=⟨⟩
theorem tw7586085691761680422:True:=⟨⟩
theorem tw14367381106988721200:True:=⟨⟩
theorem tw14381533309208587422:True:=⟨⟩
theorem tw1273590716489567420:True:=⟨⟩
theorem tw10471160721394574002:True:=⟨⟩
theorem tw303025094384849361:True:=⟨⟩
theorem tw193094503323655682:True:=⟨⟩
theorem tw8598449376625282424:True:=⟨⟩
theorem tw11720366129299334664:True:=⟨⟩
theorem tw11145516848568885442:True:=⟨⟩
theorem tw2511268812324043056:True:=⟨⟩
theorem tw1718685680563895954:True:=⟨⟩
theorem tw1801761876731240512:True:=⟨⟩
theorem tw11959012798997085026:True:=⟨⟩
theorem tw18294000539529500816:True:=⟨⟩
theorem tw14076091012902071260:True:=⟨⟩
theorem tw4914424480622062913:True:=⟨⟩
theorem tw8417752998113536210:True:=⟨⟩
theorem tw3750840779481090755:True:=⟨⟩
theorem tw9714216198504810762:True:=⟨⟩
theorem tw16182129390391335413:True:=⟨⟩
theorem tw5711385392652680616:True:=⟨⟩
theorem tw10140144893657653277:True:=⟨⟩
theorem tw13351569700366920842:True:=⟨⟩
theorem tw10196046034866036850:True:=⟨⟩
theorem tw8997720685755744491:True:=⟨⟩
theorem tw7918426704077553871:True:=⟨⟩
theorem tw16793724959791450578:True:=⟨⟩
theorem tw5060505462618630657:True:=⟨⟩
theorem tw9566320095549280614:True:=⟨⟩
theorem tw640720740957091962:True:=⟨⟩
theorem tw13780367109540715866:True:=⟨⟩
theorem tw148163597842371102:True:=⟨⟩
theorem tw543770079140274767:True:=⟨⟩
theorem tw7799390800690159066:True:=⟨⟩
theorem tw10760975556239908344:True:=⟨⟩
theorem tw4215346981197340485:True:=⟨⟩
theorem tw9361105957639417583:True:=⟨⟩
theorem tw8790587504941559159:True:=⟨⟩
theorem tw15145175985226090746:True:=⟨⟩
theorem tw17612407447906900173:True:=⟨⟩
theorem tw5265309328036142894:True:=⟨⟩
theorem tw17855762330335664281:True:=⟨⟩
theorem tw2136115052012246272:True:=⟨⟩
theorem tw3299745975663483089:True:=⟨⟩
theorem tw3789160659958714841:True:=⟨⟩
theorem tw11448604348947433388:True:=⟨⟩
theorem tw2592093138445448123:True:=⟨⟩
theorem tw1956568240106611592:True:=⟨⟩
theorem tw16430159336089450400:True:=⟨⟩
theorem tw421856694470587902:True:=⟨⟩
theorem tw10955321282997301834:True:=⟨⟩
theorem tw4261814239390659824:True:=⟨⟩
theorem tw17533423965965700908:True:=⟨⟩
end PySem.W.Fast
open PySem PySem.W PyProof.Rows
set_option maxRecDepth 100000 in
set_option maxHeartbeats 0 in
theorem PySem.Challenge.cw_flaglocker_k28_too_few_flags_holds : PySem.Challenge.rw_flaglocker_k28_too_few_flags.Holds := by
  w_on; o_law; k_head; (case hw => w_witness2)
  k_fill
  refine Mine.walk (l:=PySem.Challenge.rw_flaglocker_k28_too_few_flags) rfl rfl (fun w h Y => PySem.W.kIn_of Y) ?F
  case F =>
    intro w mg fa h KX G hmg
    refine' Mine.all_mk KX G hmg ?a_0 ?l_0 ?c_0 ?k_0 ?a_1 ?l_1 ?c_1 ?k_1 ?a_2 ?l_2 ?c_2 ?k_2 ?a_3 ?l_3 ?c_3 ?k_3 ?a_4 ?l_4 ?c_4 ?k_4 ?a_5 ?l_5 ?c_5 ?k_5 ?a_6 ?l_6 ?c_6 ?k_6 ?a_7 ?l_7 ?c_7 ?k_7 ?a_8 ?l_8 ?c_8 ?k_8 ?a_9 ?l_9 ?c_9 ?k_9 ?a_10 ?l_10 ?c_10 ?k_10 ?a_11 ?l_11 ?c_11 ?k_11 ?y_12 ?a_12 ?l_12 ?c_12 ?k_12 ?a_13 ?l_13 ?c_13 ?k_13 ?a_14 ?l_14 ?c_14 ?k_14 ?a_15 ?l_15 ?c_15 ?k_15 ?a_16 ?l_16 ?c_16 ?k_16 ?a_17 ?l_17 ?c_17 ?k_17 ?a_18 ?l_18 ?c_18 ?k_18 ?a_19 ?l_19 ?c_19 ?k_19 ?a_20 ?l_20 ?c_20 ?k_20 ?a_21 ?l_21 ?c_21 ?k_21 ?a_22 ?l_22 ?c_22 ?k_22 ?a_23 ?l_23 ?c_23 ?k_23 ?a_24 ?l_24 ?c_24 ?k_24 ?a_25 ?l_25 ?c_25 ?k_25 ?a_26 ?l_26 ?c_26 ?k_26 ?a_27 ?l_27 ?c_27 ?k_27 ?a_28 ?l_28 ?c_28 ?k_28 ?y_29 ?a_29 ?l_29 ?c_29 ?k_29 ?a_30 ?l_30 ?c_30 ?k_30 ?a_31 ?l_31 ?c_31 ?k_31 ?a_32 ?l_32 ?c_32 ?k_32 ?a_33 ?l_33 ?c_33 ?k_33 ?a_34 ?l_34 ?c_34 ?k_34 ?a_35 ?l_35 ?c_35 ?k_35 ?a_36 ?l_36 ?c_36 ?k_36 ?a_37 ?l_37 ?c_37 ?k_37 ?a_38 ?l_38 ?c_38 ?k_38 ?a_39 ?l_39 ?c_39 ?k_39 ?a_40 ?l_40 ?c_40 ?k_40 ?a_41 ?l_41 ?c_41 ?k_41 ?z_len ?z_range ?z_min ?z_list ?z_max ?z_enumerate ?z_int ?z_all ?z_zip ?z_isinstance ?z_ValueError ?z_dict ?z_sum ?z_set ?z_sorted ?g_FLAGS ?g_SUBSTITUTES ?g_MOST_PLACES ?q_Lack ?q_TowerError ?q_Short ?q_NoHoist ?q_NoBook ?q_NoCut ?q_NoText ?q_NoWord ?q_NoHalyard ?q_NoFlag ?q_NoDeed ?q_NoRow ?f_m_Lack ?f_x_NoHoist ?f_m_Short ?f_i_1 ?f_i_2 ?f_i_3 ?f_i_4 ?f_i_5 ?f_i_6 ?f_i_7 ?f_i_8 ?f_i_9 ?f_i_10 ?f_i_11 ?f_i_12 ?f_t1_TowerError ?f_t2_TowerError ?f_t3_TowerError ?f_xo_Lack ?f_xk_Lack ?f_xe1_Lack ?f_xe2_Lack ?f_xe3_Lack ?f_xe4_Lack ?f_xe5_Lack ?f_xe6_Lack ?f_xe7_Lack ?f_xe8_Lack ?f_xs_Lack ?f_xr_Lack ?f_xv_Lack ?f_xn_Lack_wants ?f_xn_Lack_flags ?f_xo_Short ?f_xk_Short ?f_xe1_Short ?f_xe2_Short ?f_xe3_Short ?f_xe4_Short ?f_xe5_Short ?f_xe6_Short ?f_xe7_Short ?f_xe8_Short ?f_xs_Short ?f_xr_Short ?f_xv_Short ?f_xn_Short_flag
    (case q_Lack | q_TowerError | q_Short | q_NoHoist | q_NoBook | q_NoCut | q_NoText | q_NoWord | q_NoHalyard | q_NoFlag | q_NoDeed | q_NoRow | a_0 | l_0 | c_0 | k_0 | a_1 | l_1 | c_1 | k_1 | a_2 | l_2 | c_2 | k_2 | a_3 | l_3 | c_3 | k_3 | a_4 | l_4 | c_4 | k_4 | a_5 | l_5 | c_5 | k_5 | a_6 | l_6 | c_6 | k_6 => k_is)
    (case a_7 | l_7 | c_7 | k_7 | a_8 | l_8 | c_8 | k_8 | a_9 | l_9 | c_9 | k_9 | a_10 | l_10 | c_10 | k_10 | a_11 | l_11 | c_11 | k_11 | a_12 | l_12 | c_12 | k_12 | a_13 | l_13 | c_13 | k_13 | a_14 | l_14 | c_14 | k_14 | a_15 | l_15 | c_15 | k_15 | a_16 | l_16 | c_16 | k_16 => k_is)
    (case a_17 | l_17 | c_17 | k_17 | a_18 | l_18 | c_18 | k_18 | a_19 | l_19 | c_19 | k_19 | a_20 | l_20 | c_20 | k_20 | a_21 | l_21 | c_21 | k_21 | a_22 | l_22 | c_22 | k_22 | a_23 | l_23 | c_23 | k_23 | a_24 | l_24 | c_24 | k_24 | a_25 | l_25 | c_25 | k_25 | a_26 | l_26 | c_26 | k_26 => k_is)
    (case a_27 | l_27 | c_27 | k_27 | a_28 | l_28 | c_28 | k_28 | a_29 | l_29 | c_29 | k_29 | a_30 | l_30 | c_30 | k_30 | a_31 | l_31 | c_31 | k_31 | a_32 | l_32 | c_32 | k_32 | a_33 | l_33 | c_33 | k_33 | a_34 | l_34 | c_34 | k_34 | a_35 | l_35 | c_35 | k_35 | a_36 | l_36 | c_36 | k_36 => k_is)
    (case a_37 | l_37 | c_37 | k_37 | a_38 | l_38 | c_38 | k_38 | a_39 | l_39 | c_39 | k_39 | a_40 | l_40 | c_40 | k_40 | a_41 | l_41 | c_41 | k_41 | z_len | z_range | z_min | z_list | z_max | z_enumerate | z_int | z_all | z_zip | z_isinstance | z_ValueError | z_dict | z_sum | z_set | z_sorted | g_FLAGS | g_SUBSTITUTES | g_MOST_PLACES => k_is)
    (case f_m_Lack => kts_exm)
    (case f_x_NoHoist => k_exc)
    (case f_m_Short => kts_exm)
    (case f_i_1 | f_i_2 | f_i_3 | f_i_4 | f_i_5 | f_i_6 | f_i_7 | f_i_8 | f_i_9 | f_i_10 | f_i_11 | f_i_12 => kit_is)
    (case f_t1_TowerError | f_t2_TowerError | f_t3_TowerError => k_is)
    (case f_xo_Lack => kernel_rfl!)
    (case f_xk_Lack | f_xe1_Lack | f_xe2_Lack | f_xe3_Lack | f_xe4_Lack | f_xe5_Lack | f_xe6_Lack | f_xe7_Lack | f_xe8_Lack | f_xs_Lack => k_is)
    (case f_xr_Lack => kernel_rfl!)
    (case f_xv_Lack | f_xn_Lack_wants | f_xn_Lack_flags => k_is)
    (case f_xo_Short => kernel_rfl!)
    (case f_xk_Short | f_xe1_Short | f_xe2_Short | f_xe3_Short | f_xe4_Short | f_xe5_Short | f_xe6_Short | f_xe7_Short | f_xe8_Short | f_xs_Short => k_is)
    (case f_xr_Short => kernel_rfl!)
    (case f_xv_Short | f_xn_Short_flag | y_12 | y_29 => k_is)
