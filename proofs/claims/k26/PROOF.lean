import PyProof.Rows.All
import Wide.All
import OpenK.AllK
import Wide.FinOn
import Lean
import PyProof.EqAt
import PyProof.EqKinds
import PyProof.TupleCall
import PySem.Challenge.RW_flaglocker_k26_what_is_lowered
set_option Elab.async false
set_option compiler.extract_closed false
set_option linter.all false
set_option maxRecDepth 100000
abbrev Aa:=@List.getElem?_eq_getElem
abbrev Ab:=@List.length_map
abbrev Ac:=@List.getD_eq_getElem?_getD
abbrev Ad:=@List.getElem?_eq_some_iff
abbrev Ae:=@PySem.wpAny_bind
abbrev Af:=@PySem.Heap.get?_push_of_some
abbrev Ag:=@Nat.le_refl
abbrev Ah:=@List.getElem?_map
abbrev Ai:=@List.mem_of_getElem?
abbrev Aj:=@List.length_append
abbrev Ak:=@List.map_append
abbrev Al:=@List.mem_cons_self
abbrev Am:=@List.mem_cons_of_mem
abbrev An:=@PySem.wpAny_pure
abbrev Ao:=@Bool.false_ne_true
abbrev Ap:=@List.getElem?_append_left
abbrev Aq:=@PySem.Heap.lt_size
abbrev Ar:=@List.map_cons
abbrev As:=@List.mem_singleton
abbrev Au:=@decide_eq_true
abbrev Av:=@List.getElem?_append_right
abbrev Aw:=@decide_eq_false
abbrev Ax:=@PySem.Heap.get?_push_size
abbrev Ay:=@PySem.PassesOwn.never
abbrev Az:=@List.mem_cons
abbrev Ba:=@of_decide_eq_true
abbrev Bb:=@Nat.lt_of_lt_of_le
abbrev Bc:=@List.take_add_one
abbrev Bd:=@List.mem_append_right
abbrev Be:=@List.length_cons
abbrev Bf:=@Nat.le_trans
abbrev Bg:=@List.mem_map
abbrev Bh:=@PySem.F.plainAttrs_list
abbrev Bi:=@Option.some.inj
abbrev Bj:=@List.mem_append
abbrev Bk:=@Nat.ne_of_lt
abbrev Bl:=@decide_eq_true_iff
abbrev Bm:=@List.append_nil
abbrev Bo:=@List.take_of_length_le
abbrev Bp:=@of_decide_eq_false
abbrev Bq:=@List.size_toArray
abbrev Br:=@Bool.eq_false_iff
abbrev Bs:=@List.take_length
abbrev Bt:=@List.mem_append_left
abbrev Bu:=@List.nodup_cons
abbrev Bv:=@PySem.wpAny_loadPart'
abbrev Bw:=@PySem.F.slot_dict_get
abbrev Bx:=@List.length_range
abbrev By:=@PySem.Heap.get?_update_other
abbrev Bz:=@List.length_take
abbrev Ca:=@List.getElem_mem
abbrev Cb:=@List.mem_range
abbrev Cc:=@PySem.wpAny_mono
abbrev Cd:=@List.mem_iff_getElem
abbrev Ce:=@List.range_succ
abbrev Cf:=@List.filterMap_append
abbrev Cg:=@PySem.F.slot_list_append
abbrev Ci:=@PySem.F.type_list_append
abbrev Cj:=@Array.getElem?_eq_some_iff
abbrev Ck:=@Nat.zero_le
abbrev Cm:=@PySem.wpAny_holding
abbrev Co:=@List.length_drop
abbrev Cp:=@decide_eq_decide
abbrev Cq:=@List.sum_cons
abbrev Cr:=@List.filterMap_cons
abbrev Cs:=@PySem.F.type_dict_get
abbrev Ct:=@PyProof.Rows.callWith_type1
abbrev Cu:=@List.nodup_append
abbrev Cv:=@List.getElem?_set_ne
abbrev Cw:=@Int.emod_lt_of_pos
abbrev Cy:=@PySem.W.kia_one
abbrev Cz:=@Int.emod_nonneg
abbrev Da:=@List.getElem?_set_self
abbrev Dc:=@List.map_map
abbrev Dd:=@PySem.mem_of_lookup
abbrev De:=@List.map_congr_left
abbrev Df:=@Array.getElem?_toList
abbrev Dg:=@List.length_filterMap_le
abbrev Dh:=@List.filterMap_cons_some
abbrev Di:=@List.mem_filterMap
abbrev Dj:=@List.filterMap_nil
abbrev Dk:=@List.all_eq_true
abbrev Dm:=@List.countP_cons
abbrev Dn:=@Nat.lt_irrefl
abbrev Do:=@Array.length_toList
abbrev Dp:=@List.mem_filter
abbrev Dq:=@congrArg
abbrev Dr:=@List.lookup_cons
abbrev Ds:=@List.filterMap_cons_none
abbrev Dt:=@PySem.F.slot_list_extend
abbrev Du:=@PySem.F.type_list_extend
abbrev Dv:=@PySem.wpAny_typeNameOfWhole_keyiter
abbrev Dw:=@List.of_mem_zip
abbrev Dx:=@PySem.F.slot_dict_keyiterator_next
abbrev Dy:=@beq_eq_false_iff_ne
abbrev Dz:=@List.flatMap_append
abbrev Ea:=@PySem.wpAny_Call_Name_kw
abbrev Eb:=@PySem.tupleKind_room_in1
abbrev Ec:=@List.take_zero
abbrev Ed:=@List.mem_iff_getElem?
abbrev Ee:=@PySem.wpAny_passesOwn
abbrev Ef:=@List.length_set
abbrev Eg:=@Option.map_some
abbrev Eh:=@PySem.codeAny_call_builtin
abbrev Ei:=@Int.toNat_natCast
abbrev Ej:=@List.flatten_cons
abbrev Ek:=@Option.isSome_iff_exists
abbrev El:=@List.filter_sublist
abbrev Em:=@Bool.and_eq_true
abbrev En:=@PySem.wpAny_getItem_str_slice
abbrev Eo:=@Nat.add_sub_cancel_left
abbrev Ep:=@List.filter_cons
abbrev Er:=@PySem.Calls.callWith_builtin
abbrev Et:=@PySem.F.entry_dict_get
abbrev Eu:=@List.filter_append
abbrev Ew:=@List.countP_eq_length_filter
abbrev Ey:=@Nat.not_lt_zero
abbrev Ez:=@PySem.wpAny_standAt
abbrev Fa:=@List.getElem?_zipWith
abbrev Fb:=@PySem.wpAny_truthy_bool
abbrev Fc:=@PySem.wpAny_loadPart_at
abbrev Fd:=@Array.getD_eq_getD_getElem?
abbrev Fe:=@List.flatMap_cons
abbrev Ff:=@PySem.Heap.get?_none_of_le
abbrev Fg:=@PySem.Around.under_plainId
abbrev Fh:=@PySem.F.excBase_ValueError
abbrev Fi:=@List.getElem_inj
abbrev Fj:=@PySem.codeAny_mono
abbrev Fk:=@PySem.call_meetsIn
abbrev Fl:=@PySem.wpAny_call_entry
abbrev Fm:=@List.mem_flatMap
abbrev Fn:=@Nat.sub_self
abbrev Fo:=@Array.getElem?_eq_getElem
abbrev Fp:=@Option.isSome_iff_ne_none
abbrev Fq:=@List.take_succ_cons
abbrev Fs:=@List.getElem?_range
abbrev Ft:=@Bool.false_or
abbrev Fu:=@PySem.codeAny_builtin
abbrev Fv:=@PySem.W.of_hideAll
abbrev Fw:=@PySem.Obj.data_mapFields
abbrev Fx:=@List.countP_append
abbrev Fy:=@PySem.wpAny_field
abbrev Fz:=@Int.le_refl
abbrev Ga:=@List.take_sublist
abbrev Gb:=@PySem.wpAny_pyIter_list
abbrev Gc:=@PySem.wpAny_newObj_type
abbrev Gd:=@PySem.wpAny_setField
abbrev Ge:=@PySem.wpAny_call
abbrev Gf:=@beq_self_eq_true
abbrev Gg:=@List.any_eq_true
abbrev Gh:=@Nat.min_eq_right
abbrev Gi:=@List.any_cons
abbrev Gj:=@Nat.ne_of_gt
abbrev Gk:=@List.map_nil
namespace L2
open PySem PySem.Spec PyProof.Rows
abbrev Key:=Sum Int Str
def kT:Key->Value->Bool
 | .inl k,v=>Value.isInt k v
 | .inr x,v=>Value.isStrOf x v
def dX7 (w:World):Key->Int
 | .inl k=>hashInt k
 | .inr x=>hashStr w x
theorem bR:∀ {k:Key} {v:Value},kT k v=true->(∃ i t,k=Sum.inl i/\v=Value.int i t)\/(∃ x t,k=Sum.inr x/\v=Value.str x t)
 | .inl i,v,h=>by
   obtain ⟨t,e⟩:=Value.isInt_shape (k:=i) (v:=v) h
   exact .inl ⟨i,t,rfl,e⟩
 | .inr x,v,h=>by
   obtain ⟨t,e⟩:=Value.isStrOf_shape (x:=x) (v:=v) h
   exact .inr ⟨x,t,rfl,e⟩
theorem aJE (i:Int) (t:Tok):kT (.inl i) (.int i t)=true:=by simp [kT,Value.isInt]
theorem aJU (x:Str) (t:Tok):kT (.inr x) (.str x t)=true:=by simp [kT,Value.isStrOf]
theorem cJO (a b:Int):decide ((Sum.inl a:Key)=Sum.inl b)=(a == b):=by
 by_cases e:a=b
 · subst e; simp
 · have h:¬ (Sum.inl a:Key)=Sum.inl b:=λq=>e (Sum.inl.inj q)
   rw [Aw h]
   exact (Dy.mpr e).symm
theorem dXH (a b:Str):decide ((Sum.inr a:Key)=Sum.inr b)=decide (a=b):=by
 by_cases e:a=b
 · subst e; simp
 · have h:¬ (Sum.inr a:Key)=Sum.inr b:=λq=>e (Sum.inr.inj q)
   rw [Aw h,Aw e]
theorem dQN (a:Int) (b:Str):decide ((Sum.inl a:Key)=Sum.inr b)=false:=Aw (λq=>nomatch q)
theorem cJQ (a:Str) (b:Int):decide ((Sum.inr a:Key)=Sum.inl b)=false:=Aw (λq=>nomatch q)
def bB (prog:Program) (w:World):PySem.KeyKind prog w Key where
 is:=kT
 hash:=dX7 w
 inj:=λv a b ha hb=>by
   rcases bR ha with ⟨i,t,rfl,rfl⟩ | ⟨x,t,rfl,rfl⟩
   · rcases bR hb with ⟨j,u,rfl,e⟩ | ⟨y,u,rfl,e⟩
     · injection e with e1 _; rw [e1]
     · exact nomatch e
   · rcases bR hb with ⟨j,u,rfl,e⟩ | ⟨y,u,rfl,e⟩
     · exact nomatch e
     · injection e with e1 _; rw [e1]
 byValue:=λk v h=>by
   rcases bR h with ⟨i,t,rfl,rfl⟩ | ⟨x,t,rfl,rfl⟩ <;> rfl
 pyHash:=λhv h=>by
   rcases bR hv with ⟨i,t,rfl,rfl⟩ | ⟨x,t,rfl,rfl⟩
   · exact wpAny_pyHash_int h
   · exact wpAny_pyHash_str h
 eqBool:=λhu hv h=>by
   rcases bR hu with ⟨i,t,rfl,rfl⟩ | ⟨x,t,rfl,rfl⟩
   · rcases bR hv with ⟨j,u,rfl,rfl⟩ | ⟨y,u,rfl,rfl⟩
     · rw [cJO] at h; exact wpAny_eqBool_int h
     · rw [dQN] at h; exact SeqAt.EqAt.int_str i t y u _ _ _ _ h
   · rcases bR hv with ⟨j,u,rfl,rfl⟩ | ⟨y,u,rfl,rfl⟩
     · rw [cJQ] at h; exact SeqAt.EqAt.str_int x t j u _ _ _ _ h
     · rw [dXH] at h; exact wpAny_eqBool_str h
 «strs» := λk x t v h=>by
   rcases bR h with ⟨i,u,rfl,e⟩ | ⟨y,u,rfl,e⟩
   · exact nomatch e
   · injection e with e1 _
     subst e1
     cases v <;> rfl
theorem xW (prog:Program) (w:World) (i:Int) (t:Tok):(bB prog w).is (.inl i) (.int i t)=true:=aJE i t
theorem xX (prog:Program) (w:World) (x:Str) (t:Tok):(bB prog w).is (.inr x) (.str x t)=true:=aJU x t
end L2
namespace L2
open PySem PySem.Spec PyProof.Rows
inductive V where
 | non | bl (b:Bool) | int (i:Int) | str (x:Str) | byt (b:Array UInt8) | flt (b:UInt64) | ref (a:Addr) | ty (n:String)
 deriving DecidableEq
def RelV:V->Value->Prop
 | .non,u=>u=Value.none
 | .bl b,u=>u=Value.bool b
 | .int i,u=>∃ t,u=Value.int i t
 | .str x,u=>∃ t,u=Value.str x t
 | .byt b,u=>∃ t,u=Value.bytes b t
 | .flt b,u=>∃ t,u=Value.float b t
 | .ref a,u=>u=Value.ref a
 | .ty n,u=>u=Value.type n
abbrev Vals:List V->List Value->Prop:=Paired RelV
theorem Vals.length {xs:List V} {us:List Value} (r:Vals xs us):xs.length=us.length:=Paired.length r
theorem Vals.get:∀ {xs:List V} {us:List Value} {i:Nat} {x:V},Vals xs us->xs[i]?=some x->∃ u,us[i]?=some u/\RelV x u
 | _,_,_,_,.nil,e=>by simp at e
 | _,_,0,_,.cons r _,e=>by simp at e; subst e; exact ⟨_,rfl,r⟩
 | _,_,i + 1,x,.cons _ t,e=>by
   obtain ⟨u,h1,h2⟩:=Vals.get (i:=i) (x:=x) t (by simpa using e)
   exact ⟨u,by simpa using h1,h2⟩
theorem Vals.set {x:V} {u:Value} (r:RelV x u):∀ {xs:List V} {us:List Value} (i:Nat),Vals xs us->Vals (xs.set i x) (us.set i u)
 | _,_,_,.nil=>.nil
 | _,_,0,.cons _ t=>.cons r t
 | _,_,i + 1,.cons q t=>.cons q (Vals.set r i t)
theorem Vals.append:∀ {xs ys:List V} {us ws:List Value},Vals xs us->Vals ys ws->Vals (xs ++ ys) (us ++ ws)
 | _,_,_,_,.nil,s=>s
 | _,_,_,_,.cons r t,s=>.cons r (Vals.append t s)
theorem Vals.take:∀ {xs:List V} {us:List Value} (n:Nat),Vals xs us->Vals (xs.take n) (us.take n)
 | _,_,0,_=>.nil
 | _,_,_ + 1,.nil=>.nil
 | _,_,n + 1,.cons r t=>.cons r (Vals.take n t)
theorem Vals.drop:∀ {xs:List V} {us:List Value} (n:Nat),Vals xs us->Vals (xs.drop n) (us.drop n)
 | _,_,0,r=>r
 | _,_,_ + 1,.nil=>.nil
 | _,_,n + 1,.cons _ t=>Vals.drop n t
theorem Vals.none_of:∀ {xs:List V} {us:List Value} {i:Nat},Vals xs us->xs[i]?=none->us[i]?=none:=fun {xs us i} r e=>by
 have h1:=r.length
 have h2:xs.length<=i:=List.getElem?_eq_none_iff.mp e
 exact List.getElem?_eq_none_iff.mpr (by omega)
def RelO:Option V->Option Value->Prop
 | some v,some u=>RelV v u
 | none,none=>True
 | _,_=>False
def KV {κ:Type}:List (κ × V)->List (κ × Value)->Prop:=Paired λ(p:κ × V) (q:κ × Value)=>p.1=q.1/\RelV p.2 q.2
def kV:Key->V
 | .inl i=>.int i
 | .inr x=>.str x
inductive HO where
   | lst (xs:List V)
   | tup (xs:List V)
   | dK (kvs:List (Key × V)) | dT (kvs:List (List Key × V))
   | set (S:Int->Bool) (n:Nat)
   | ins (C dx:Addr) (fs:List (Str × V))
   | own (x:Addr)
   | xd (fs:List (Str × V))
   | met (f x:Addr)
   | rng (lo hi:Int)
   | frz (o:Obj) (u:HO)
   | tbl (ps:Array Value)
   | ext (φ:Heap->Prop)
abbrev Hp:=Addr->Option HO
def upd (H:Hp) (a:Addr) (o:HO):Hp:=λb=>if b=a then some o else H b
theorem aE {H:Hp} {a:Addr} {o:HO}:upd H a o a=some o:=by unfold upd; rw [if_pos rfl]
theorem aK {H:Hp} {a b:Addr} {o:HO} (h:b≠a):upd H a o b=H b:=by unfold upd; rw [if_neg h]
theorem aXG {H:Hp} {a:Addr} {o u:HO}:upd (upd H a o) a u=upd H a u:=by
 funext b; unfold upd; split <;> rfl
theorem dZ7 {H:Hp} {a b:Addr} {o u:HO} (h:H a=some o) (h':H b=some u) (d:o≠u):a≠b:=by
 intro e; subst e; rw [h] at h'; exact d (Bi h')
theorem bJ {H:Hp} {a b:Addr} {o:HO} (h:H a=some o) (h':H b=none):a≠b:=by
 intro e; subst e; rw [h] at h'; cases h'
section
variable (P:Program) (w:World)
def ObjOk (H:Hp) (h:Heap) (a:Addr):HO->Prop
 | .lst xs=>xs.length<=sizeLine/\∃ (its:List Value) (n:Nat),Vals xs its/\h.get? a=some { cls:=.type "list",data:=.seq its.toArray n }
 | .tup xs=>xs.length<=sizeLine/\∃ its:List Value,Vals xs its/\IsTup h a its.toArray
 | .dK kvs=>kvs.length<=sizeLine/\(a == sysModules)=false/\∃ vs,KV kvs vs/\h.DictOf (bB P w) a vs
 | .dT kvs=>kvs.length<=sizeLine/\(a == sysModules)=false/\∃ xs:List (List Key × Addr × Value),
     Paired (λ(p:List Key × V) (q:List Key × Addr × Value)=>p.1=q.1/\H q.2.1=some (.tup (p.1.map kV))/\RelV p.2 q.2.2) kvs xs/\
     ∃ o es ep,h.get? a=some o/\o.ExactDict/\o.data=.dict es ep/\es.toList=xs.map (entryOfKey (tupleKind (bB P w)))/\(xs.map (·.1)).Nodup
 | .set S n=>h.SetOf (intKind P w) a S n
 | .ins C dx fs=>H dx=some (.own a)/\fs.length<=1000/\dx≠a/\h.get? a=some (PySem.W.instObj C dx)/\
     ∃ mA,h.Ns1 dx mA/\(∀ f,RelO (fs.lookup f) (mA f))/\PySem.Within mA (fs.map (·.1))
 | .own _=>∃ o,h.get? a=some o
 | .xd fs=>∃ mA,h.Ns1 a mA/\∀ f,RelO (fs.lookup f) (mA f)
 | .rng lo hi=>∃ t u v,h.get? a=some { cls:=.type "range",data:=.fields #[.int lo t,.int hi u,.int 1 v] }
 | .frz o u=>h.get? a=some o/\ObjOk H h a u
 | .tbl ps=>h.get? a=some { cls:=.none,data:=.fields ps }
 | .met f x=>h.get? a=some (PySem.W.methodObj (.ref f) (.ref x))
 | .ext φ=>φ h/\(∃ o,h.get? a=some o)/\∀ h1 h2:Heap,φ h1->(∀ o,h1.get? a=some o->h2.get? a=some o)->φ h2
def HOk (H:Hp) (h:Heap):Prop:=∀ a o,H a=some o->ObjOk P w H h a o
end
section
variable {P:Program} {w:World} {H H':Hp} {h h':Heap} {a:Addr} {o:HO}
theorem ObjOk.lt (x:ObjOk P w H h a o):a < h.objs.size:=by
 cases o with
 | lst xs=>obtain ⟨_,_,_,_,e⟩:=x; exact Aq e
 | tup xs=>obtain ⟨_,_,_,p⟩:=x; exact p.lt
 | dK kvs=>obtain ⟨_,_,_,_,o,_,_,e,_⟩:=x; exact Aq e
 | dT kvs=>obtain ⟨_,_,_,_,o,_,_,e,_⟩:=x; exact Aq e
 | set S n=>obtain ⟨o,_,_,_,e,_⟩:=x; exact Aq e
 | ins C dx fs=>obtain ⟨_,_,_,e,_⟩:=x; exact Aq e
 | own y=>obtain ⟨_,e⟩:=x; exact Aq e
 | xd fs=>obtain ⟨_,⟨_,_,_,e,_⟩,_⟩:=x; exact Aq e
 | rng lo hi=>obtain ⟨_,_,_,e⟩:=x; exact Aq e
 | frz ob u=>obtain ⟨e,_⟩:=x; exact Aq e
 | tbl ps=>exact Aq (show h.get? a=some _ from x)
 | met f y=>exact Aq (show h.get? a=some _ from x)
 | ext φ=>obtain ⟨_,⟨_,e⟩,_⟩:=x; exact Aq e
theorem Paired.mapP {α β:Type} {F G:α->β->Prop}:∀ {l₁:List α} {l₂:List β},Paired F l₁ l₂->(∀ a b,F a b->G a b)->Paired G l₁ l₂
 | _,_,.nil,_=>.nil
 | _,_,.cons r t,f=>.cons (f _ _ r) (Paired.mapP t f)
theorem ObjOk.stay (x:ObjOk P w H h a o) (k:∀ b u,(b=a\/H b=some (.own a))->h.get? b=some u->h'.get? b=some u)
   (ho:∀ b,H b=some (.own a)->H' b=some (.own a)) (ht:∀ b xs,H b=some (.tup xs)->H' b=some (.tup xs)):ObjOk P w H' h' a o:=by
 induction o with
 | lst xs=>obtain ⟨z,its,n,r,e⟩:=x; exact ⟨z,its,n,r,k _ _ (.inl rfl) e⟩
 | tup xs=>obtain ⟨z,its,r,ob,e,c⟩:=x; exact ⟨z,its,r,ob,k _ _ (.inl rfl) e,c⟩
 | dK kvs=>obtain ⟨z,y,vs,r,ob,es,ep,e,c⟩:=x; exact ⟨z,y,vs,r,ob,es,ep,k _ _ (.inl rfl) e,c⟩
 | dT kvs=>
   obtain ⟨z,y,xs,r,ob,es,ep,e,c⟩:=x
   exact ⟨z,y,xs,Paired.mapP r λp q z=>⟨z.1,ht _ _ z.2.1,z.2.2⟩,ob,es,ep,k _ _ (.inl rfl) e,c⟩
 | set S n=>obtain ⟨ob,es,ep,t,e,c⟩:=x; exact ⟨ob,es,ep,t,k _ _ (.inl rfl) e,c⟩
 | ins C dx fs=>
   obtain ⟨d,z,ne,e,mA,⟨od,es,ep,e2,c⟩,r⟩:=x
   exact ⟨ho _ d,z,ne,k _ _ (.inl rfl) e,mA,⟨od,es,ep,k _ _ (.inr d) e2,c⟩,r⟩
 | own y=>obtain ⟨ob,e⟩:=x; exact ⟨ob,k _ _ (.inl rfl) e⟩
 | xd fs=>obtain ⟨mA,⟨od,es,ep,e,c⟩,r⟩:=x; exact ⟨mA,⟨od,es,ep,k _ _ (.inl rfl) e,c⟩,r⟩
 | rng lo hi=>obtain ⟨t,u,v,e⟩:=x; exact ⟨t,u,v,k _ _ (.inl rfl) e⟩
 | frz ob u ih=>obtain ⟨e,q⟩:=x; exact ⟨k _ _ (.inl rfl) e,ih q⟩
 | tbl ps=>
   have e:h.get? a=some { cls:=.none,data:=.fields ps }:=x
   show h'.get? a=some { cls:=.none,data:=.fields ps }
   exact k a _ (.inl rfl) e
 | met f y=>
   have e:h.get? a=some (PySem.W.methodObj (.ref f) (.ref y)):=x
   show h'.get? a=some (PySem.W.methodObj (.ref f) (.ref y))
   exact k a _ (.inl rfl) e
 | ext φ=>obtain ⟨p,⟨o,e⟩,st⟩:=x; exact ⟨st _ _ p λo q=>k _ _ (.inl rfl) q,⟨o,k _ _ (.inl rfl) e⟩,st⟩
theorem HOk.lt (x:HOk P w H h) (e:H a=some o):a < h.objs.size:=(x a o e).lt
theorem HOk.fresh (x:HOk P w H h) (e:h.objs.size<=a):H a=none:=by
 cases q:H a with
 | none=>rfl
 | some u=>exact absurd (Bb (x.lt q) e) (Dn _)
theorem HOk.kept (x:HOk P w H h) (k:∀ b u,h.get? b=some u->h'.get? b=some u):HOk P w H h':=λa o e=>
 (x a o e).stay (λb u _ q=>k b u q) (λ_ q=>q) λ_ _ q=>q
theorem HOk.laid (x:HOk P w H h) (k:∀ b u,h.get? b=some u->h'.get? b=some u) (hp:h.objs.size<=a) (new:ObjOk P w (upd H a o) h' a o):HOk P w (upd H a o) h':=λb u e=>by
 have hn:=x.fresh hp
 by_cases hb:b=a
 · subst hb; rw [aE] at e; cases e; exact new
 · rw [aK hb] at e
   exact (x b u e).stay (λc v _ q=>k c v q) (λc q=>by rw [aK (bJ q hn)]; exact q) λc xs q=>by rw [aK (bJ q hn)]; exact q
end
def Rd (H:Hp) (a:Addr) (u:HO):Prop:=H a=some u\/∃ o,H a=some (.frz o u)
theorem Rd.of {H:Hp} {a:Addr} {u:HO} (h:H a=some u):Rd H a u:=.inl h
theorem Rd.ok {P:Program} {w:World} {H:Hp} {h:Heap} {a:Addr} {u:HO} (r:Rd H a u) (x:HOk P w H h):ObjOk P w H h a u:=by
 rcases r with r | ⟨o,r⟩
 · exact x a u r
 · obtain ⟨_,q⟩:=x a _ r
   exact q
def Mut:Option HO->Prop
 | some (.lst _)=>True
 | some (.dK _)=>True
 | some (.dT _)=>True
 | some (.set _ _)=>True
 | some (.ins _ _ _)=>True
 | some (.ext _)=>True
 | _=>False
section
variable {P:Program} {w:World} {H:Hp} {h h':Heap} {x e:Addr} {o':HO}
theorem HOk.write (ok:HOk P w H h) (mu:Mut (H x)) (he:e=x\/H e=some (.own x)) (k:∀ b u,b≠e->h.get? b=some u->h'.get? b=some u) (heo:∃ u,h'.get? e=some u)
   (new:ObjOk P w (upd H x o') h' x o'):HOk P w (upd H x o') h':=λb u q=>by
 have nown:∀ c y,H c=some (.own y)->c≠x:=λc y r z=>by subst z; rw [r] at mu; exact mu
 have ntup:∀ c xs,H c=some (.tup xs)->c≠x:=λc xs r z=>by subst z; rw [r] at mu; exact mu
 by_cases hb:b=x
 · subst hb; rw [aE] at q; cases q; exact new
 · rw [aK hb] at q
   by_cases hbe:b=e
   · have q':H b=some (.own x):=by
       rcases he with z | z
       · exact absurd (hbe.trans z) hb
       · rw [hbe]; exact z
     rw [q] at q'; cases q'
     obtain ⟨v,hv⟩:=heo
     exact ⟨v,by rw [hbe]; exact hv⟩
   · refine (ok b u q).stay (λc v hc r=>k c v ?_ r) (λc r=>by rw [aK (nown c b r)]; exact r) λc xs r=>by rw [aK (ntup c xs r)]; exact r
     rcases hc with rfl | hc
     · exact hbe
     · rintro rfl
       rcases he with z | z
       · exact nown c b hc z
       · rw [hc] at z; cases z; exact hb rfl
end
structure Un (fs ex:List Addr) (H H':Hp) (h h':Heap):Prop where
 keep:∀ b o,h.get? b=some o->H b=none->b ∉ fs->b ∉ ex->h'.get? b=some o
 slot:∀ b o,h.get? b=some o->H b=none->b ∈ fs->b ∉ ex->∃ sl,h'.get? b=some { o with slots:=sl }
 free:∀ b o,h.get? b=some o->H b=none->b ∉ ex->H' b=none
 there:∀ b o,h.get? b=some o->b ∉ ex->∃ o',h'.get? b=some o'
 tups:∀ b xs,H b=some (.tup xs)->H' b=some (.tup xs)
 frzs:∀ b o u,H b=some (.frz o u)->H' b=some (.frz o u)
 tbls:∀ b ps,H b=some (.tbl ps)->∃ more,H' b=some (.tbl (ps ++ more))
section
variable {fs fs' ex ex':List Addr} {H H1 H2:Hp} {h h1 h2 h':Heap} {a x e:Addr} {o:HO}
theorem Un.any (u:Un fs ex H H1 h h1) {b:Addr} {ob:Obj} (q:h.get? b=some ob) (n:H b=none) (hx:b ∉ ex):∃ sl,h1.get? b=some { ob with slots:=sl }:=by
 by_cases hb:b∈fs
 · exact u.slot b ob q n hb hx
 · exact ⟨ob.slots,u.keep b ob q n hb hx⟩
theorem Un.trans (a:Un fs ex H H1 h h1) (b:Un fs ex H1 H2 h1 h2):Un fs ex H H2 h h2 where
 keep:=λc ob q n hc hx=>b.keep c ob (a.keep c ob q n hc hx) (a.free c ob q n hx) hc hx
 slot:=λc ob q n hc hx=>by
   obtain ⟨sl,e1⟩:=a.slot c ob q n hc hx
   obtain ⟨sl',e2⟩:=b.slot c _ e1 (a.free c ob q n hx) hc hx
   exact ⟨sl',e2⟩
 free:=λc ob q n hx=>by
   obtain ⟨o',e1⟩:=a.there c ob q hx
   exact b.free c o' e1 (a.free c ob q n hx) hx
 there:=λc ob q hx=>by
   obtain ⟨o',e1⟩:=a.there c ob q hx
   exact b.there c o' e1 hx
 tups:=λc xs q=>b.tups c xs (a.tups c xs q)
 frzs:=λc ob xs q=>b.frzs c ob xs (a.frzs c ob xs q)
 tbls:=λc ps q=>by
   obtain ⟨m1,e1⟩:=a.tbls c ps q
   obtain ⟨m2,e2⟩:=b.tbls c _ e1
   exact ⟨m1 ++ m2,by rw [e2,Array.append_assoc]⟩
theorem Un.kept (k:∀ b u,h.get? b=some u->h'.get? b=some u):Un fs ex H H h h' :=
 ⟨λb ob q _ _ _=>k b ob q,λb ob q _ _ _=>⟨ob.slots,k b ob q⟩,λ_ _ _ n _=>n,λb ob q _=>⟨ob,k b ob q⟩,λ_ _ q=>q,λ_ _ _ q=>q,λ_ ps q=>⟨#[],by rw [q]; simp⟩⟩
theorem Un.refl:Un fs ex H H h h:=Un.kept λ_ _ q=>q
theorem Un.laid (k:∀ b u,h.get? b=some u->h'.get? b=some u) (hp:h.objs.size<=a) (hn:H a=none):Un fs ex H (upd H a o) h h' where
 keep:=λb u q _ _ _=>k b u q
 slot:=λb u q _ _ _=>⟨u.slots,k b u q⟩
 free:=λb u q n _=>by rw [aK (Bk (Bb (Aq q) hp))]; exact n
 there:=λb u q _=>⟨u,k b u q⟩
 tups:=λb xs q=>by rw [aK (bJ q hn)]; exact q
 frzs:=λb u xs q=>by rw [aK (bJ q hn)]; exact q
 tbls:=λb ps q=>⟨#[],by rw [aK (bJ q hn),q]; simp⟩
theorem Un.write (mu:Mut (H x)) (he:e=x\/H e=some (.own x)) (k:∀ b u,b≠e->h.get? b=some u->h'.get? b=some u) (heo:∃ u,h'.get? e=some u):Un fs ex H (upd H x o) h h':=by
 have hx:∀ b,H b=none->b≠x:=λb n z=>by subst z; rw [n] at mu; exact mu
 have hb:∀ b,H b=none->b≠e:=λb n z=>by
   subst z
   rcases he with r | r
   · exact hx b n r
   · rw [n] at r; cases r
 have hm:∀ b u,H b=some u->¬ Mut (some u)->b≠x:=λb u q nm z=>by subst z; rw [q] at mu; exact nm mu
 refine ⟨λb u q n _ _=>k b u (hb b n) q,λb u q n _ _=>⟨u.slots,k b u (hb b n) q⟩,λb u q n _=>by rw [aK (hx b n)]; exact n,λb u q _=>?_,
   λb xs q=>by rw [aK (hm b _ q λz=>z)]; exact q,λb u xs q=>by rw [aK (hm b _ q λz=>z)]; exact q,λb ps q=>⟨#[],by rw [aK (hm b _ q λz=>z),q]; simp⟩⟩
 by_cases hbe:b=e
 · subst hbe; exact heo
 · exact ⟨u,k b u hbe q⟩
theorem Un.mono (u:Un fs ex H H1 h h1) (hs:∀ b∈fs,b∈fs') (hx:∀ b∈ex,b∈ex'):Un fs' ex' H H1 h h1 :=
 ⟨λb ob q n hb he=>u.keep b ob q n (λz=>hb (hs b z)) λz=>he (hx b z),λ_ _ q n _ he=>u.any q n λz=>he (hx _ z),λb ob q n he=>u.free b ob q n λz=>he (hx b z),λb ob q he=>u.there b ob q λz=>he (hx b z),u.tups,u.frzs,u.tbls⟩
end
def trk (h:Heap) (H:Hp):List Addr:=(List.range h.objs.size).filter λa=>(H a).isSome
def vJ (h:Heap) (H:Hp):Heap:=PySem.W.hideAll h (trk h H)
theorem aZN (h:Heap) (H:Hp):(vJ h H).objs.size=h.objs.size:=PySem.W.hideAll_size _ _
theorem bQI {h:Heap} {H:Hp} {b:Addr} {o:Obj} (e:h.get? b=some o) (n:H b=none):(vJ h H).get? b=some o :=
 PySem.W.hideAll_get _ e λhm=>by
   have q:(H b).isSome=true:=(Dp.mp hm).2
   rw [n] at q; simp at q
theorem cQB {h:Heap} {H:Hp} {b:Addr} {o:Obj} (e:(vJ h H).get? b=some o):h.get? b=some o/\H b=none:=by
 have e':h.get? b=some o:=Fv (trk h H) e
 refine ⟨e',?_⟩
 cases q:H b with
 | none=>rfl
 | some x=>
   have hm:b∈trk h H:=List.mem_filter.mpr ⟨List.mem_range.mpr (Heap.lt_size e'),by simp [q]⟩
   have z:(vJ h H).get? b=none:=PySem.W.hideAll_none (trk h H) hm
   rw [z] at e; cases e
def cXM (g h:Heap) (L:Addr):List (Addr × Obj):=(List.range h.objs.size).filterMap λa=>if a=L\/(g.get? a).isSome=true then none else (h.get? a).map λo=>(a,o)
def rest (g h:Heap) (L d:Addr):List (Addr × Obj):=(cXM g h L).filter λp=>decide (p.1≠d)
end L2
namespace L2
open PySem PySem.Spec PyProof.Rows
structure Mod (K:PySem.W.Frag) (mg:Str->Option Value) (base:Heap):Prop where
 kin:K.In base
 glob:base.Ns mainGlobals mg
 blt:∃ mb,base.Ns builtinsNs mb/\∀ x:Str,x≠"__name__"->mb x=bootBuiltins x
 nolimit:base.NoLimit
structure Cx where
 prog:Program
 w:World
 K:PySem.W.Frag
 mg:Str->Option Value
 base:Heap
 A:Around
 N:List Str
 s₀:Shared
 H₀:Hp
 env:Env
 outer:List Env
 stack:List Env
 ex:List Addr
 fn:Str->Bool
 calm:Bool
 pn:List (Addr × Obj)
 xe:Value->Shared->Prop
def frs (l:List Env):List Addr:=l.filterMap (·.frame)
abbrev Cx.fs (X:Cx):List Addr:=frs X.outer
def Vis (sc:Scope) (x:Str):Prop:=sc.names.lookup x=some .local\/sc.names.lookup x=some .cell\/sc.names.lookup x=some .free
def Loc (sc:Scope) (x:Str):Prop:=sc.names.lookup x=some .local\/sc.names.lookup x=some .cell
def eQJ (env:Env) (h:Heap) (m:Str->Option Value) (x:Str) (u:Value):Prop :=
 (env.kindOf x=some .local/\m x=some u)\/((env.kindOf x=some .cell\/env.kindOf x=some .free)/\∃ c,env.cells.lookup x=some c/\h.IsCell c (some u))
structure Cx.Ok (X:Cx):Prop where
 mod:Mod X.K X.mg X.base
 kind:X.env.scope.kind=.function
 glob:X.env.globals=mainGlobals
 blt:X.env.builtins=builtinsNs
 above:X.s₀.heap.objs.size<=X.env.locals
 inj:∀ x y c,X.env.cells.lookup x=some c->X.env.cells.lookup y=some c->x=y
 has:∀ x,(X.env.kindOf x=some .cell\/X.env.kindOf x=some .free)->∃ c,X.env.cells.lookup x=some c
 cab:∀ x c,X.fn x=true->X.env.cells.lookup x=some c->X.s₀.heap.objs.size<=c
 hd:X.calm=true->X.A.handled=none
 frames:X.A.frames=some X.stack
 stk:X.stack=X.outer\/(X.stack=X.env :: X.outer/\X.env.frame=some X.env.locals)
 exf:∀ b∈X.ex,b≠X.env.locals/\∀ x c,X.env.cells.lookup x=some c->c≠b
 bs:∀ b o,X.base.get? b=some o->X.s₀.heap.get? b=some o/\X.H₀ b=none
 bsz:X.base.objs.size<=X.s₀.heap.objs.size
 noex:∀ b o,X.base.get? b=some o->b ∉ X.ex
 exfs:∀ b ∈ X.ex,b ∉ X.fs
 funs:X.s₀.heap.FunFrames X.base X.outer
 frf:∀ b∈X.fs,X.H₀ b=none
structure Inv (X:Cx) (pins:List (Addr × Obj)) (σ:List (Option V)) (H:Hp) (s:Shared):Prop where
 ok:X.Ok
 os:s.os=X.s₀.os
 bare:AllBare s.gens
 base:Un X.fs X.ex X.H₀ H X.s₀.heap s.heap
 loc:∃ m,s.heap.Ns X.env.locals m/\∀ (i:Nat) (x:Str) (v:V),X.N[i]?=some x->σ[i]?=some (some v)->Vis X.env.scope x->∃ u,RelV v u/\eQJ X.env s.heap m x u
 cell:∀ x c,X.env.cells.lookup x=some c->∃ v,s.heap.IsCell c v
 free:H X.env.locals=none
 freeC:∀ x c,X.env.cells.lookup x=some c->H c=none
 pin:∀ p ∈ X.pn ++ pins,s.heap.get? p.1=some p.2/\H p.1=none/\p.1≠X.env.locals/\p.1 ∉ X.fs/\∀ v,p.2.data≠.cell v
 hok:HOk X.prog X.w H s.heap
 len:σ.length=X.N.length
section
variable {X:Cx} {pins:List (Addr × Obj)} {σ:List (Option V)} {H H':Hp} {s:Shared} {h':Heap}
theorem Cx.Ok.nofr (ok:X.Ok) {b:Addr} {o:Obj} (e:X.base.get? b=some o):b ∉ X.fs:=λhb=>by
 have:=(ok.funs.mem hb).1
 rw [e] at this; cases this
theorem Inv.bs (I:Inv X pins σ H s):∀ b o,X.base.get? b=some o->s.heap.get? b=some o/\H b=none:=λb o e=>
 ⟨I.base.keep b o (I.ok.bs b o e).1 (I.ok.bs b o e).2 (I.ok.nofr e) (I.ok.noex b o e),I.base.free b o (I.ok.bs b o e).1 (I.ok.bs b o e).2 (I.ok.noex b o e)⟩
theorem Inv.bk (I:Inv X pins σ H s):∀ b o,X.base.get? b=some o->s.heap.get? b=some o:=λb o e=>(I.bs b o e).1
theorem Inv.mod (I:Inv X pins σ H s):Mod X.K X.mg X.base:=I.ok.mod
theorem Inv.kIn (I:Inv X pins σ H s):X.K.In s.heap:=I.ok.mod.kin.keeps I.bk
theorem Inv.nolimit (I:Inv X pins σ H s):s.heap.NoLimit:=I.ok.mod.nolimit.keeps I.bk
theorem Inv.fr (I:Inv X pins σ H s):∃ m,Fr X.base X.env.locals s.heap m :=
 let ⟨m,hn,_⟩:=I.loc
 ⟨m,hn,I.bk,Bf I.ok.bsz I.ok.above⟩
theorem Inv.lt (I:Inv X pins σ H s):X.env.locals < s.heap.objs.size:=let ⟨_,hn,_⟩:=I.loc; hn.lt
theorem Inv.sz (I:Inv X pins σ H s):X.s₀.heap.objs.size<=s.heap.objs.size:=Bf I.ok.above (Nat.le_of_lt I.lt)
theorem Inv.nofs (I:Inv X pins σ H s) {a:Addr} (h:s.heap.objs.size<=a):a ∉ X.fs:=λhb=>by
 obtain ⟨_,o,ho,_⟩:=I.ok.funs.mem hb
 exact absurd (Bb (Aq ho) (Bf I.sz h)) (Dn _)
theorem Inv.cne (I:Inv X pins σ H s):∀ x c,X.env.cells.lookup x=some c->c≠X.env.locals:=λx c e z=>by
 obtain ⟨v,o,ho,hd⟩:=I.cell x c e
 obtain ⟨m,⟨o',es,ep,ho',hd',_⟩,_⟩:=I.loc
 rw [z,ho'] at ho; cases ho; rw [hd'] at hd; cases hd
theorem Inv.funs (I:Inv X pins σ H s):s.heap.FunFrames X.base X.outer:=by
 have all:∀ (l:List Env),(∀ b∈frs l,b∈X.fs)->X.s₀.heap.FunFrames X.base l->s.heap.FunFrames X.base l:=by
   intro l
   induction l with
   | nil=>intro _ _; trivial
   | cons env r ih=>
     intro hs hl
     obtain ⟨hk,⟨L,o,hf,hn,ho,hd⟩,hr⟩:=hl
     have hL:L∈X.fs:=hs L (by unfold frs; rw [Cr,hf]; exact Al)
     obtain ⟨sl,e⟩:=I.base.slot L o ho (I.ok.frf L hL) hL λz=>I.ok.exfs L z hL
     exact ⟨hk,⟨L,_,hf,hn,e,hd⟩,ih (λb hb=>hs b (by unfold frs; rw [Cr,hf]; exact Am _ hb)) hr⟩
 exact all X.outer (λ_ hb=>hb) I.ok.funs
theorem Inv.stack (I:Inv X pins σ H s):s.heap.FunFrames X.base X.stack:=by
 rcases I.ok.stk with e | ⟨e,hf⟩
 · rw [e]; exact I.funs
 · rw [e]
   obtain ⟨m,hn,_⟩:=I.loc
   refine .cons (by rw [I.ok.kind]; decide) hf hn ?_ I.funs
   exact Ff (Bf I.ok.bsz I.ok.above)
theorem Inv.stkSub (I:Inv X pins σ H s):∀ b∈frs X.stack,b∈X.env.locals :: X.fs:=λb hb=>by
 rcases I.ok.stk with e | ⟨e,hf⟩
 · rw [e] at hb; exact Am _ hb
 · rw [e] at hb
   unfold frs at hb
   rw [Cr,hf] at hb
   exact hb
theorem Inv.stkFree (I:Inv X pins σ H s):∀ b∈frs X.stack,H b=none:=λb hb=>by
 rcases Az.mp (I.stkSub b hb) with e | hb
 · rw [e]; exact I.free
 · obtain ⟨_,o,ho,_⟩:=I.ok.funs.mem hb
   exact I.base.free b o ho (I.ok.frf b hb) λz=>I.ok.exfs b z hb
theorem Inv.step {g':Array GenState} {t':Nat} {d':Drawn} {ch:List Addr} (I:Inv X pins σ H s)
   (hch:∀ b∈ch,(b∈X.ex\/X.s₀.heap.objs.size<=b)/\b≠X.env.locals/\(∀ x c,X.env.cells.lookup x=some c->c≠b)/\∀ p∈X.pn ++ pins,p.1≠b)
   (keep:∀ b o,b≠X.env.locals->b ∉ X.fs->b ∉ ch->s.heap.get? b=some o->H b=none->h'.get? b=some o)
   (slot:∀ b o,b≠X.env.locals->b ∈ X.fs->b ∉ ch->s.heap.get? b=some o->H b=none->∃ sl,h'.get? b=some { o with slots:=sl }) (free:∀ b o,b ∉ ch->s.heap.get? b=some o->H b=none->H' b=none)
   (there:∀ b o,b ∉ ch->s.heap.get? b=some o->∃ o',h'.get? b=some o')
   (tups:∀ b xs,H b=some (.tup xs)->H' b=some (.tup xs)) (frzs:∀ b o u,H b=some (.frz o u)->H' b=some (.frz o u)) (tbls:∀ b ps,H b=some (.tbl ps)->∃ more,H' b=some (.tbl (ps ++ more)))
   (ns:∀ m,s.heap.Ns X.env.locals m->h'.Ns X.env.locals m) (hok:HOk X.prog X.w H' h') (hg:AllBare g') :
   Inv X pins σ H' { s with heap:=h',gens:=g',drawn:=d',toks:=t' }:=by
 have neL:∀ b o,X.s₀.heap.get? b=some o->b≠X.env.locals:=λb o e=>Bk (Bb (Aq e) I.ok.above)
 have neC:∀ b o,X.s₀.heap.get? b=some o->b ∉ X.ex->b ∉ ch:=λb o e hx hb=>by
   rcases (hch b hb).1 with z | z
   · exact hx z
   · exact absurd (Bb (Aq e) z) (Dn _)
 have cellK:∀ x c,X.env.cells.lookup x=some c->∀ v,s.heap.IsCell c v->h'.IsCell c v:=λx c e v ⟨o,ho,hd⟩=>by
   have nch:c ∉ ch:=λz=>(hch c z).2.2.1 x c e rfl
   by_cases hc:c∈X.fs
   · obtain ⟨sl,q⟩:=slot c o (I.cne x c e) hc nch ho (I.freeC x c e)
     exact ⟨_,q,hd⟩
   · exact ⟨o,keep c o (I.cne x c e) hc nch ho (I.freeC x c e),hd⟩
 refine ⟨I.ok,I.os,hg,⟨λb o e n hb hx=>?_,λb o e n hb hx=>?_,λb o e n hx=>?_,λb o e hx=>?_,λb xs e=>tups b xs (I.base.tups b xs e),λb o xs e=>frzs b o xs (I.base.frzs b o xs e),λb ps e=>?_⟩,?_,λx c e=>?_,?_,λx c e=>?_,λp hp=>?_,hok,I.len⟩
 · exact keep b o (neL b o e) hb (neC b o e hx) (I.base.keep b o e n hb hx) (I.base.free b o e n hx)
 · obtain ⟨sl,e1⟩:=I.base.slot b o e n hb hx
   obtain ⟨sl',e2⟩:=slot b _ (neL b o e) hb (neC b o e hx) e1 (I.base.free b o e n hx)
   exact ⟨sl',e2⟩
 · obtain ⟨o',e1⟩:=I.base.there b o e hx
   exact free b o' (neC b o e hx) e1 (I.base.free b o e n hx)
 · obtain ⟨o',e1⟩:=I.base.there b o e hx
   exact there b o' (neC b o e hx) e1
 · obtain ⟨m1,e1⟩:=I.base.tbls b ps e
   obtain ⟨m2,e2⟩:=tbls b _ e1
   exact ⟨m1 ++ m2,by rw [e2,Array.append_assoc]⟩
 · obtain ⟨m,hn,hl⟩:=I.loc
   refine ⟨m,ns m hn,λi x v e1 e2 e3=>?_⟩
   obtain ⟨u,r,l⟩:=hl i x v e1 e2 e3
   refine ⟨u,r,?_⟩
   rcases l with l | ⟨k,c,e,z⟩
   · exact .inl l
   · exact .inr ⟨k,c,e,cellK x c e _ z⟩
 · obtain ⟨v,z⟩:=I.cell x c e
   exact ⟨v,cellK x c e v z⟩
 · obtain ⟨m,⟨o,_,_,ho,_⟩,_⟩:=I.loc
   exact free _ o (λz=>(hch _ z).2.1 rfl) ho I.free
 · obtain ⟨v,o,ho,hd⟩:=I.cell x c e
   exact free c o (λz=>(hch c z).2.2.1 x c e rfl) ho (I.freeC x c e)
 · obtain ⟨e,n,ne,nf,d⟩:=I.pin p hp
   have nch:p.1 ∉ ch:=λz=>(hch p.1 z).2.2.2 p hp rfl
   exact ⟨keep p.1 p.2 ne nf nch e n,free p.1 p.2 nch e n,ne,nf,d⟩
theorem Inv.un {t':Nat} (I:Inv X pins σ H s) (u:Un X.fs [] H H' s.heap h') (hok:HOk X.prog X.w H' h'):Inv X pins σ H' { s with heap:=h',toks:=t' }:=by
 obtain ⟨m,⟨o,es,ep,ho,r⟩,_⟩:=id I.loc
 obtain ⟨sl,hL⟩:=u.any ho I.free (by simp)
 exact I.step (g':=s.gens) (d':=s.drawn) (ch:=[]) (λ_ z=>nomatch z) (λb o _ hb _ e n=>u.keep b o e n hb (by simp)) (λb o _ hb _ e n=>u.slot b o e n hb (by simp)) (λb o _ e n=>u.free b o e n (by simp)) (λb o _ e=>u.there b o e (by simp)) u.tups u.frzs u.tbls (λm' hm=>by
   obtain ⟨o',es',ep',ho',r'⟩:=hm
   rw [ho] at ho'; cases ho'
   exact ⟨_,es',ep',hL,r'⟩) hok I.bare
theorem Inv.call {g':Array GenState} {t':Nat} {d':Drawn} {ch:List Addr} (I:Inv X pins σ H s) (u:Un (frs X.stack) ch H H' s.heap h') (hok:HOk X.prog X.w H' h') (hg:AllBare g')
   (hch:∀ b∈ch,(b∈X.ex\/X.s₀.heap.objs.size<=b)/\b≠X.env.locals/\(∀ x c,X.env.cells.lookup x=some c->c≠b)/\∀ p∈X.pn ++ pins,p.1≠b) :
   Inv X pins σ H' { s with heap:=h',gens:=g',drawn:=d',toks:=t' }:=by
 obtain ⟨m,⟨o,es,ep,ho,r⟩,_⟩:=id I.loc
 obtain ⟨sl,hL⟩:=u.any ho I.free λz=>(hch _ z).2.1 rfl
 exact I.step (ch:=ch) hch (λb o hL hb hc e n=>u.keep b o e n (λz=>(Az.mp (I.stkSub b z)).elim hL hb) hc) (λb o _ _ hc e n=>u.any e n hc) (λb o hc e n=>u.free b o e n hc) (λb o hc e=>u.there b o e hc) u.tups u.frzs u.tbls (λm' hm=>by
   obtain ⟨o',es',ep',ho',r'⟩:=hm
   rw [ho] at ho'; cases ho'
   exact ⟨_,es',ep',hL,r'⟩) hok hg
theorem Inv.turned {t':Nat} {it:Addr} (I:Inv X pins σ H s) (k:∀ b o,b≠it->s.heap.get? b=some o->h'.get? b=some o) (hn:H it=none) (hL:it≠X.env.locals)
   (h1:it∈X.ex\/X.s₀.heap.objs.size<=it) (h2:∀ x c,X.env.cells.lookup x=some c->c≠it) (h3:∀ p∈X.pn ++ pins,p.1≠it):Inv X pins σ H { s with heap:=h',toks:=t' }:=by
 have nit:∀ b u,H b=some u->b≠it:=λb u e z=>by rw [z,hn] at e; cases e
 refine I.step (g':=s.gens) (d':=s.drawn) (ch:=[it]) (λb hb=>?_) (λb o _ _ hc e _=>k b o (λz=>hc (by simp [z])) e) (λb o _ _ hc e _=>⟨o.slots,k b o (λz=>hc (by simp [z])) e⟩) (λ_ _ _ _ n=>n)
   (λb o hc e=>⟨o,k b o (λz=>hc (by simp [z])) e⟩) (λ_ _ e=>e) (λ_ _ _ e=>e) (λb ps e=>⟨#[],by rw [e]; simp⟩) (λm hm=>?_) (λb u e=>?_) I.bare
 · have e:b=it:=by simpa using hb
   subst e
   exact ⟨h1,hL,h2,h3⟩
 · obtain ⟨o,es,ep,ho,r⟩:=hm
   exact ⟨o,es,ep,k _ o (Ne.symm hL) ho,r⟩
 · refine (I.hok b u e).stay (λc v hc q=>k c v ?_ q) (λ_ q=>q) λ_ _ q=>q
   rcases hc with z | z
   · rw [z]; exact nit b u e
   · exact nit c _ z
theorem Inv.tok (I:Inv X pins σ H s) (t:Nat):Inv X pins σ H { s with toks:=t }:=I.un (h':=s.heap) (t':=t) Un.refl I.hok
theorem Inv.kept {t':Nat} (I:Inv X pins σ H s) (k:∀ b u,s.heap.get? b=some u->h'.get? b=some u):Inv X pins σ H { s with heap:=h',toks:=t' }:=I.un (Un.kept k) (I.hok.kept k)
theorem Inv.laid {a:Addr} {o:HO} {t':Nat} (I:Inv X pins σ H s) (k:∀ b u,s.heap.get? b=some u->h'.get? b=some u) (hp:s.heap.objs.size<=a) (new:ObjOk X.prog X.w (upd H a o) h' a o) :
   Inv X pins σ (upd H a o) { s with heap:=h',toks:=t' }:=I.un (Un.laid k hp (I.hok.fresh hp)) (I.hok.laid k hp new)
theorem Inv.write {x e:Addr} {o:HO} {t':Nat} (I:Inv X pins σ H s) (mu:Mut (H x)) (he:e=x\/H e=some (.own x)) (k:∀ b u,b≠e->s.heap.get? b=some u->h'.get? b=some u) (heo:∃ u,h'.get? e=some u)
   (new:ObjOk X.prog X.w (upd H x o) h' x o):Inv X pins σ (upd H x o) { s with heap:=h',toks:=t' }:=I.un (Un.write mu he k heo) (I.hok.write mu he k heo new)
theorem Inv.weak {σ':List (Option V)} (I:Inv X pins σ H s) (hl:σ'.length=σ.length) (w:∀ (i:Nat) v,σ'[i]?=some (some v)->σ[i]?=some (some v)):Inv X pins σ' H s :=
 ⟨I.ok,I.os,I.bare,I.base,let ⟨m,hn,hl'⟩:=I.loc; ⟨m,hn,λi x v e1 e2 e3=>hl' i x v e1 (w i v e2) e3⟩,I.cell,I.free,I.freeC,I.pin,I.hok,hl.trans I.len⟩
theorem Inv.pins_of {pins':List (Addr × Obj)} (I:Inv X pins σ H s) (h:∀ p ∈ pins',s.heap.get? p.1=some p.2/\H p.1=none/\p.1≠X.env.locals/\p.1 ∉ X.fs/\∀ v,p.2.data≠.cell v):Inv X pins' σ H s :=
 ⟨I.ok,I.os,I.bare,I.base,I.loc,I.cell,I.free,I.freeC,λp hp=>(Bj.mp hp).elim (λz=>I.pin p (Bt _ z)) (h p),I.hok,I.len⟩
theorem qD {N:List Str} (hN:N.Nodup) {i j:Nat} {x:Str} (a:N[i]?=some x) (b:N[j]?=some x):i=j:=by
 obtain ⟨h1,e1⟩:=Ad.mp a
 obtain ⟨h2,e2⟩:=Ad.mp b
 exact (Fi hN).mp (e1.trans e2.symm)
theorem sO {M:Model} {A:Around} {E:Value->Shared->Prop} {i:Nat} {x:Str} {v:V} {u:Value} {Q:Unit->Shared->Prop} (I:Inv X pins σ H s) (hN:X.N.Nodup) (hi:X.N[i]?=some x) (hx:Loc X.env.scope x) (r:RelV v u)
   (h:∀ s',Inv X pins (σ.set i (some v)) H s'->(∃ a,Heap.SameBut a s.heap s'.heap/\(a=X.env.locals\/X.env.cells.lookup x=some a))->Q () s') (hf:X.fn x=true\/X.env.scope.names.lookup x=some .local:=by first | exact .inl rfl | exact .inr rfl | assumption):wpAny M A (storeName X.env x u) Q E s:=by
 obtain ⟨m,hn,hl⟩:=id I.loc
 have hcls:(X.env.scope.kind == .class || (X.env.scope.kind == .module && X.env.locals != X.env.globals))=false:=by rw [I.ok.kind]; rfl
 have hiσ:i < σ.length:=by rw [I.len]; exact (Ad.mp hi).1
 have cne:=I.cne
 have tracked:∀ {a:Addr} {h':Heap},(∃ o,s.heap.get? a=some o/\H a=none)->Heap.SameBut a s.heap h'->HOk X.prog X.w H h':=fun {a h'} ha hs b ob e=>by
   obtain ⟨_,_,hfree⟩:=ha
   refine (I.hok b ob e).stay (λc w' hc q=>(hs.2 c ?_).trans q) (λ_ q=>q) λ_ _ q=>q
   rintro rfl
   rcases hc with rfl | hc
   · rw [hfree] at e; cases e
   · rw [hfree] at hc; cases hc
 rcases hx with hk | hk
 · refine wpAny_storeName_local hk hn (λh' hn' hs=>?_) hcls
   obtain ⟨oL,_,_,hoL,_⟩:=id hn
   refine h _ ⟨I.ok,I.os,I.bare,⟨λb o e n hb hx=>?_,λb o e n hb hx=>?_,I.base.free,λb o e hx=>?_,I.base.tups,I.base.frzs,I.base.tbls⟩,⟨_,hn',λj y v' e1 e2 e3=>?_⟩,λy c e=>?_,I.free,I.freeC,λp hp=>?_,tracked ⟨oL,hoL,I.free⟩ hs,by simpa using I.len⟩ ⟨_,hs,.inl rfl⟩
   · exact (hs.2 b (Bk (Bb (Aq e) I.ok.above))).trans (I.base.keep b o e n hb hx)
   · obtain ⟨sl,e1⟩:=I.base.slot b o e n hb hx
     exact ⟨sl,(hs.2 b (Bk (Bb (Aq e) I.ok.above))).trans e1⟩
   · obtain ⟨o',e1⟩:=I.base.there b o e hx
     exact ⟨o',(hs.2 b (Bk (Bb (Aq e) I.ok.above))).trans e1⟩
   · by_cases hj:j=i
     · subst hj
       rw [hi] at e1; cases e1
       rw [Da hiσ] at e2
       cases e2
       exact ⟨u,r,.inl ⟨hk,by simp⟩⟩
     · rw [Cv (Ne.symm hj)] at e2
       obtain ⟨u',r',q⟩:=hl j y v' e1 e2 e3
       refine ⟨u',r',?_⟩
       rcases q with ⟨k,e⟩ | ⟨k,c,e,z⟩
       · refine .inl ⟨k,?_⟩
         have:y≠x:=λe=>hj (qD hN e1 (e ▸ hi))
         simp [this,e]
       · exact .inr ⟨k,c,e,z.sameBut hs (cne y c e)⟩
   · obtain ⟨w',z⟩:=I.cell y c e
     exact ⟨w',z.sameBut hs (cne y c e)⟩
   · obtain ⟨e,n,ne,nf,d⟩:=I.pin p hp
     exact ⟨(hs.2 p.1 ne).trans e,n,ne,nf,d⟩
 · have hfn:X.fn x=true:=by
     rcases hf with z | z
     · exact z
     · rw [z] at hk; cases hk
   obtain ⟨c,hc⟩:=I.ok.has x (.inl hk)
   obtain ⟨w',z⟩:=I.cell x c hc
   refine wpAny_storeName_cell I.ok.kind hk hc z (λh' hc' hs=>?_)
   obtain ⟨oc,hoc,hocd⟩:=id z
   refine h { s with heap:=h' } ⟨I.ok,I.os,I.bare,⟨λb o e n hb hx=>?_,λb o e n hb hx=>?_,I.base.free,λb o e hx=>?_,I.base.tups,I.base.frzs,I.base.tbls⟩,⟨m,hn.sameBut hs (Ne.symm (cne x c hc)),λj y v' e1 e2 e3=>?_⟩,λy c' e=>?_,I.free,I.freeC,λp hp=>?_,tracked ⟨oc,hoc,I.freeC x c hc⟩ hs,by simpa using I.len⟩ ⟨c,hs,.inr hc⟩
   · exact (hs.2 b (Bk (Bb (Aq e) (I.ok.cab x c hfn hc)))).trans (I.base.keep b o e n hb hx)
   · obtain ⟨sl,e1⟩:=I.base.slot b o e n hb hx
     exact ⟨sl,(hs.2 b (Bk (Bb (Aq e) (I.ok.cab x c hfn hc)))).trans e1⟩
   · obtain ⟨o',e1⟩:=I.base.there b o e hx
     exact ⟨o',(hs.2 b (Bk (Bb (Aq e) (I.ok.cab x c hfn hc)))).trans e1⟩
   · by_cases hj:j=i
     · subst hj
       rw [hi] at e1; cases e1
       rw [Da hiσ] at e2
       cases e2
       exact ⟨u,r,.inr ⟨.inl hk,c,hc,hc'⟩⟩
     · rw [Cv (Ne.symm hj)] at e2
       obtain ⟨u',r',q⟩:=hl j y v' e1 e2 e3
       refine ⟨u',r',?_⟩
       rcases q with q | ⟨k,c',e,z'⟩
       · exact .inl q
       · refine .inr ⟨k,c',e,z'.sameBut hs ?_⟩
         rintro rfl
         exact hj (qD hN e1 (I.ok.inj _ _ _ e hc ▸ hi))
   · by_cases hcc:c'=c
     · subst hcc; exact ⟨_,hc'⟩
     · obtain ⟨w2,z2⟩:=I.cell y c' e
       exact ⟨w2,z2.sameBut hs hcc⟩
   · obtain ⟨e,n,ne,nf,d⟩:=I.pin p hp
     refine ⟨(hs.2 p.1 ?_).trans e,n,ne,nf,d⟩
     intro q
     rw [q,hoc] at e
     have q':oc=p.2:=Bi e
     exact d w' (by rw [<-q']; exact hocd)
theorem oZ {M:Model} {A:Around} {E:Value->Shared->Prop} {i:Nat} {x:Str} {v:V} {u:Value} {Q:Unit->Shared->Prop} (I:Inv X pins σ H s) (hN:X.N.Nodup) (hi:X.N[i]?=some x) (hx:Loc X.env.scope x) (r:RelV v u)
   (h:∀ s',Inv X pins (σ.set i (some v)) H s'->Q () s') (hf:X.fn x=true\/X.env.scope.names.lookup x=some .local:=by first | exact .inl rfl | exact .inr rfl | assumption):wpAny M A (storeName X.env x u) Q E s :=
 sO I hN hi hx r (λs' I' _=>h s' I') hf
theorem Inv.call' {s':Shared} {ch:List Addr} (I:Inv X pins σ H s) (ho:s'.os=s.os) (u:Un (frs X.stack) ch H H' s.heap s'.heap) (hok:HOk X.prog X.w H' s'.heap) (hg:AllBare s'.gens)
   (hch:∀ b∈ch,(b∈X.ex\/X.s₀.heap.objs.size<=b)/\b≠X.env.locals/\(∀ x c,X.env.cells.lookup x=some c->c≠b)/\∀ p∈X.pn ++ pins,p.1≠b):Inv X pins σ H' s':=by
 obtain ⟨h',g',d',t',o'⟩:=s'
 have e:o'=s.os:=ho
 subst e
 exact I.call (g':=g') (t':=t') (d':=d') u hok hg hch
end
abbrev XK:=Value->Option Addr->Hp->Prop
abbrev St:=List (Option V)
abbrev VK:=V->Hp->Prop
abbrev TE:=St->Hp->VK->Prop
abbrev TT:=St->Hp->(Bool->Hp->Prop)->Prop
abbrev TA:=St->Hp->(List V->Hp->Prop)->Prop
structure Ends where
 nx:St->Hp->Prop
 rt:VK
 bk:St->Hp->Prop:=λ_ _=>False
 ct:St->Hp->Prop:=λ_ _=>False
abbrev TS:=Ends->St->Hp->Prop
def EP (X:Cx) (pins:List (Addr × Obj)) (σ:St) (Q:VK) (u:Value) (s':Shared):Prop:=∃ v H',Inv X pins σ H' s'/\RelV v u/\Q v H'
def TP (X:Cx) (pins:List (Addr × Obj)) (σ:St) (Q:Bool->Hp->Prop) (b:Bool) (s':Shared):Prop:=∃ H',Inv X pins σ H' s'/\Q b H'
def AP (X:Cx) (pins:List (Addr × Obj)) (σ:St) (Q:List V->Hp->Prop) (us:List Value) (s':Shared):Prop:=∃ vs H',Inv X pins σ H' s'/\Vals vs us/\Q vs H'
def SP (X:Cx) (pins:List (Addr × Obj)) (D:Ends) (f:Flow) (s':Shared):Prop :=
 match f with
 | .next=>∃ σ' H',Inv X pins σ' H' s'/\D.nx σ' H'
 | .brk=>∃ σ' H',Inv X pins σ' H' s'/\D.bk σ' H'
 | .cont=>∃ σ' H',Inv X pins σ' H' s'/\D.ct σ' H'
 | .ret u=>∃ v σ' H',Inv X pins σ' H' s'/\RelV v u/\D.rt v H'
def PE (X:Cx) (e:Expr) (t:TE):Prop :=
 ∀ (pins:List (Addr × Obj)) (s:Shared) (σ:St) (H:Hp) (Q:VK),Inv X pins σ H s->t σ H Q->wpAny (model X.prog X.w) X.A (eval e X.env) (EP X pins σ Q) X.xe s
def PT (X:Cx) (e:Expr) (t:TT):Prop :=
 ∀ (pins:List (Addr × Obj)) (s:Shared) (σ:St) (H:Hp) (Q:Bool->Hp->Prop),Inv X pins σ H s->t σ H Q->wpAny (model X.prog X.w) X.A (isTrue e X.env (eval e X.env)) (TP X pins σ Q) X.xe s
def PW (X:Cx) (e:Expr) (t:TT):Prop :=
 ∀ (whole:Sem Value) (pins:List (Addr × Obj)) (s:Shared) (σ:St) (H:Hp) (Q:Bool->Hp->Prop),Inv X pins σ H s->t σ H Q->wpAny (model X.prog X.w) X.A (isTrue e X.env whole) (TP X pins σ Q) X.xe s
theorem PW.pt {X:Cx} {e:Expr} {t:TT} (h:PW X e t):PT X e t:=h _
def PA (X:Cx) (es:List Expr) (t:TA):Prop :=
 ∀ (pos:Pos) (pins:List (Addr × Obj)) (s:Shared) (σ:St) (H:Hp) (Q:List V->Hp->Prop),Inv X pins σ H s->t σ H Q->wpAny (model X.prog X.w) X.A (spliced (backTo pos (starEach es X.env))) (AP X pins σ Q) X.xe s
def PS (X:Cx) (st:Stmt) (t:TS):Prop :=
 ∀ (pins:List (Addr × Obj)) (s:Shared) (σ:St) (H:Hp) (D:Ends),Inv X pins σ H s->t D σ H->wpAny (model X.prog X.w) X.A (exec st X.env) (SP X pins D) X.xe s
def PSs (X:Cx) (st:List Stmt) (t:TS):Prop :=
 ∀ (pins:List (Addr × Obj)) (s:Shared) (σ:St) (H:Hp) (D:Ends),Inv X pins σ H s->t D σ H->wpAny (model X.prog X.w) X.A (execs st X.env) (SP X pins D) X.xe s
theorem thn {α:Type} {t:Sem α} {Q Q':α->Shared->Prop} {M:Model} {A:Around} {E:Value->Shared->Prop} {s:Shared} (h:wpAny M A t Q E s) (hQ:∀ a s,Q a s->Q' a s):wpAny M A t Q' E s:=Cc h hQ λ_ _ x=>x
end L2
namespace L2
open PySem PySem.Spec PyProof.Rows
section
variable {X:Cx}
theorem bin {a b:Expr} {ta tb:TE} (ha:PE X a ta) (hb:PE X b tb) {pins:List (Addr × Obj)} {s:Shared} {σ:St} {H:Hp} {R:V->V->Hp->Prop} (I:Inv X pins σ H s) (h:ta σ H λx H1=>tb σ H1 λy H2=>R x y H2)
   {α:Type} {Q:α->Shared->Prop} {f:Value->Value->Sem α}
   (hf:∀ v u s2 x y H2,Inv X pins σ H2 s2->RelV x v->RelV y u->R x y H2->wpAny (model X.prog X.w) X.A (f v u) Q X.xe s2) :
   wpAny (model X.prog X.w) X.A (eval a X.env) (λv s₁=>wpAny (model X.prog X.w) X.A (eval b X.env) (λu s₂=>wpAny (model X.prog X.w) X.A (f v u) Q X.xe s₂) X.xe s₁) X.xe s:=by
 refine thn (ha pins s σ H _ I h) λv s1 ⟨x,H1,I1,r1,q1⟩=>?_
 refine thn (hb pins s1 σ H1 _ I1 q1) λu s2 ⟨y,H2,I2,r2,q2⟩=>?_
 exact hf v u s2 x y H2 I2 r1 r2 q2
def dJL (i:Nat):TE:=λσ H Q=>∃ v,σ[i]?=some (some v)/\Q v H
def tC (v:V):TE:=λ_ H Q=>Q v H
theorem cJV {i:Nat} {x:Str} {pos:Pos} (hN:X.N[i]?=some x) (hv:Vis X.env.scope x) (hd:(x == ("__debug__" : Str))=false:=by decide) (hcd:(x == ("__classdict__" : Str))=false:=by decide):PE X (.Name x pos) (dJL i):=by
 intro pins s σ H Q I h
 obtain ⟨v,e,h⟩:=h
 obtain ⟨m,hn,hl⟩:=I.loc
 obtain ⟨u,r,l⟩:=hl i x v hN e hv
 have fin:EP X pins σ Q u s:=⟨v,H,I,r,h⟩
 rcases l with ⟨hk,hm⟩ | ⟨hk,c,hc,hcell⟩
 · exact wpAny_Name (wpAny_loadName_local I.ok.kind hk hn hm fin) hd
 · rcases hk with hk | hk
   · exact wpAny_Name (wpAny_loadName_cell I.ok.kind hk hc hcell fin) hd
   · exact wpAny_Name (wpAny_loadName_free I.ok.kind hk hc hcell fin hcd) hd
theorem aJ {i j pos}:PE X (.Constant (.int i) j pos) (tC (.int i)):=λ_ _ _ H _ I h=>wpAny_Constant_int ⟨.int i,H,I.tok _,⟨_,rfl⟩,h⟩
theorem fX {b j pos}:PE X (.Constant (.bool b) j pos) (tC (.bl b)):=λ_ _ _ H _ I h=>Constant_bool ⟨.bl b,H,I,rfl,h⟩
theorem dC {j pos}:PE X (.Constant .none j pos) (tC .non):=λ_ _ _ H _ I h=>Constant_none ⟨.non,H,I,rfl,h⟩
theorem gP {x j pos}:PE X (.Constant (.str x) j pos) (tC (.str x)):=λ_ _ _ H _ I h=>Calls.Constant_str ⟨.str x,H,I.tok _,⟨_,rfl⟩,h⟩
def Gl (X:Cx) (x:Str):Prop:=X.env.kindOf x=some .globalImplicit
theorem gX {E:Value->Shared->Prop} {pins:List (Addr × Obj)} {s:Shared} {σ:St} {H:Hp} {x:Str} {u:Value} {pos:Pos} {Q:Value->Shared->Prop} (I:Inv X pins σ H s) (hg:Gl X x) (hm:X.mg x=some u) (h:Q u s)
   (hd:(x == ("__debug__" : Str))=false:=by decide):wpAny (model X.prog X.w) X.A (eval (.Name x pos) X.env) Q E s :=
 Calls.Name_function_global I.ok.kind hg (Calls.loadGlobal_global (by rw [I.ok.glob]; exact I.mod.glob.keeps I.bk) hm h) hd
theorem iT {E:Value->Shared->Prop} {pins:List (Addr × Obj)} {s:Shared} {σ:St} {H:Hp} {x:Str} {u:Value} {pos:Pos} {Q:Value->Shared->Prop} (I:Inv X pins σ H s) (hg:Gl X x) (hm:X.mg x=none) (hv:bootBuiltins x=some u) (h:Q u s)
   (hn:x≠"__name__" := by decide) (hd:(x == ("__debug__" : Str))=false:=by decide):wpAny (model X.prog X.w) X.A (eval (.Name x pos) X.env) Q E s:=by
 obtain ⟨mb,h1,h2⟩:=I.mod.blt
 exact Calls.Name_function_global I.ok.kind hg (Calls.loadGlobal_builtin (by rw [I.ok.glob]; exact I.mod.glob.keeps I.bk) hm (by rw [I.ok.blt]; exact h1.keeps I.bk) ((h2 x hn).trans hv) h) hd
theorem aXY {x:Str} {v:V} {u:Value} {pos:Pos} (hg:Gl X x) (hm:X.mg x=some u) (r:RelV v u) (hd:(x == ("__debug__" : Str))=false:=by decide):PE X (.Name x pos) (tC v) :=
 λ_ _ _ H _ I h=>gX I hg hm ⟨v,H,I,r,h⟩ hd
theorem bJ8 {x:Str} {v:V} {u:Value} {pos:Pos} (hg:Gl X x) (hm:X.mg x=none) (hv:bootBuiltins x=some u) (r:RelV v u) (hn:x≠"__name__" := by decide) (hd:(x == ("__debug__" : Str))=false:=by decide):PE X (.Name x pos) (tC v) :=
 λ_ _ _ H _ I h=>iT I hg hm hv ⟨v,H,I,r,h⟩ hn hd
variable {a b:Expr} {ta tb:TE} {pos:Pos}
variable {tA tB':TT} {rest:List Expr}
def dJU (t u:TT):TT:=λσ H Q=>t σ H λc H1=>if c=true then u σ H1 Q else Q false H1
def tOr (t u:TT):TT:=λσ H Q=>t σ H λc H1=>if c=true then Q true H1 else u σ H1 Q
def dZE (t:TT):TT:=λσ H Q=>t σ H λc H1=>Q (!c) H1
theorem oO (ha:PT X a tA):PW X (.BoolOp .And [a] pos) tA:=by
 intro wh pins s σ H Q I h
 refine isTrue_and (thn (ha pins s σ H Q I h) λc s1 e=>?_)
 cases c with
 | true=>exact isTrue_and_nil e
 | false=>exact e
theorem lD (ha:PT X a tA):PW X (.BoolOp .Or [a] pos) tA:=by
 intro wh pins s σ H Q I h
 refine isTrue_or (thn (ha pins s σ H Q I h) λc s1 e=>?_)
 cases c with
 | false=>exact isTrue_or_nil e
 | true=>exact e
theorem uV (ha:PT X a tA) (hb:PW X (.BoolOp .And (b :: rest) pos) tB'):PW X (.BoolOp .And (a :: b :: rest) pos) (dJU tA tB'):=by
 intro wh pins s σ H Q I h
 refine isTrue_and (thn (ha pins s σ H _ I h) λc s1 ⟨H1,I1,q1⟩=>?_)
 cases c with
 | true=>exact hb wh pins s1 σ H1 Q I1 q1
 | false=>exact ⟨H1,I1,q1⟩
theorem mK (ha:PT X a tA) (hb:PW X (.BoolOp .Or (b :: rest) pos) tB'):PW X (.BoolOp .Or (a :: b :: rest) pos) (tOr tA tB'):=by
 intro wh pins s σ H Q I h
 refine isTrue_or (thn (ha pins s σ H _ I h) λc s1 ⟨H1,I1,q1⟩=>?_)
 cases c with
 | true=>exact ⟨H1,I1,q1⟩
 | false=>exact hb wh pins s1 σ H1 Q I1 q1
theorem gN (ha:PT X a tA):PT X (.UnaryOp .Not a pos) (dZE tA):=by
 intro pins s σ H Q I h
 exact isTrue_not (ha pins s σ H (λc H1=>Q (!c) H1) I h)
theorem yJ {op} {t:TE} (h:PE X a t):PE X (.BoolOp op [a] pos) t:=λpins s σ H Q I hw=>BoolOp_one (h pins s σ H Q I hw)
def tIf (t:TT) (ta tb:TE):TE:=λσ H Q=>t σ H λc H1=>if c=true then ta σ H1 Q else tb σ H1 Q
theorem oU {c:Expr} (hc:PT X c tA) (ha:PE X a ta) (hb:PE X b tb):PE X (.IfExp c a b pos) (tIf tA ta tb):=by
 intro pins s σ H Q I h
 refine wpAny_IfExp (thn (hc pins s σ H _ I h) λd s1 ⟨H1,I1,q1⟩=>?_)
 cases d with
 | true=>exact ha pins s1 σ H1 Q I1 q1
 | false=>exact hb pins s1 σ H1 Q I1 q1
end
end L2
namespace L2
open PySem PySem.Spec PyProof.Rows
def SqL (K:PySem.W.Frag) (H:Hp) (a:Addr) (xs:List V):Prop :=
 Rd H a (.lst xs)\/
   ∃ (o:Obj) (its:Array Value) (n:Nat),K.lookup a=some o/\o.cls=.type "list"/\o.dict=none/\o.data=.seq its n/\its.size<=sizeLine/\Vals xs its.toList
def SqT (K:PySem.W.Frag) (H:Hp) (a:Addr) (xs:List V):Prop :=
 Rd H a (.tup xs)\/
   ∃ (o:Obj) (its:Array Value) (n:Nat),K.lookup a=some o/\o.cls=.type "tuple"/\o.data=.seq its n/\its.size<=sizeLine/\Vals xs its.toList
def eQI:Value->Option V
 | .none=>some .non
 | .bool b=>some (.bl b)
 | .int i _=>some (.int i)
 | .str x _=>some (.str x)
 | .bytes b _=>some (.byt b)
 | .float b _=>some (.flt b)
 | .ref a=>some (.ref a)
 | .type n=>some (.ty n)
 | _=>none
theorem RelV.abs {x:V} {u:Value} (r:RelV x u):eQI u=some x:=by
 cases x with
 | non=>cases r; rfl
 | bl _=>cases r; rfl
 | int _=>obtain ⟨t,rfl⟩:=r; rfl
 | str _=>obtain ⟨t,rfl⟩:=r; rfl
 | byt _=>obtain ⟨t,rfl⟩:=r; rfl
 | flt _=>obtain ⟨t,rfl⟩:=r; rfl
 | ref _=>cases r; rfl
 | ty _=>cases r; rfl
theorem RelV.inj {x y:V} {u:Value} (r:RelV x u) (q:RelV y u):x=y:=Bi (r.abs.symm.trans q.abs)
theorem Vals.inj:∀ {xs ys:List V} {us:List Value},Vals xs us->Vals ys us->xs=ys
 | _,_,_,.nil,.nil=>rfl
 | _,_,_,.cons r t,.cons r' t'=>by rw [r.inj r',Vals.inj t t']
section
variable {X:Cx} {pins:List (Addr × Obj)} {σ:St} {H:Hp} {s:Shared} {a:Addr} {xs ys:List V}
theorem SqL.of {K:PySem.W.Frag} (h:H a=some (.lst xs)):SqL K H a xs:=.inl (.inl h)
theorem SqT.of {K:PySem.W.Frag} (h:H a=some (.tup xs)):SqT K H a xs:=.inl (.inl h)
theorem Inv.list (I:Inv X pins σ H s) (h:SqL X.K H a xs):∃ its:List Value,Vals xs its/\PlainL s.heap a its.toArray/\xs.length<=sizeLine:=by
 rcases h with h | ⟨o,its,n,hk,hc,hd,hs,hz,r⟩
 · obtain ⟨z,its,n,r,e⟩:=h.ok I.hok
   exact ⟨its,r,⟨_,n,e,rfl,rfl,rfl⟩,z⟩
 · refine ⟨its.toList,r,⟨o,n,I.kIn a o hk,hc,hd,by simpa using hs⟩,?_⟩
   have e:=r.length
   simp only [Array.length_toList] at e
   omega
theorem Inv.tuple (I:Inv X pins σ H s) (h:SqT X.K H a xs):∃ its:List Value,Vals xs its/\IsTup s.heap a its.toArray/\xs.length<=sizeLine:=by
 rcases h with h | ⟨o,its,n,hk,hc,hs,hz,r⟩
 · obtain ⟨z,its,r,p⟩:=h.ok I.hok
   exact ⟨its,r,p,z⟩
 · refine ⟨its.toList,r,⟨o,I.kIn a o hk,hc,n,by simpa using hs⟩,?_⟩
   have e:=r.length
   simp only [Array.length_toList] at e
   omega
theorem Inv.list_inj (I:Inv X pins σ H s) (h:SqL X.K H a xs) (h':SqL X.K H a ys):xs=ys:=by
 obtain ⟨its,r,⟨o,n,e,_,_,d⟩,_⟩:=I.list h
 obtain ⟨its',r',⟨o',n',e',_,_,d'⟩,_⟩:=I.list h'
 rw [e] at e'; cases e'
 rw [d] at d'
 injection d' with d1 _
 have:its=its':=by simpa using congrArg Array.toList d1
 subst this
 exact r.inj r'
end
abbrev Cx.wish (X:Cx) (E:Value->Shared->Prop):Cx:={ X with xe:=E }
abbrev Cx.nox (X:Cx):Cx:=X.wish λ_ _=>False
theorem Cx.Ok.wish {X:Cx} (ok:X.Ok) (E:Value->Shared->Prop):(X.wish E).Ok :=
 ⟨ok.mod,ok.kind,ok.glob,ok.blt,ok.above,ok.inj,ok.has,ok.cab,ok.hd,ok.frames,ok.stk,ok.exf,ok.bs,ok.bsz,ok.noex,ok.exfs,ok.funs,ok.frf⟩
theorem Cx.Ok.unwish {X:Cx} {E:Value->Shared->Prop} (ok:(X.wish E).Ok):X.Ok :=
 ⟨ok.mod,ok.kind,ok.glob,ok.blt,ok.above,ok.inj,ok.has,ok.cab,ok.hd,ok.frames,ok.stk,ok.exf,ok.bs,ok.bsz,ok.noex,ok.exfs,ok.funs,ok.frf⟩
section
variable {X:Cx} {pins:List (Addr × Obj)} {σ:St} {H:Hp} {s:Shared} {E:Value->Shared->Prop}
theorem Inv.wish (I:Inv X pins σ H s) (E:Value->Shared->Prop):Inv (X.wish E) pins σ H s:=⟨I.ok.wish E,I.os,I.bare,I.base,I.loc,I.cell,I.free,I.freeC,I.pin,I.hok,I.len⟩
theorem Inv.unwish (I:Inv (X.wish E) pins σ H s):Inv X pins σ H s:=⟨I.ok.unwish,I.os,I.bare,I.base,I.loc,I.cell,I.free,I.freeC,I.pin,I.hok,I.len⟩
theorem SP.unwish {D:Ends} {f:Flow} {s':Shared} (h:SP (X.wish E) pins D f s'):SP X pins D f s':=by
 cases f with
 | next=>obtain ⟨σ',H',I,q⟩:=h; exact ⟨σ',H',I.unwish,q⟩
 | brk=>obtain ⟨σ',H',I,q⟩:=h; exact ⟨σ',H',I.unwish,q⟩
 | cont=>obtain ⟨σ',H',I,q⟩:=h; exact ⟨σ',H',I.unwish,q⟩
 | ret u=>obtain ⟨v,σ',H',I,r,q⟩:=h; exact ⟨v,σ',H',I.unwish,r,q⟩
theorem PE.nox {e:Expr} {t:TE} (h:PE X.nox e t):PE X e t:=λpins s σ H Q I hw=>
 Cc (h pins s σ H Q (I.wish _) hw) (λ_ _ ⟨v,H',I',r,q⟩=>⟨v,H',I'.unwish,r,q⟩) λ_ _ z=>False.elim z
theorem PT.nox {e:Expr} {t:TT} (h:PT X.nox e t):PT X e t:=λpins s σ H Q I hw=>
 Cc (h pins s σ H Q (I.wish _) hw) (λ_ _ ⟨H',I',q⟩=>⟨H',I'.unwish,q⟩) λ_ _ z=>False.elim z
theorem PSs.nox {st:List Stmt} {t:TS} (h:PSs X.nox st t):PSs X st t:=λpins s σ H D I hw=>
 Cc (h pins s σ H D (I.wish _) hw) (λ_ _ q=>q.unwish) λ_ _ z=>False.elim z
end
section
variable {X:Cx} {st:Stmt} {rest:List Stmt} {t u:TS} {e:Expr} {te:TE} {pos:Pos}
def cZY:TS:=λD σ H=>D.nx σ H
def dQ9 (t u:TS):TS:=λD σ H=>t { D with nx:=u D } σ H
theorem bI:PSs X [] cZY:=λ_ _ σ H _ I h=>wpAny_execs_nil ⟨σ,H,I,h⟩
theorem aD (h1:PS X st t) (h2:PSs X rest u):PSs X (st :: rest) (dQ9 t u):=by
 intro pins s σ H D I h
 refine wpAny_execs_cons (thn (h1 pins s σ H { D with nx:=u D } I h) λf s1 q=>?_)
 cases f with
 | next=>
   obtain ⟨σ',H',I',q⟩:=q
   exact h2 pins s1 σ' H' D I' q
 | ret v=>exact q
 | brk=>exact q
 | cont=>exact q
theorem aH (h1:PS X st t):PSs X [st] t:=by
 intro pins s σ H D I h
 refine wpAny_execs_cons (thn (h1 pins s σ H D I h) λf s1 q=>?_)
 cases f with
 | next=>exact wpAny_execs_nil q
 | ret v=>exact q
 | brk=>exact q
 | cont=>exact q
theorem Inv.quiet {pins:List (Addr × Obj)} {σ:St} {H:Hp} {s:Shared} (I:Inv X pins σ H s):interactive X.env=false:=by simp [interactive,I.ok.kind]
def cZX (te:TE):TS:=λD σ H=>te σ H λ_ H1=>D.nx σ H1
theorem cE (he:PE X e te) (hs:swapsWith e none pos.line X.env=pure false:=by rfl):PS X (.Expr e pos) (cZX te):=by
 intro pins s σ H D I h
 exact wpAny_Expr_any (thn (he pins s σ H _ I h) λv s1 ⟨x,H1,I1,r1,q1⟩=>⟨σ,H1,I1,q1⟩) I.quiet hs
def dZS (te:TE):TS:=λD σ H=>te σ H D.rt
theorem aS (he:PE X e te):PS X (.Return (some e) pos) (dZS te):=by
 intro pins s σ H D I h
 exact wpAny_Return_some (thn (he pins s σ H _ I h) λv s1 ⟨x,H1,I1,r1,q1⟩=>⟨x,σ,H1,I1,r1,q1⟩)
def dJR (c:TT) (t u:TS):TS:=λD σ H=>c σ H λb H1=>if b=true then t D σ H1 else u D σ H1
theorem cG {c:Expr} {a b:List Stmt} {tc:TT} (hc:PT X c tc) (ha:PSs X a t) (hb:PSs X b u):PS X (.If c a b pos) (dJR tc t u):=by
 intro pins s σ H D I h
 refine wpAny_If (thn (hc pins s σ H _ I h) λd s1 ⟨H1,I1,q1⟩=>?_)
 cases d with
 | true=>exact ha pins s1 σ H1 D I1 q1
 | false=>exact hb pins s1 σ H1 D I1 q1
end
abbrev TG:=V->St->Hp->(St->Hp->Prop)->Prop
abbrev TGs:=List V->St->Hp->(St->Hp->Prop)->Prop
def PG (X:Cx) (target:Expr) (t:TG):Prop :=
 ∀ (pins:List (Addr × Obj)) (s:Shared) (σ:St) (H:Hp) (v:V) (u:Value) (Q:St->Hp->Prop),Inv X pins σ H s->RelV v u->t v σ H Q->
   wpAny (model X.prog X.w) X.A (assign target X.env u) (λ_ s'=>∃ σ' H',Inv X pins σ' H' s'/\Q σ' H') X.xe s
def PGs (X:Cx) (ts:List Expr) (t:TGs):Prop :=
 ∀ (pins:List (Addr × Obj)) (s:Shared) (σ:St) (H:Hp) (vs:List V) (us:List Value) (Q:St->Hp->Prop),Inv X pins σ H s->Vals vs us->t vs σ H Q->
   wpAny (model X.prog X.w) X.A (assignInOrder ((assignEach ts X.env).map (·.2)) us) (λ_ s'=>∃ σ' H',Inv X pins σ' H' s'/\Q σ' H') X.xe s
abbrev cQS:=V->V->V->Hp->(Hp->Prop)->Prop
def dXR (X:Cx) (t:cQS):Prop :=
 ∀ (pins:List (Addr × Obj)) (s:Shared) (σ:St) (H:Hp) (o i v:V) (ov iv u:Value) (Q:Hp->Prop),Inv X pins σ H s->RelV o ov->RelV i iv->RelV v u->t o i v H Q->
   wpAny (model X.prog X.w) X.A (setItem ov iv u) (λ_ s'=>∃ H',Inv X pins σ H' s'/\Q H') X.xe s
section
variable {X:Cx} {pos:Pos}
def pX (i:Nat):TG:=λv σ H Q=>Q (σ.set i (some v)) H
theorem aP {i:Nat} {x:Str} (hN:X.N.Nodup) (hi:X.N[i]?=some x) (hx:Loc X.env.scope x) (hf:X.fn x=true\/X.env.scope.names.lookup x=some .local:=by first | exact .inl rfl | exact .inr rfl | assumption):PG X (.Name x pos) (pX i):=by
 intro pins s σ H v u Q I r h
 exact wpAny_assign_Name (oZ I hN hi hx r (λs' I'=>⟨_,H,I',h⟩) hf)
def cJ6:TGs:=λvs σ H Q=>vs=[]/\Q σ H
def aXX (t:TG) (u:TGs):TGs:=λvs σ H Q=>∃ v r,vs=v :: r/\t v σ H λσ' H'=>u r σ' H' Q
theorem uZ:PGs X [] cJ6:=by
 intro pins s σ H vs us Q I r h
 obtain ⟨e,h⟩:=h
 subst e
 cases r
 exact assignInOrder_nil ⟨σ,H,I,h⟩
theorem eY {e:Expr} {es:List Expr} {t:TG} {u:TGs} (h1:PG X e t) (h2:PGs X es u)
   (hs:(assignEach (e :: es) X.env).map (·.2)=assign e X.env :: (assignEach es X.env).map (·.2):=by rfl):PGs X (e :: es) (aXX t u):=by
 intro pins s σ H vs us Q I r h
 obtain ⟨v,vr,e1,h⟩:=h
 subst e1
 cases r with
 | cons r rr=>
   rw [hs]
   refine assignInOrder_cons (thn (h1 pins s σ H _ _ _ I r h) λ_ s1 ⟨σ1,H1,I1,q1⟩=>?_)
   exact h2 pins s1 σ1 H1 _ _ Q I1 rr q1
def cJP (K:PySem.W.Frag) (n:Nat) (t:TGs):TG:=λv σ H Q=>∃ a xs,v=.ref a/\SqT K H a xs/\xs.length=n/\t xs σ H Q
theorem bQA {es:List Expr} {k:Nat} {t:TGs} {n:Nat} (hc:X.calm=true) (h:PGs X es t)
   (hn:(assignEach es X.env).length=n:=by rfl) (hst:(assignEach es X.env).findIdx? (·.1)=none:=by rfl):PG X (.Tuple es k pos) (cJP X.K n t):=by
 intro pins s σ H v u Q I r hw
 obtain ⟨a,xs,e1,hq,hl,hw⟩:=hw
 subst e1
 cases r
 obtain ⟨its,rv,ht,hz⟩:=I.tuple hq
 refine assign_Tuple_tuple (I.ok.hd hc) ht (by simp [hn,<-hl,rv.length]) hst λh' hx=>?_
 have I1:Inv X pins σ H { s with heap:=h' }:=I.kept (t':=s.toks) λb o e=>hx b o (Bk (Aq e)) e
 exact h pins _ σ H xs _ Q I1 (by simpa using rv) hw
def dXQ (to ti:TE) (t:cQS):TG:=λv σ H Q=>to σ H λo H1=>ti σ H1 λi H2=>t o i v H2 λH3=>Q σ H3
theorem dXE {o i:Expr} {to ti:TE} {t:cQS} (ho:PE X o to) (hi:PE X i ti) (hs:dXR X t)
   (ha:∀ v,assign (.Subscript o i pos) X.env v=(do
     let ov <-holding [v] (eval o X.env)
     let iv <-holding [v,ov] (eval i X.env)
     standAt pos
     holding [v,ov,iv] (setItem ov iv v)
     release [v,ov,iv] []):=by intro _; rfl):PG X (.Subscript o i pos) (dXQ to ti t):=by
 intro pins s σ H v u Q I r h
 rw [ha]
 refine Ae (Cm (thn (ho pins s σ H _ I h) λov s1 ⟨x,H1,I1,r1,q1⟩=>?_))
 refine Ae (Cm (thn (hi pins s1 σ H1 _ I1 q1) λiv s2 ⟨y,H2,I2,r2,q2⟩=>?_))
 refine Ae (Ez (Ae (Cm (thn (hs pins s2 σ H2 x y v ov iv u _ I2 r1 r2 r q2) λ_ s3 ⟨H3,I3,q3⟩=>?_))))
 exact wpAny_release ⟨σ,H3,I3,q3⟩
def cXI (te:TE) (g:TG):TS:=λD σ H=>te σ H λx H1=>g x σ H1 D.nx
theorem zC {tg e:Expr} {te:TE} {g:TG} (he:PE X e te) (hg:PG X tg g) (hs:swapsWithSole [tg] e pos.line X.env=pure false:=by rfl) (hw:swappedStores [tg] e X.env=pure none:=by rfl)
   (h1:(assignEach [tg] X.env).map (·.2)=[assign tg X.env]:=by rfl):PS X (.Assign [tg] e pos) (cXI te g):=by
 intro pins s σ H D I h
 refine wpAny_Assign_stores (thn (he pins s σ H _ I h) λv s1 ⟨x,H1,I1,r1,q1⟩=>?_) hs hw
 rw [h1]
 exact thn (hg pins s1 σ H1 x v _ I1 r1 q1) λ_ s2 q=>q
theorem aO {i:Nat} {x:Str} {e:Expr} {te:TE} {pos':Pos} (hN:X.N.Nodup) (hi:X.N[i]?=some x) (hx:Loc X.env.scope x) (he:PE X e te) (hs:swapsWith e (some (.Name x pos')) pos.line X.env=pure false:=by rfl) (hf:X.fn x=true\/X.env.scope.names.lookup x=some .local:=by first | exact .inl rfl | exact .inr rfl | assumption) :
   PS X (.Assign [.Name x pos'] e pos) (cXI te (pX i)):=by
 intro pins s σ H D I h
 refine wpAny_Assign_Name (thn (he pins s σ H _ I h) λv s1 ⟨y,H1,I1,r1,q1⟩=>?_) hs
 exact oZ I1 hN hi hx r1 (λs2 I2=>⟨_,H1,I2,q1⟩) hf
end
section
variable {X:Cx} {pos:Pos}
def dQ4 (c:TT) (tb:TS):TS:=λD σ H=>∃ W:Nat->St->Hp->Prop,(∃ m,W m σ H)/\∀ m σ H,W m σ H->
 c σ H λb H1=>if b=true then ∃ N:St->Hp->Prop,(∀ σ' H',N σ' H'->∃ m',m' < m/\W m' σ' H')/\tb { D with nx:=N,ct:=N,bk:=D.nx } σ H1 else D.nx σ H1
theorem wZ {c:Expr} {body:List Stmt} {tc:TT} {tb:TS} (hp:PassesOwn (model X.prog X.w) X.A X.env X.xe) (hc:PT X c tc) (hb:PSs X body tb):PS X (.While c body [] pos) (dQ4 tc tb):=by
 intro pins s σ H D I h
 obtain ⟨W,⟨m0,w0⟩,turn⟩:=h
 refine wpAny_While (codeAny_whileLoop (λn s'=>∃ σ' H',Inv X pins σ' H' s'/\W n σ' H') ?_ m0 ⟨σ,H,I,w0⟩)
 rintro n s1 ⟨σ1,H1,I1,w1⟩
 refine Ee hp (thn (hc pins s1 σ1 H1 _ I1 (turn n σ1 H1 w1)) λb s2 ⟨H2,I2,q2⟩=>?_)
 cases b with
 | true=>
   obtain ⟨N,hN,q2⟩:=q2
   rw [if_pos rfl]
   refine Ee hp (thn (hb pins s2 σ1 H2 _ I2 q2) λf s3 q3=>?_)
   cases f with
   | next=>
     obtain ⟨σ3,H3,I3,n3⟩:=q3
     obtain ⟨m',hm,w3⟩:=hN σ3 H3 n3
     exact ⟨m',hm,σ3,H3,I3,w3⟩
   | cont=>
     obtain ⟨σ3,H3,I3,n3⟩:=q3
     obtain ⟨m',hm,w3⟩:=hN σ3 H3 n3
     exact ⟨m',hm,σ3,H3,I3,w3⟩
   | brk=>exact q3
   | ret v=>exact q3
 | false=>
   rw [if_neg Ao]
   exact wpAny_execs_nil ⟨σ1,H2,I2,q2⟩
end
structure It where
 go:Nat->Hp->Prop
 yld:Nat->Hp->V->Hp->Prop
 stop:Nat->Hp->Prop
def kO (X:Cx) (pins:List (Addr × Obj)) (H:Hp) (b:Addr):Prop :=
 H b=none/\b≠X.env.locals/\b ∉ X.fs/\(b ∈ X.ex\/X.s₀.heap.objs.size<=b)/\(∀ x c,X.env.cells.lookup x=some c->c≠b)/\∀ p ∈ X.pn ++ pins,p.1≠b
theorem Inv.fpOk {X:Cx} {pins:List (Addr × Obj)} {σ:St} {H H':Hp} {s:Shared} {b:Addr} (I:Inv X pins σ H s) (hb:s.heap.objs.size<=b) (hn:H' b=none):kO X pins H' b:=by
 refine ⟨hn,Gj (Bb I.lt hb),I.nofs hb,.inr (Bf I.sz hb),λx c e z=>?_,λp hp z=>?_⟩
 · obtain ⟨v,q⟩:=I.cell x c e
   exact absurd (Bb q.lt (by rw [z]; exact hb)) (Dn _)
 · exact absurd (Bb (Aq (I.pin p hp).1) (by rw [z]; exact hb)) (Dn _)
structure Turn (P:Program) (w:World) (K:PySem.W.Frag) (tg:Expr) (J:It) (fp:List Addr) (it:Addr) (tn:Nat->Heap->Prop):Prop where
 mem:it∈fp
 obj:∀ i h,tn i h->∀ b∈fp,∃ o,h.get? b=some o/\∀ v,o.data≠.cell v
 keep:∀ i h h',tn i h->(∀ b∈fp,∀ o,h.get? b=some o->h'.get? b=some o)->tn i h'
 item:∀ (X:Cx),X.prog=P->X.w=w->X.K=K->X.calm=true->∀ (i:Nat) (pins:List (Addr × Obj)) (s:Shared) (σ:St) (H:Hp) (E:Value->Shared->Prop),Inv X pins σ H s->(∀ b∈fp,kO X pins H b)->tn i s.heap->J.go i H->
   wpAny (model P w) X.A (pyNext (.ref it)) (λr s1=>∃ u,r=some u/\
     wpAny (model P w) X.A (letOwnedTupleGo tg (.ref it) u) (λ_ s2=>∃ x H',Inv X pins σ H' s2/\RelV x u/\J.yld i H x H'/\tn (i + 1) s2.heap/\∀ b∈fp,H' b=none) E s1) E s
 done:∀ (X:Cx),X.prog=P->X.w=w->X.K=K->X.calm=true->∀ (i:Nat) (pins:List (Addr × Obj)) (s:Shared) (σ:St) (H:Hp) (E:Value->Shared->Prop),Inv X pins σ H s->(∀ b∈fp,kO X pins H b)->tn i s.heap->J.stop i H->
   wpAny (model P w) X.A (pyNext (.ref it)) (λr s1=>r=none/\Inv X pins σ H s1) E s
 self:∀ (A:Around) (i:Nat) (s:Shared) (Q:Value->Shared->Prop) (E:Value->Shared->Prop),tn i s.heap->Q (.ref it) s->wpAny (model P w) A (pyIter (.ref it)) Q E s
abbrev TI:=St->Hp->(It->Hp->Prop)->Prop
def PIE (X:Cx) (pins:List (Addr × Obj)) (σ:St) (tg:Expr) (R:It->Hp->Prop) (itv:Value) (s2:Shared):Prop :=
 ∃ (it:Addr) (fp:List Addr) (tn:Nat->Heap->Prop) (J:It) (H':Hp),itv=.ref it/\Inv X pins σ H' s2/\Turn X.prog X.w X.K tg J fp it tn/\tn 0 s2.heap/\(∀ b∈fp,kO X pins H' b)/\R J H'
def PI (X:Cx) (tg iter:Expr) (wi:TI):Prop :=
 ∀ (pins:List (Addr × Obj)) (s:Shared) (σ:St) (H:Hp) (R:It->Hp->Prop),Inv X pins σ H s->wi σ H R->
   wpAny (model X.prog X.w) X.A (eval iter X.env) (λv s1=>wpAny (model X.prog X.w) X.A (pyIter v) (PIE X pins σ tg R) X.xe s1) X.xe s
theorem pZ {M:Model} {A:Around} {E:Value->Shared->Prop} {s:Shared} {tg:Expr} {it:Addr} {u:Value} {o:Obj} {n:String} {vs:Array Value} {Q:Unit->Shared->Prop} (ho:s.heap.get? it=some o) (hc:o.cls=.type n) (hd:o.data=.fields vs)
   (hn:["enumerate", "zip", "dict_itemiterator", "dict_reverseitemiterator", "odict_iterator", "itertools.zip_longest", "itertools.pairwise"].contains n=false) (hQ:Q () s):wpAny M A (letOwnedTupleGo tg (.ref it) u) Q E s:=by
 unfold letOwnedTupleGo
 cases tg <;> first
   | exact An hQ
   | (cases u <;> first
       | exact An hQ
       | (refine Ae (wpAny_load ho ?_)
          rw [hc,hd]
          show wpAny M A (if (["enumerate", "zip", "dict_itemiterator", "dict_reverseitemiterator", "odict_iterator", "itertools.zip_longest", "itertools.pairwise"].contains n && vs[0]? == some (rawInt _))=true then _ else _) Q E s
          rw [if_neg (by intro h; rw [hn,Bool.false_and] at h; cases h)]
          exact An hQ))
def Itl (K:PySem.W.Frag) (a:Addr):It :=
 ⟨λi H=>∃ xs x,SqL K H a xs/\xs[i]?=some x,λi H x H'=>H'=H/\∀ xs,SqL K H a xs->xs[i]?=some x,λi H=>∃ xs,SqL K H a xs/\xs.length<=i⟩
def Itr (lo:Int) (n:Nat):It:=⟨λi _=>i < n,λi H x H'=>H'=H/\x=.int (lo + i),λi _=>n<=i⟩
theorem aZ5 {P:Program} {w:World} {K:PySem.W.Frag} {tg:Expr} (a it:Addr):Turn P w K tg (Itl K a) [it] it (λi h=>h.IsListIter it a i) where
 mem:=by simp
 obj:=λi h st b hb=>by
   have e:b=it:=by simpa using hb
   subst e
   obtain ⟨o,e,c,d⟩:=st
   exact ⟨o,e,λv z=>by rw [d] at z; cases z⟩
 keep:=λi h h' st k=>st.at λo e=>k it (by simp) o e
 item:=by
   intro X hP hw hK hc i pins s σ H E I hf st hg
   subst hP hw hK
   obtain ⟨xs,x,hq,hx⟩:=hg
   obtain ⟨its,rv,p,hz⟩:=I.list hq
   obtain ⟨u,hu,ru⟩:=rv.get hx
   obtain ⟨f0,f1,f2,f3,f4,f5⟩:=hf it (by simp)
   refine wpAny_pyNext_list_item st p.isList (x:=u) (by simpa using hu) λh' st' sb=>?_
   have I1:Inv X pins σ H { s with heap:=h' }:=I.turned (t':=s.toks) (λb o hb e=>(sb.2 b hb).trans e) f0 f1 f3 f4 f5
   obtain ⟨o,e,c,d⟩:=id st'
   exact ⟨u,rfl,pZ (s:={ s with heap:=h' }) e c d (by decide) ⟨x,H,I1,ru,⟨rfl,λys hy=>by rw [I.list_inj hy hq]; exact hx⟩,st',λb hb=>(hf b hb).1⟩⟩
 done:=by
   intro X hP hw hK hc i pins s σ H E I hf st hg
   subst hP hw hK
   obtain ⟨xs,hq,hx⟩:=hg
   obtain ⟨its,rv,p,hz⟩:=I.list hq
   obtain ⟨f0,f1,f2,f3,f4,f5⟩:=hf it (by simp)
   have hl:=rv.length
   exact wpAny_pyNext_list_end (I.ok.hd hc) st p.isList (by simp; omega) λh' eb=>⟨rfl,I.turned (t':=s.toks) (λb o hb e=>eb b o hb e) f0 f1 f3 f4 f5⟩
 self:=λ_ _ _ _ _ st h=>wpAny_pyIter_listiter st h
theorem zT {P:Program} {w:World} {K:PySem.W.Frag} {tg:Expr} (it:Addr) (lo:Int) (n:Nat):Turn P w K tg (Itr lo n) [it] it (λi h=>IsRangeIter h it (lo + (i:Nat) * 1) ((n:Int) - (i:Nat)) 1) where
 mem:=by simp
 obj:=λi h st b hb=>by
   have e:b=it:=by simpa using hb
   subst e
   exact ⟨_,st,λv z=>by
     have z':Data.fields _=Data.cell v:=z
     cases z'⟩
 keep:=λi h h' st k=>k it (by simp) _ st
 item:=by
   intro X hP hw hK hc i pins s σ H E I hf st hg
   subst hP hw hK
   obtain ⟨f0,f1,f2,f3,f4,f5⟩:=hf it (by simp)
   have W:=Walks.range (prog:=X.prog) (w:=X.w) (I.ok.hd hc) it lo 1 n
   refine W.item i s _ _ hg st λv h' tk hv st' kk=>?_
   obtain ⟨t,rfl⟩:=hv
   have I1:Inv X pins σ H { s with heap:=h',toks:=tk }:=I.turned (λb o hb e=>kk b o (by simpa using hb) e) f0 f1 f3 f4 f5
   refine ⟨_,rfl,pZ (s:={ s with heap:=h',toks:=tk }) (n := "range_iterator") st' rfl rfl (by decide) ⟨.int (lo + i),H,I1,⟨t,?_⟩,⟨rfl,rfl⟩,st',λb hb=>(hf b hb).1⟩⟩
   rw [Int.mul_one]
 done:=by
   intro X hP hw hK hc i pins s σ H E I hf st hg
   subst hP hw hK
   obtain ⟨f0,f1,f2,f3,f4,f5⟩:=hf it (by simp)
   exact wpAny_pyNext_range_end (I.ok.hd hc) st (by have:n<=i:=hg; omega) λh' eb=>⟨rfl,I.turned (t':=s.toks) (λb o hb e=>eb b o hb e) f0 f1 f3 f4 f5⟩
 self:=λ_ _ _ _ _ st h=>wpAny_pyIter_rangeiter st h
end L2
namespace L2
open PySem PySem.Spec PyProof.Rows
section
variable {X:Cx} {tg:Expr}
theorem vW {pins:List (Addr × Obj)} {σ:St} {H:Hp} {s:Shared} {R:It->Hp->Prop} {E:Value->Shared->Prop} {lo hi:Int} {t u v:Tok} {tk:Nat} (I:Inv X pins σ H s) (h1:-(2 ^ 62)<=lo) (h2:lo < 2 ^ 62) (h3:-(2 ^ 62)<=hi) (h4:hi < 2 ^ 62)
   (q:R (Itr lo (hi - lo).toNat) H):wpAny (model X.prog X.w) X.A (pyIter (.ref s.heap.objs.size)) (PIE X pins σ tg R) E { s with heap:=s.heap.push { cls:=.type "range",data:=.fields #[.int lo t,.int hi u,.int 1 v] },toks:=tk }:=by
 refine wpAny_pyIter_range (IsRange.new ..) (small_one h1 h2 h3 h4) ?_
 have I1:Inv X pins σ H { s with heap:=s.heap.push { cls:=.type "range",data:=.fields #[.int lo t,.int hi u,.int 1 v] },toks:=tk }:=I.kept λb o e=>Af _ e
 refine ⟨(s.heap.push { cls:=.type "range",data:=.fields #[.int lo t,.int hi u,.int 1 v] }).objs.size,[(s.heap.push { cls:=.type "range",data:=.fields #[.int lo t,.int hi u,.int 1 v] }).objs.size],_,_,H,rfl,
   I1.kept (t':=tk) λb o e=>Af _ e,zT _ lo (hi - lo).toNat,?_,λb hb=>?_,q⟩
 · have e1:lo + ((0:Nat):Int) * 1=lo:=by simp
   have e2:(((hi - lo).toNat:Nat):Int) - ((0:Nat):Int)=Builtin.Range.rangeSize lo hi 1:=by rw [rangeSize_one]; split <;> omega
   show IsRangeIter _ _ (lo + ((0:Nat):Int) * 1) ((((hi - lo).toNat:Nat):Int) - ((0:Nat):Int)) 1
   rw [e1,e2]
   exact Ax _ rfl
 · have e:b=(s.heap.push { cls:=.type "range",data:=.fields #[.int lo t,.int hi u,.int 1 v] }).objs.size:=by simpa using hb
   subst e
   exact I1.fpOk (Ag _) (I1.hok.fresh (Ag _))
def dJ3 (wi:TI) (g:TG) (tb:TS):TS:=λD σ H=>wi σ H λJ H1=>∃ W:Nat->Nat->St->Hp->Prop,(∃ m,W 0 m σ H1)/\∀ i m σ H,W i m σ H->
 (J.stop i H/\D.nx σ H)\/(J.go i H/\∃ N:St->Hp->Prop,(∀ σ' H',N σ' H'->∃ m',m' < m/\W (i + 1) m' σ' H')/\∀ x H',J.yld i H x H'->g x σ H' λσ2 H2=>tb { D with nx:=N,ct:=N,bk:=D.nx } σ2 H2)
def nG (fp:List Addr) (h:Heap):List (Addr × Obj):=fp.filterMap λb=>(h.get? b).map λo=>(b,o)
theorem iX {fp:List Addr} {h:Heap} {b:Addr} {o:Obj} (hb:b∈fp) (e:h.get? b=some o):(b,o)∈nG fp h:=Di.mpr ⟨b,hb,by rw [e]; rfl⟩
theorem aJH {fp:List Addr} {h:Heap} {p:Addr × Obj} (hp:p∈nG fp h):p.1∈fp/\h.get? p.1=some p.2:=by
 obtain ⟨b,hb,e⟩:=Di.mp hp
 cases q:h.get? b with
 | none=>rw [q] at e; cases e
 | some o=>
   rw [q] at e
   have e':(b,o)=p:=Bi e
   subst e'
   exact ⟨hb,q⟩
theorem Inv.pinned {pins:List (Addr × Obj)} {σ:St} {H:Hp} {s:Shared} {fp:List Addr} (I:Inv X pins σ H s) (hf:∀ b∈fp,kO X pins H b) (ho:∀ b∈fp,∃ o,s.heap.get? b=some o/\∀ v,o.data≠.cell v):Inv X (pins ++ nG fp s.heap) σ H s :=
 I.pins_of λp hp=>(Bj.mp hp).elim (λz=>I.pin p (Bd _ z)) λz=>by
   obtain ⟨hb,e⟩:=aJH z
   obtain ⟨f0,f1,f2,_⟩:=hf p.1 hb
   obtain ⟨o,e',d⟩:=ho p.1 hb
   rw [e] at e'; cases e'
   exact ⟨e,f0,f1,f2,d⟩
theorem Inv.unpinned {pins pl:List (Addr × Obj)} {σ:St} {H:Hp} {s:Shared} (I:Inv X (pins ++ pl) σ H s):Inv X pins σ H s:=I.pins_of λp hp=>I.pin p (Bd _ (Bt _ hp))
theorem dQ1 {iter:Expr} {body:List Stmt} {wi:TI} {g:TG} {tb:TS} {pos:Pos} (hp:PassesOwn (model X.prog X.w) X.A X.env X.xe) (hc:X.calm=true) (hi:PI X tg iter wi) (hg:PG X tg g) (hb:PSs X body tb)
   (hs:∀ x,foldedSetIterable iter X.env x=pure x:=by intro _; rfl):PS X (.For tg iter body [] pos) (dJ3 wi g tb):=by
 intro pins s σ H D I h
 refine wpAny_For (thn (hi pins s σ H _ I h) λv s1 h1=>thn h1 λitv s2 h2=>?_) hs
 obtain ⟨it,fp,tn,J,H2,e,I2,T,st2,f2,W,⟨m0,w0⟩,turn⟩:=h2
 subst e
 -- what stays true of the iterator's objects through the loop
 have stat:∀ {H':Hp},(∀ b∈fp,H' b=none)->∀ b∈fp,kO X pins H' b:=λhn b hb=>⟨hn b hb,(f2 b hb).2⟩
 refine codeAny_forLoop_any (λn s'=>∃ i σ' H',Inv X pins σ' H' s'/\tn i s'.heap/\(∀ b∈fp,H' b=none)/\W i n σ' H') ?_ m0 ⟨0,σ,H2,I2,st2,λb hb=>(f2 b hb).1,w0⟩
 rintro n s3 ⟨i,σ3,H3,I3,st3,fr3,w3⟩
 rcases turn i n σ3 H3 w3 with ⟨stop,qn⟩ | ⟨go,N,hN,step⟩
 · refine Ee hp (thn (T.done X rfl rfl rfl hc i pins s3 σ3 H3 X.xe I3 (stat fr3) st3 stop) λr s4 ⟨hr,I4⟩=>?_)
   subst hr
   exact wpAny_execs_nil ⟨σ3,H3,I4,qn⟩
 · refine Ee hp (thn (T.item X rfl rfl rfl hc i pins s3 σ3 H3 X.xe I3 (stat fr3) st3 go) λr s4 ⟨u,hr,h4⟩=>?_)
   subst hr
   refine Ee hp (thn h4 λ_ s5 ⟨x,H5,I5,r5,y5,st5,fr5⟩=>?_)
   have I5':=I5.pinned (stat fr5) (T.obj _ _ st5)
   refine Ee hp (thn (hg _ s5 σ3 H5 x u _ I5' r5 (step x H5 y5)) λ_ s6 ⟨σ6,H6,I6,q6⟩=>?_)
   refine Ee hp (thn (hb _ s6 σ6 H6 _ I6 q6) λf s7 q7=>?_)
   have again:∀ {σ7:St} {H7:Hp},Inv X (pins ++ nG fp s5.heap) σ7 H7 s7->N σ7 H7->∃ m,m < n/\∃ i σ' H',Inv X pins σ' H' s7/\tn i s7.heap/\(∀ b∈fp,H' b=none)/\W i m σ' H':=fun {σ7 H7} I7 n7=>by
     obtain ⟨m',hm,w7⟩:=hN σ7 H7 n7
     refine ⟨m',hm,i + 1,σ7,H7,I7.unpinned,T.keep _ _ _ st5 λb hb o e=>(I7.pin (b,o) (Bd _ (Bd _ (iX hb e)))).1,λb hb=>?_,w7⟩
     obtain ⟨o,e,d⟩:=T.obj _ _ st5 b hb
     exact (I7.pin (b,o) (Bd _ (Bd _ (iX hb e)))).2.1
   cases f with
   | next=>obtain ⟨σ7,H7,I7,n7⟩:=q7; exact again I7 n7
   | cont=>obtain ⟨σ7,H7,I7,n7⟩:=q7; exact again I7 n7
   | brk=>obtain ⟨σ7,H7,I7,q7⟩:=q7; exact ⟨σ7,H7,I7.unpinned,q7⟩
   | ret v=>obtain ⟨x7,σ7,H7,I7,r7,q7⟩:=q7; exact ⟨x7,σ7,H7,I7.unpinned,r7,q7⟩
end
theorem bQE {K:PySem.W.Frag} {a:Addr} {xs:List V} {g:TG} {tb:TS} {D:Ends} {σ:St} {H:Hp} (Pv:Nat->St->Hp->Prop) (h0:Pv 0 σ H) (hl:∀ i σ H,i<=xs.length->Pv i σ H->SqL K H a xs)
   (hs:∀ i x σ H,xs[i]?=some x->Pv i σ H->g x σ H λσ2 H2=>tb { D with nx:=Pv (i + 1),ct:=Pv (i + 1),bk:=D.nx } σ2 H2) (hd:∀ σ H,Pv xs.length σ H->D.nx σ H) :
   ∃ W:Nat->Nat->St->Hp->Prop,(∃ m,W 0 m σ H)/\∀ i m σ H,W i m σ H->
     ((Itl K a).stop i H/\D.nx σ H)\/((Itl K a).go i H/\∃ N:St->Hp->Prop,(∀ σ' H',N σ' H'->∃ m',m' < m/\W (i + 1) m' σ' H')/\∀ x H',(Itl K a).yld i H x H'->g x σ H' λσ2 H2=>tb { D with nx:=N,ct:=N,bk:=D.nx } σ2 H2):=by
 refine ⟨λi m σ H=>m=xs.length - i/\i<=xs.length/\Pv i σ H,⟨xs.length,by simp,Nat.zero_le _,h0⟩,?_⟩
 rintro i m σ H ⟨rfl,hi,p⟩
 have q:=hl i σ H hi p
 by_cases hlt:i < xs.length
 · refine .inr ⟨⟨xs,xs[i],q,by simp [hlt]⟩,Pv (i + 1),λσ' H' p'=>⟨xs.length - (i + 1),by omega,rfl,hlt,p'⟩,λx H' y=>?_⟩
   obtain ⟨e,y⟩:=y
   subst e
   exact hs i x σ _ (y xs q) p
 · have e:i=xs.length:=by omega
   subst e
   exact .inl ⟨⟨xs,q,Ag _⟩,hd σ H p⟩
theorem aZ9 {lo:Int} {n:Nat} {g:TG} {tb:TS} {D:Ends} {σ:St} {H:Hp} (Pv:Nat->St->Hp->Prop) (h0:Pv 0 σ H)
   (hs:∀ i σ H,i < n->Pv i σ H->g (.int (lo + i)) σ H λσ2 H2=>tb { D with nx:=Pv (i + 1),ct:=Pv (i + 1),bk:=D.nx } σ2 H2) (hd:∀ σ H,Pv n σ H->D.nx σ H) :
   ∃ W:Nat->Nat->St->Hp->Prop,(∃ m,W 0 m σ H)/\∀ i m σ H,W i m σ H->
     ((Itr lo n).stop i H/\D.nx σ H)\/((Itr lo n).go i H/\∃ N:St->Hp->Prop,(∀ σ' H',N σ' H'->∃ m',m' < m/\W (i + 1) m' σ' H')/\∀ x H',(Itr lo n).yld i H x H'->g x σ H' λσ2 H2=>tb { D with nx:=N,ct:=N,bk:=D.nx } σ2 H2):=by
 refine ⟨λi m σ H=>m=n - i/\i<=n/\Pv i σ H,⟨n,by simp,Nat.zero_le _,h0⟩,?_⟩
 rintro i m σ H ⟨rfl,hi,p⟩
 by_cases hlt:i < n
 · refine .inr ⟨hlt,Pv (i + 1),λσ' H' p'=>⟨n - (i + 1),by omega,rfl,hlt,p'⟩,λx H' y=>?_⟩
   obtain ⟨e,y⟩:=y
   subst e y
   exact hs i σ _ hlt p
 · have e:i=n:=by omega
   subst e
   exact .inl ⟨Ag _,hd σ H p⟩
end L2
namespace L2
open PySem PySem.Spec PyProof.Rows
abbrev R2:=V->V->Hp->VK->Prop
def OpR (X:Cx) (f:Value->Value->Sem Value) (r:R2):Prop :=
 ∀ (pins:List (Addr × Obj)) (s:Shared) (σ:St) (H:Hp) (x y:V) (v u:Value) (Q:VK),Inv X pins σ H s->RelV x v->RelV y u->r x y H Q->
   wpAny (model X.prog X.w) X.A (f v u) (EP X pins σ Q) X.xe s
def UnR (X:Cx) (f:Value->Sem Value) (r:V->Hp->VK->Prop):Prop :=
 ∀ (pins:List (Addr × Obj)) (s:Shared) (σ:St) (H:Hp) (x:V) (v:Value) (Q:VK),Inv X pins σ H s->RelV x v->r x H Q->
   wpAny (model X.prog X.w) X.A (f v) (EP X pins σ Q) X.xe s
def CallR (X:Cx) (f:Value) (r:List V->Hp->VK->Prop):Prop :=
 ∀ (pins:List (Addr × Obj)) (s:Shared) (σ:St) (H:Hp) (xs:List V) (us:List Value) (Q:VK),Inv X pins σ H s->Vals xs us->r xs H Q->
   wpAny (model X.prog X.w) X.A (call f us) (EP X pins σ Q) X.xe s
def dJ6 (X:Cx) (r:V->Hp->(Bool->Hp->Prop)->Prop):Prop :=
 ∀ (pins:List (Addr × Obj)) (s:Shared) (σ:St) (H:Hp) (x:V) (v:Value) (Q:Bool->Hp->Prop),Inv X pins σ H s->RelV x v->r x H Q->
   wpAny (model X.prog X.w) X.A (truthy v) (TP X pins σ Q) X.xe s
def tOp (r:R2) (ta tb:TE):TE:=λσ H Q=>ta σ H λx H1=>tb σ H1 λy H2=>r x y H2 Q
def tUn (r:V->Hp->VK->Prop) (ta:TE):TE:=λσ H Q=>ta σ H λx H1=>r x H1 Q
def rI (C:Int->Int->Prop) (g:Int->Int->V):R2:=λx y H Q=>∃ i j,x=.int i/\y=.int j/\C i j/\Q (g i j) H
def rI0 (g:Int->Int->V):R2:=λx y H Q=>∃ i j,x=.int i/\y=.int j/\Q (g i j) H
def rU (g:Int->V):V->Hp->VK->Prop:=λx H Q=>∃ i,x=.int i/\Q (g i) H
section
variable {X:Cx} {a b c:Expr} {ta tb tc:TE} {pos:Pos}
theorem dQ2 (ha:PE X a ta) (hb:PE X b tb) {pins:List (Addr × Obj)} {s:Shared} {σ:St} {H:Hp} {R:V->V->Hp->Prop} (I:Inv X pins σ H s)
   (h:ta σ H λx H1=>tb σ H1 λy H2=>R x y H2) {Q:Value->Shared->Prop} {f:Value->Value->Sem Value}
   (hf:∀ v u s2 x y H2,Inv X pins σ H2 s2->RelV x v->RelV y u->R x y H2->wpAny (model X.prog X.w) X.A (f v u) Q X.xe s2) :
   wpAny (model X.prog X.w) X.A (eval a X.env) (λv s₁=>wpAny (model X.prog X.w) X.A (eval b X.env) (λu s₂=>wpAny (model X.prog X.w) X.A (f v u) Q X.xe s₂) X.xe s₁) X.xe s:=by
 refine thn (ha pins s σ H _ I h) λv s1 ⟨x,H1,I1,r1,q1⟩=>?_
 refine thn (hb pins s1 σ H1 _ I1 q1) λu s2 ⟨y,H2,I2,r2,q2⟩=>?_
 exact hf v u s2 x y H2 I2 r1 r2 q2
theorem aU {op:Operator} {r:R2} (ho:OpR X (binaryOp op) r) (ha:PE X a ta) (hb:PE X b tb):PE X (.BinOp a op b pos) (tOp r ta tb):=by
 intro pins s σ H Q I h
 exact wpAny_BinOp (dQ2 ha hb I h λv u s2 x y H2 I2 rx ry q=>ho pins s2 σ H2 x y v u Q I2 rx ry q)
theorem cZG {op:UnaryOp} {r:V->Hp->VK->Prop} (ho:UnR X (unaryOp op) r) (ha:PE X a ta):PE X (.UnaryOp op a pos) (tUn r ta):=by
 intro pins s σ H Q I h
 exact UnaryOp_ (thn (ha pins s σ H _ I h) λv s1 ⟨x,H1,I1,r1,q1⟩=>ho pins s1 σ H1 x v Q I1 r1 q1)
theorem opI {f:Value->Value->Sem Value} {C:Int->Int->Prop} {g:Int->Int->Int}
   (rule:∀ (i j:Int) (t u:Tok) (s:Shared) (Q:Value->Shared->Prop) (E:Value->Shared->Prop),C i j->Q (.int (g i j) s.toks) { s with toks:=s.toks + 1 }->wpAny (model X.prog X.w) X.A (f (.int i t) (.int j u)) Q E s) :
   OpR X f (rI C λi j=>.int (g i j)):=by
 intro pins s σ H x y v u Q I rx ry h
 obtain ⟨i,j,rfl,rfl,hc,q⟩:=h
 obtain ⟨t,rfl⟩:=rx
 obtain ⟨t',rfl⟩:=ry
 exact rule i j t t' s _ _ hc ⟨.int (g i j),H,I.tok _,⟨_,rfl⟩,q⟩
theorem dJC {f:Value->Value->Sem Value} {g:Int->Int->Int}
   (rule:∀ (i j:Int) (t u:Tok) (s:Shared) (Q:Value->Shared->Prop) (E:Value->Shared->Prop),Q (.int (g i j) s.toks) { s with toks:=s.toks + 1 }->wpAny (model X.prog X.w) X.A (f (.int i t) (.int j u)) Q E s) :
   OpR X f (rI0 λi j=>.int (g i j)):=by
 intro pins s σ H x y v u Q I rx ry h
 obtain ⟨i,j,rfl,rfl,q⟩:=h
 obtain ⟨t,rfl⟩:=rx
 obtain ⟨t',rfl⟩:=ry
 exact rule i j t t' s _ _ ⟨.int (g i j),H,I.tok _,⟨_,rfl⟩,q⟩
theorem dXS {f:Value->Value->Sem Value} {g:Int->Int->Bool}
   (rule:∀ (i j:Int) (t u:Tok) (s:Shared) (Q:Value->Shared->Prop) (E:Value->Shared->Prop),Q (.bool (g i j)) s->wpAny (model X.prog X.w) X.A (f (.int i t) (.int j u)) Q E s) :
   OpR X f (rI0 λi j=>.bl (g i j)):=by
 intro pins s σ H x y v u Q I rx ry h
 obtain ⟨i,j,rfl,rfl,q⟩:=h
 obtain ⟨t,rfl⟩:=rx
 obtain ⟨t',rfl⟩:=ry
 exact rule i j t t' s _ _ ⟨.bl (g i j),H,I,rfl,q⟩
def dZJ (i j:Int):Prop:=0 < j/\j < 1073741824
def CMul (i j:Int):Prop:=(-(2 ^ 64) < i/\i < 2 ^ 64)\/(-(2 ^ 64) < j/\j < 2 ^ 64)
theorem CMul.ok {i j:Int} (h:CMul i j):IntMulOk i j:=by
 rcases h with ⟨h1,h2⟩ | ⟨h1,h2⟩
 · exact .of_left (intBits_le_64 h1 h2)
 · exact .of_right (intBits_le_64 h1 h2)
theorem dQR:OpR X (binaryOp .Add) (rI0 λi j=>.int (i + j)):=dJC λ_ _ _ _ _ _ _ q=>add_int q
theorem op_sub:OpR X (binaryOp .Sub) (rI0 λi j=>.int (i - j)):=dJC λ_ _ _ _ _ _ _ q=>sub_int q
theorem op_mul:OpR X (binaryOp .Mult) (rI CMul λi j=>.int (i * j)):=opI λ_ _ _ _ _ _ _ hc q=>mul_int q hc.ok
theorem op_fdiv:OpR X (binaryOp .FloorDiv) (rI dZJ λi j=>.int (i / j)):=opI λi j _ _ _ _ _ hc q=>by
 have h1:(0:Int) < j:=hc.1
 have h2:j < 1073741824:=hc.2
 exact floordiv_int (by omega) (by rw [Int.fdiv_eq_ediv_of_nonneg i (by omega)]; exact q) (.inl (PyProof.noPylong_small (by omega)))
theorem op_mod:OpR X (binaryOp .Mod) (rI (λ_ j=>0 < j) λi j=>.int (i % j)):=opI λi j _ _ _ _ _ hc q=>by
 have h1:(0:Int) < j:=hc
 exact mod_int' (by omega) (by rw [Int.fmod_eq_emod_of_nonneg i (by omega)]; exact q)
theorem unI {f:Value->Sem Value} {g:Int->Int}
   (rule:∀ (i:Int) (t:Tok) (s:Shared) (Q:Value->Shared->Prop) (E:Value->Shared->Prop),Q (.int (g i) s.toks) { s with toks:=s.toks + 1 }->wpAny (model X.prog X.w) X.A (f (.int i t)) Q E s) :
   UnR X f (rU λi=>.int (g i)):=by
 intro pins s σ H x v Q I rx h
 obtain ⟨i,rfl,q⟩:=h
 obtain ⟨t,rfl⟩:=rx
 exact rule i t s _ _ ⟨.int (g i),H,I.tok _,⟨_,rfl⟩,q⟩
theorem cJX:UnR X (unaryOp .USub) (rU λi=>.int (-i)):=unI λ_ _ _ _ _ q=>neg_int q
end
def bJQ:V->V->Bool
 | .non,.non=>true | .non,.int _=>true | .int _,.non=>true | .non,.bl _=>true | .bl _,.non=>true | .non,.str _=>true | .str _,.non=>true
 | .int _,.int _=>true | .bl _,.bl _=>true | .str _,.str _=>true | .byt _,.byt _=>true
 | .int _,.str _=>true | .str _,.int _=>true | .bl _,.str _=>true | .str _,.bl _=>true
 | _,_=>false
def rEq:R2:=λx y H Q=>bJQ x y=true/\Q (.bl (decide (x=y))) H
def rNe:R2:=λx y H Q=>bJQ x y=true/\Q (.bl (!decide (x=y))) H
theorem aQ6 {i j:Int}:decide (V.int i=V.int j)=(i == j):=by
 rw [Bool.eq_iff_iff]
 simp
theorem bZ7 {i j:Bool}:decide (V.bl i=V.bl j)=(i == j):=by
 rw [Bool.eq_iff_iff]
 simp
theorem uF {i j:Str}:decide (V.str i=V.str j)=(i == j):=by
 rw [Bool.eq_iff_iff]
 simp
theorem aQQ {i j:Array UInt8}:decide (V.byt i=V.byt j)=(i.toList == j.toList):=by
 rw [Bool.eq_iff_iff]
 cases i
 cases j
 simp
section
variable {X:Cx} {a b c:Expr} {ta tb tc:TE} {pos:Pos}
theorem bM {pins:List (Addr × Obj)} {σ:St} {H:Hp} {s:Shared} {Q:VK} {k k':Bool} (I:Inv X pins σ H s) (q:Q (.bl k) H) (e:k=k'):EP X pins σ Q (.bool k') s:=by
 subst e
 exact ⟨.bl k,H,I,rfl,q⟩
theorem dZB:OpR X (compareOp .Eq) rEq:=by
 intro pins s σ H x y v u Q I rx ry h
 obtain ⟨hs,q⟩:=h
 cases x with
 | non=>
   cases rx
   cases y with
   | non=>cases ry; exact PySem.EqNone.eq_none_none (bM I q (by simp))
   | bl j=>cases ry; exact PySem.EqNone.eq_none_bool (bM I q (by simp))
   | int j=>obtain ⟨t',rfl⟩:=ry; exact PySem.EqNone.eq_none_int (bM I q (by simp))
   | str j=>obtain ⟨t',rfl⟩:=ry; exact PySem.EqNone.eq_none_str (bM I q (by simp))
   | _=>exact absurd (show false=true from hs) Ao
 | bl i=>
   cases rx
   cases y with
   | non=>cases ry; exact PySem.EqNone.eq_bool_none (bM I q (by simp))
   | bl j=>cases ry; exact eq_bool (bM I q bZ7)
   | str j=>obtain ⟨t',rfl⟩:=ry; exact PySem.EqMixed.eq_bool_str (bM I q (by simp))
   | _=>exact absurd (show false=true from hs) Ao
 | int i=>
   obtain ⟨t,rfl⟩:=rx
   cases y with
   | non=>cases ry; exact PySem.EqNone.eq_int_none (bM I q (by simp))
   | int j=>obtain ⟨t',rfl⟩:=ry; exact eq_int (bM I q aQ6)
   | str j=>obtain ⟨t',rfl⟩:=ry; exact PySem.EqMixed.eq_int_str (bM I q (by simp))
   | _=>exact absurd (show false=true from hs) Ao
 | str i=>
   obtain ⟨t,rfl⟩:=rx
   cases y with
   | non=>cases ry; exact PySem.EqNone.eq_str_none (bM I q (by simp))
   | bl j=>cases ry; exact PySem.EqMixed.eq_str_bool (bM I q (by simp))
   | int j=>obtain ⟨t',rfl⟩:=ry; exact PySem.EqMixed.eq_str_int (bM I q (by simp))
   | str j=>obtain ⟨t',rfl⟩:=ry; exact eq_str (bM I q uF)
   | _=>exact absurd (show false=true from hs) Ao
 | byt i=>
   obtain ⟨t,rfl⟩:=rx
   cases y with
   | byt j=>obtain ⟨t',rfl⟩:=ry; exact PySem.W.eq_bytes (bM I q aQQ)
   | _=>exact absurd (show false=true from hs) Ao
 | _=>cases y <;> exact absurd (show false=true from hs) Ao
theorem dJA:OpR X (compareOp .NotEq) rNe:=by
 intro pins s σ H x y v u Q I rx ry h
 obtain ⟨hs,q⟩:=h
 cases x with
 | non=>
   cases rx
   cases y with
   | non=>cases ry; exact PySem.EqNone.ne_none_none (bM I q (by simp))
   | bl j=>cases ry; exact PySem.EqNone.ne_none_bool (bM I q (by simp))
   | int j=>obtain ⟨t',rfl⟩:=ry; exact PySem.EqNone.ne_none_int (bM I q (by simp))
   | str j=>obtain ⟨t',rfl⟩:=ry; exact PySem.EqNone.ne_none_str (bM I q (by simp))
   | _=>exact absurd (show false=true from hs) Ao
 | bl i=>
   cases rx
   cases y with
   | non=>cases ry; exact PySem.EqNone.ne_bool_none (bM I q (by simp))
   | bl j=>cases ry; exact ne_bool (bM I q (Dq not bZ7))
   | str j=>obtain ⟨t',rfl⟩:=ry; exact PySem.EqMixed.ne_bool_str (bM I q (by simp))
   | _=>exact absurd (show false=true from hs) Ao
 | int i=>
   obtain ⟨t,rfl⟩:=rx
   cases y with
   | non=>cases ry; exact PySem.EqNone.ne_int_none (bM I q (by simp))
   | int j=>obtain ⟨t',rfl⟩:=ry; exact ne_int (bM I q (Dq not aQ6))
   | str j=>obtain ⟨t',rfl⟩:=ry; exact PySem.EqMixed.ne_int_str (bM I q (by simp))
   | _=>exact absurd (show false=true from hs) Ao
 | str i=>
   obtain ⟨t,rfl⟩:=rx
   cases y with
   | non=>cases ry; exact PySem.EqNone.ne_str_none (bM I q (by simp))
   | bl j=>cases ry; exact PySem.EqMixed.ne_str_bool (bM I q (by simp))
   | int j=>obtain ⟨t',rfl⟩:=ry; exact PySem.EqMixed.ne_str_int (bM I q (by simp))
   | str j=>obtain ⟨t',rfl⟩:=ry; exact ne_str (bM I q (Dq not uF))
   | _=>exact absurd (show false=true from hs) Ao
 | byt i=>
   obtain ⟨t,rfl⟩:=rx
   cases y with
   | byt j=>obtain ⟨t',rfl⟩:=ry; exact PySem.W.ne_bytes (bM I q (Dq not aQQ))
   | _=>exact absurd (show false=true from hs) Ao
 | _=>cases y <;> exact absurd (show false=true from hs) Ao
theorem op_lt:OpR X (compareOp .Lt) (rI0 λi j=>.bl (decide (i < j))):=dXS λ_ _ _ _ _ _ _ q=>lt_int q
theorem op_gt:OpR X (compareOp .Gt) (rI0 λi j=>.bl (decide (j < i))):=dXS λ_ _ _ _ _ _ _ q=>gt_int q
theorem op_in_str:OpR X (compareOp .In) (λx y H Q=>∃ i j,x=.str i/\y=.str j/\Q (.bl (!(Builtin.Str.occurrences j i 0 j.length 1).isEmpty)) H):=by
 intro pins s σ H x y v u Q I rx ry h
 obtain ⟨i,j,rfl,rfl,q⟩:=h
 obtain ⟨t,rfl⟩:=rx
 obtain ⟨t',rfl⟩:=ry
 exact in_str (bM I q rfl)
theorem op_isN:OpR X (compareOp .Is) (λx y H Q=>y=.non/\Q (.bl (decide (x=.non))) H):=by
 intro pins s σ H x y v u Q I rx ry h
 obtain ⟨rfl,q⟩:=h
 cases ry
 refine is_none_gen (bM I q ?_)
 cases x <;> first
   | (cases rx; rfl)
   | (obtain ⟨t,rfl⟩:=rx; rfl)
theorem op_notN:OpR X (compareOp .IsNot) (λx y H Q=>y=.non/\Q (.bl (!decide (x=.non))) H):=by
 intro pins s σ H x y v u Q I rx ry h
 obtain ⟨rfl,q⟩:=h
 cases ry
 refine isnot_none_gen (bM I q ?_)
 cases x <;> first
   | (cases rx; rfl)
   | (obtain ⟨t,rfl⟩:=rx; rfl)
theorem OpR.or {f:Value->Value->Sem Value} {r r':R2} (h:OpR X f r) (h':OpR X f r'):OpR X f (λx y H Q=>r x y H Q\/r' x y H Q):=by
 intro pins s σ H x y v u Q I rx ry q
 rcases q with q | q
 · exact h pins s σ H x y v u Q I rx ry q
 · exact h' pins s σ H x y v u Q I rx ry q
theorem bF (b:Expr) {op:CmpOp} (h:op≠.In:=by decide) (h2:op≠.NotIn:=by decide):behindInMarks op b=false:=by
 have e1:(op == CmpOp.In)=false:=by cases op <;> first | rfl | exact absurd rfl h
 have e2:(op == CmpOp.NotIn)=false:=by cases op <;> first | rfl | exact absurd rfl h2
 cases b <;> simp [behindInMarks,e1,e2]
theorem iS {op:CmpOp} {r:R2} (ho:OpR X (compareOp op) r) (ha:PE X a ta) (hb:PE X b tb) (hm:behindInMarks op b=false):PE X (.Compare a [op] [b] pos) (tOp r ta tb):=by
 intro pins s σ H Q I h
 exact wpAny_Compare1 (dQ2 ha hb I h λv u s2 x y H2 I2 rx ry q=>ho pins s2 σ H2 x y v u Q I2 rx ry q) hm
def dX0 (K:PySem.W.Frag) (x:V) (H:Hp) (k:Bool):Prop :=
 match x with
 | .non=>k=false
 | .bl b=>k=b
 | .int i=>k=(i != 0)
 | .str y=>y.length<=sizeLine/\k=((y.length:Int) != 0)
 | .byt y=>y.size<=sizeLine/\k=((y.size:Int) != 0)
 | .ref p=>(∃ xs,SqL K H p xs/\k=!xs.isEmpty)\/(∃ xs,SqT K H p xs/\k=!xs.isEmpty)\/∃ kvs,H p=some (.dK kvs)/\k=!kvs.isEmpty
 | _=>False
theorem zX {κ:Type} {kvs:List (κ × V)} {vs:List (κ × Value)} (r:KV kvs vs):(!vs.isEmpty)=!kvs.isEmpty:=by
 cases r <;> rfl
theorem pE {xs:List V} {its:List Value} (r:Vals xs its):(!its.toArray.isEmpty)=!xs.isEmpty:=by
 cases r <;> simp
theorem lI:(sizeLine:Nat) < 2 ^ 63:=by rw [sizeLine_eq]; decide
theorem vE:dJ6 X (λx H Q=>∃ k,dX0 X.K x H k/\Q k H):=by
 intro pins s σ H x v Q I rx h
 obtain ⟨k,e,q⟩:=h
 have hl:=lI
 have hs:sizeLine=16777216:=sizeLine_eq
 cases x with
 | non=>
   cases rx
   have e':k=false:=e
   subst e'
   exact truthy_none ⟨H,I,q⟩
 | bl b=>
   cases rx
   have e':k=b:=e
   subst e'
   exact Fb ⟨H,I,q⟩
 | int i=>
   obtain ⟨t,rfl⟩:=rx
   have e':k=(i != 0):=e
   subst e'
   exact PySem.P.truthy_int ⟨H,I,q⟩
 | str y=>
   obtain ⟨t,rfl⟩:=rx
   obtain ⟨hy,e'⟩:y.length<=sizeLine/\k=((y.length:Int) != 0):=e
   subst e'
   exact PySem.P.truthy_str (by omega) ⟨H,I.tok _,q⟩
 | byt y=>
   obtain ⟨t,rfl⟩:=rx
   obtain ⟨hy,e'⟩:y.size<=sizeLine/\k=((y.size:Int) != 0):=e
   subst e'
   exact PySem.W.truthy_bytes (by omega) ⟨H,I.tok _,q⟩
 | ref p=>
   cases rx
   have e':(∃ xs,SqL X.K H p xs/\k=!xs.isEmpty)\/(∃ xs,SqT X.K H p xs/\k=!xs.isEmpty)\/∃ kvs,H p=some (.dK kvs)/\k=!kvs.isEmpty:=e
   rcases e' with ⟨xs,hx,e'⟩ | ⟨xs,hx,e'⟩ | ⟨kvs,hx,e'⟩
   · subst e'
     obtain ⟨its,r,pl,hz⟩:=I.list hx
     have hlen:=r.length
     exact wpAny_truthy_list pl.isList (by simp only [List.size_toArray]; omega) ⟨H,I.tok _,by rw [pE r]; exact q⟩
   · subst e'
     obtain ⟨its,r,pl,hz⟩:=I.tuple hx
     have hlen:=r.length
     exact truthy_tuple pl (by simp only [List.size_toArray]; omega) ⟨H,I.tok _,by rw [pE r]; exact q⟩
   · subst e'
     obtain ⟨hz,hS,vs,r,m⟩:kvs.length<=sizeLine/\(p == sysModules)=false/\∃ vs,KV kvs vs/\s.heap.DictOf (bB X.prog X.w) p vs:=I.hok p _ hx
     have hlen:kvs.length=vs.length:=Paired.length r
     exact wpAny_truthy_dict hS m (by omega) ⟨H,I.tok _,by rw [zX r]; exact q⟩
 | _=>exact (show False from e).elim
theorem yZ:OpR X (binaryOp .Add) (λx y H Q=>∃ i j,x=.str i/\y=.str j/\i.length + j.length<=sizeLine/\Q (.str (i ++ j)) H):=by
 intro pins s σ H x y v u Q I rx ry h
 obtain ⟨i,j,rfl,rfl,hz,q⟩:=h
 obtain ⟨t,rfl⟩:=rx
 obtain ⟨t',rfl⟩:=ry
 exact add_str (λt' tk=>⟨.str (i ++ j),H,I.tok _,⟨_,rfl⟩,q⟩) hz
theorem gR {x:V} {us:List Value} (r:Vals [x] us):∃ u,us=[u]/\RelV x u:=by
 cases r with
 | cons r1 r2=>cases r2; exact ⟨_,rfl,r1⟩
theorem rX {x y:V} {us:List Value} (r:Vals [x,y] us):∃ u w',us=[u,w']/\RelV x u/\RelV y w':=by
 cases r with
 | cons r1 r2=>
   cases r2 with
   | cons r3 r4=>cases r4; exact ⟨_,_,rfl,r1,r3⟩
theorem aZG (hc:X.calm=true):CallR X (.builtin "max") (λxs H Q=>∃ i j,xs=[.int i,.int j]/\Q (.int (if j > i then j else i)) H):=by
 intro pins s σ H xs us Q I r h
 obtain ⟨i,j,rfl,q⟩:=h
 obtain ⟨u,w',rfl,⟨t,rfl⟩,⟨t',rfl⟩⟩:=rX r
 refine max_two_ints (I.ok.hd hc) λh' tk k=>⟨_,H,I.kept k,?_,q⟩
 by_cases hj:j > i
 · rw [if_pos hj,if_pos hj]; exact ⟨_,rfl⟩
 · rw [if_neg hj,if_neg hj]; exact ⟨_,rfl⟩
theorem aZT (hc:X.calm=true):CallR X (.builtin "min") (λxs H Q=>∃ i j,xs=[.int i,.int j]/\Q (.int (if j < i then j else i)) H):=by
 intro pins s σ H xs us Q I r h
 obtain ⟨i,j,rfl,q⟩:=h
 obtain ⟨u,w',rfl,⟨t,rfl⟩,⟨t',rfl⟩⟩:=rX r
 refine min_two_ints (I.ok.hd hc) λh' tk k=>⟨_,H,I.kept k,?_,q⟩
 by_cases hj:j < i
 · rw [if_pos hj,if_pos hj]; exact ⟨_,rfl⟩
 · rw [if_neg hj,if_neg hj]; exact ⟨_,rfl⟩
theorem call_int1:CallR X (.type "int") (λxs H Q=>(∃ i,xs=[.int i]/\Q (.int i) H)\/∃ k,xs=[.bl k]/\Q (.int (if k then 1 else 0)) H):=by
 intro pins s σ H xs us Q I r h
 rcases h with ⟨i,rfl,q⟩ | ⟨k,rfl,q⟩
 · obtain ⟨u,rfl,t,rfl⟩:=gR r
   exact call_int_int ⟨.int i,H,I,⟨_,rfl⟩,q⟩
 · obtain ⟨u,rfl,r1⟩:=gR r
   cases r1
   exact call_int_bool ⟨.int (if k then 1 else 0),H,I.tok _,⟨_,rfl⟩,q⟩
def eQO (K:PySem.W.Frag) (x:V) (H:Hp) (n:Nat):Prop :=
 match x with
 | .str y=>y.length<=sizeLine/\n=y.length
 | .byt y=>y.size<=sizeLine/\n=y.size
 | .ref p=>(∃ xs,SqL K H p xs/\n=xs.length)\/∃ xs,SqT K H p xs/\n=xs.length
 | _=>False
theorem call_len:CallR X (.builtin "len") (λxs H Q=>∃ x n,xs=[x]/\eQO X.K x H n/\Q (.int n) H):=by
 intro pins s σ H xs us Q I r h
 obtain ⟨x,n,rfl,e,q⟩:=h
 obtain ⟨u,rfl,rx⟩:=gR r
 have hl:=lI
 have hs:sizeLine=16777216:=sizeLine_eq
 cases x with
 | str y=>
   obtain ⟨t,rfl⟩:=rx
   obtain ⟨hy,e'⟩:y.length<=sizeLine/\n=y.length:=e
   subst e'
   exact len_str (by omega) ⟨.int _,H,I.tok _,⟨_,rfl⟩,q⟩
 | byt y=>
   obtain ⟨t,rfl⟩:=rx
   obtain ⟨hy,e'⟩:y.size<=sizeLine/\n=y.size:=e
   subst e'
   exact PySem.W.len_bytes (by omega) ⟨.int _,H,I.tok _,⟨_,rfl⟩,q⟩
 | ref p=>
   cases rx
   have e':(∃ xs,SqL X.K H p xs/\n=xs.length)\/∃ xs,SqT X.K H p xs/\n=xs.length:=e
   rcases e' with ⟨xs,hx,e'⟩ | ⟨xs,hx,e'⟩
   · subst e'
     obtain ⟨its,r',pl,hz⟩:=I.list hx
     have hlen:=r'.length
     exact Calls.call_len_list pl.isList (by simp only [List.size_toArray]; omega) ⟨.int xs.length,H,I.tok _,⟨_,by simp only [List.size_toArray]; rw [hlen]⟩,q⟩
   · subst e'
     obtain ⟨its,r',pl,hz⟩:=I.tuple hx
     have hlen:=r'.length
     exact len_tuple pl (by simp only [List.size_toArray]; omega) ⟨.int xs.length,H,I.tok _,⟨_,by simp only [List.size_toArray]; rw [hlen]⟩,q⟩
 | _=>exact (show False from e).elim
end
end L2
namespace L2
open PySem PySem.Spec PyProof.Rows
structure ObjM (h:Heap) (x dx C:Addr) (mA:Str->Option Value):Prop where
 obj:h.get? x=some (PySem.W.instObj C dx)
 ns:h.Ns1 dx mA
 ne:dx≠x
theorem sY {h:Heap} {dx:Addr} {mA:Str->Option Value} (n:h.Ns1 dx mA):∃ od,h.get? dx=some od/\∀ name,PySem.W.lookIn name od=some (mA name):=by
 obtain ⟨o,es,ep,ho,hd,hk,_,hm⟩:=n
 refine ⟨o,ho,λname=>?_⟩
 have e:=hm name
 unfold nsFind findBy at e
 rw [<-Array.find?_toList] at e
 unfold PySem.W.lookIn
 rw [hd]
 dsimp only
 split
 · rename_i y q
   rw [q] at e
   exact Dq some e
 · rename_i q
   rw [q] at e
   have a:es.toList.any (·.refKey)=false:=by
     rw [List.any_eq_false]
     intro y hy
     obtain ⟨z,t,hkey⟩:=hk y (Array.mem_toList_iff.mp hy)
     simp [DictEntry.refKey,hkey]
   have a':¬ es.toList.any (·.refKey)=true:=by rw [a]; exact Ao
   rw [if_neg a']
   exact Dq some e
theorem ObjM.look {h:Heap} {x dx C:Addr} {mA:Str->Option Value} (I:ObjM h x dx C mA):∃ od,PySem.W.InstAt h x (PySem.W.instObj C dx) C (some od)/\∀ name,PySem.W.lookIn name od=some (mA name) :=
 let ⟨od,ho,hl⟩:=sY I.ns
 ⟨od,⟨I.obj,rfl,rfl,ho⟩,hl⟩
section
variable {prog:Program} {w:World} {A:Around} {E:Value->Shared->Prop} {s:Shared} {K:PySem.W.Frag} {x dx C f:Addr} {mA:Str->Option Value} {name:Str} {v:Value}
end
theorem RelO.some_of {v:V} {o:Option Value} (r:RelO (some v) o):∃ u,o=some u/\RelV v u:=by
 cases o with
 | none=>exact (show False from r).elim
 | some u=>exact ⟨u,rfl,r⟩
theorem RelO.none_of {o:Option Value} (r:RelO none o):o=none:=by
 cases o with
 | none=>rfl
 | some u=>exact (show False from r).elim
section
variable {P:Program} {w:World} {H H':Hp} {h h':Heap} {a C dx:Addr} {fs fs':List (Str × V)}
theorem bJK (hok:HOk P w H h) (e:H a=some (.ins C dx fs)):∃ mA,ObjM h a dx C mA/\(∀ f,RelO (fs.lookup f) (mA f))/\PySem.Within mA (fs.map (·.1))/\fs.length<=1000/\H dx=some (.own a):=by
 obtain ⟨d,z,ne,ob,mA,n,r,q⟩:=(show ObjOk P w H h a (.ins C dx fs) from hok a _ e)
 exact ⟨mA,⟨ob,n,ne⟩,r,q,z,d⟩
end
structure Cls (K:PySem.W.Frag) (C:Addr):Prop where
 pg:PySem.W.plainGet K C Str.empty=true
 hd:PySem.W.hasDictIn K C=true
 po:PySem.W.plainOver K C=true
 sa:PySem.W.findIn K (.ref C) "__setattr__"=some (some (.builtin "object.__setattr__"))
theorem Cls.get {K:PySem.W.Frag} {C:Addr} (c:Cls K C) (f:Str):PySem.W.plainGet K C f=true:=c.pg
section
variable {X:Cx} {pins:List (Addr × Obj)} {σ:St} {H:Hp} {s:Shared} {a C dx:Addr} {fs:List (Str × V)} {f:Str} {v:V} {A:Around} {E:Value->Shared->Prop}
theorem Inv.made (I:Inv X pins σ H s):Inv X pins σ (upd (upd H s.heap.objs.size (.own (s.heap.objs.size + 1))) (s.heap.objs.size + 1) (.ins C s.heap.objs.size []))
   { s with heap:=(s.heap.push PySem.W.emptyDict).push (PySem.W.instObj C s.heap.objs.size) }:=by
 have e1:(s.heap.push PySem.W.emptyDict).get? s.heap.objs.size=some PySem.W.emptyDict:=Ax s.heap rfl
 have e2:((s.heap.push PySem.W.emptyDict).push (PySem.W.instObj C s.heap.objs.size)).get? (s.heap.objs.size + 1)=some (PySem.W.instObj C s.heap.objs.size):=by
   have:=Ax (s.heap.push PySem.W.emptyDict) (o:=PySem.W.instObj C s.heap.objs.size) rfl
   rwa [Heap.size_push] at this
 have e3:(s.heap.push PySem.W.emptyDict).Ns s.heap.objs.size (λ_=>none):=⟨PySem.W.emptyDict,#[],_,e1,rfl,(λe he=>absurd he (by simp)),λ_=>rfl⟩
 have I1:=I.laid (a:=s.heap.objs.size) (o:=.own (s.heap.objs.size + 1)) (h':=s.heap.push PySem.W.emptyDict) (t':=s.toks) (λb u q=>Af _ q) (Ag _) ⟨_,e1⟩
 refine I1.laid (a:=s.heap.objs.size + 1) (o:=.ins C s.heap.objs.size []) (t':=s.toks) (λb u q=>Af _ q) (Nat.le_of_eq (Heap.size_push _ _)) ?_
 have ne:s.heap.objs.size≠s.heap.objs.size + 1:=Bk (Nat.lt_succ_self _)
 refine ⟨by rw [aK ne,aE],Ck _,ne,e2,λ_=>none,(Heap.Ns1.of_empty e3).at λo q=>Af _ q,λ_=>True.intro,λy hy=>absurd rfl hy⟩
theorem bJZ {prog:Program} {w:World} {env:Env} {e:Expr} {f:Str} {pos:Pos} {s:Shared} {Q:Value->Shared->Prop} (hb:attributeBase e f env (eval e env)=eval e env)
   (h:wpAny (model prog w) A (eval e env) (λo s₁=>wpAny (model prog w) A (getAttr o f true) Q E s₁) E s):wpAny (model prog w) A (eval (.Attribute e f pos) env) Q E s :=
 Attribute_any_ h (by rw [arm_eval_Attribute,hb])
end
section
variable {X:Cx} {o e value:Expr} {f:Str} {pos pos' tpos:Pos} {ta tv:TE}
end
section
variable {X:Cx} {pins:List (Addr × Obj)} {σ:St} {H:Hp} {s:Shared} {A:Around} {E:Value->Shared->Prop} {Q:Value->Shared->Prop} {c:Value} {b:Bool}
inductive TyOf (K:PySem.W.Frag) (H:Hp):V->Value->Prop where
 | non:TyOf K H .non (.type "NoneType")
 | bl (x:Bool):TyOf K H (.bl x) (.type "bool")
 | int (i:Int):TyOf K H (.int i) (.type "int")
 | str (x:Str):TyOf K H (.str x) (.type "str")
 | flt (x:UInt64):TyOf K H (.flt x) (.type "float")
 | lst {a:Addr} {xs:List V} (e:H a=some (.lst xs)):TyOf K H (.ref a) (.type "list")
 | frz {a:Addr} {o:Obj} {xs:List V} (e:H a=some (.frz o (.lst xs))):TyOf K H (.ref a) (.type "list")
 | tup {a:Addr} {xs:List V} (e:H a=some (.tup xs)):TyOf K H (.ref a) (.type "tuple")
 | dK {a:Addr} {kvs:List (Key × V)} (e:H a=some (.dK kvs)):TyOf K H (.ref a) (.type "dict")
 | dT {a:Addr} {kvs:List (List Key × V)} (e:H a=some (.dT kvs)):TyOf K H (.ref a) (.type "dict")
 | ins {a C dx:Addr} {fs:List (Str × V)} (e:H a=some (.ins C dx fs)) (cl:Cls K C) (ha:PySem.W.findIn K (.ref C) "__class__"=some (some (.builtin "object.__class__")))
     (hn:PySem.W.specialIn K (.builtin "object.__class__") "__get__"=some (some (.builtin "getset_descriptor.__get__"))) (htk:PySem.W.takesIn K (.builtin "object.__class__")=some true)
     (hm:PySem.W.mroIn K C (.type "object")=some true):TyOf K H (.ref a) (.ref C)
theorem aZI {x:V} {u t:Value} (I:Inv X pins σ H s) (rx:RelV x u) (ty:TyOf X.K H x t) (e:PySem.W.kitOne X.K t c=some b) (h:∀ tk,Q (.bool b) { s with toks:=tk }) :
   wpAny (model X.prog X.w) A (call (.builtin "isinstance") [u,c]) Q E s:=by
 cases ty with
 | non=>cases (show u=Value.none from rx); exact Cy PySem.W.kitx_none I.kIn True.intro e (λz=>nomatch z) h
 | bl y=>cases (show u=Value.bool y from rx); exact Cy PySem.W.kitx_bool I.kIn True.intro e (λz=>nomatch z) h
 | int i=>obtain ⟨t,q⟩:=(show ∃ t,u=Value.int i t from rx); cases q; exact Cy PySem.W.kitx_int I.kIn True.intro e (λz=>nomatch z) h
 | str y=>obtain ⟨t,q⟩:=(show ∃ t,u=Value.str y t from rx); cases q; exact Cy PySem.W.kitx_str I.kIn True.intro e (λz=>nomatch z) h
 | flt y=>obtain ⟨t,q⟩:=(show ∃ t,u=Value.float y t from rx); cases q; exact Cy PySem.W.kitx_float I.kIn True.intro e (λz=>nomatch z) h
 | @lst a xs ea=>
   cases (show u=Value.ref a from rx)
   obtain ⟨_,_,n,_,h1⟩:=(show ObjOk X.prog X.w H s.heap a (.lst xs) from I.hok a _ ea)
   exact Cy PySem.W.kitx_list I.kIn ⟨_,h1,rfl⟩ e (λz=>nomatch z) h
 | @frz a ob xs ea=>
   cases (show u=Value.ref a from rx)
   obtain ⟨_,_,_,n,_,h1⟩:=(show ObjOk X.prog X.w H s.heap a (.frz ob (.lst xs)) from I.hok a _ ea)
   exact Cy PySem.W.kitx_list I.kIn ⟨_,h1,rfl⟩ e (λz=>nomatch z) h
 | @tup a xs ea=>
   cases (show u=Value.ref a from rx)
   obtain ⟨_,_,_,p⟩:=(show ObjOk X.prog X.w H s.heap a (.tup xs) from I.hok a _ ea)
   obtain ⟨o,h1,h2,_⟩:=p
   exact Cy PySem.W.kitx_tuple I.kIn ⟨o,h1,h2⟩ e (λz=>nomatch z) h
 | @dK a kvs ea=>
   cases (show u=Value.ref a from rx)
   obtain ⟨_,_,vs,_,p⟩:=(show ObjOk X.prog X.w H s.heap a (.dK kvs) from I.hok a _ ea)
   obtain ⟨o,es,ep,h1,h2,_⟩:=p
   exact Cy PySem.W.kitx_dict I.kIn ⟨o,h1,h2.1⟩ e (λz=>nomatch z) h
 | @dT a kvs ea=>
   cases (show u=Value.ref a from rx)
   obtain ⟨_,_,xs,_,o,es,ep,h1,h2,_⟩:=(show ObjOk X.prog X.w H s.heap a (.dT kvs) from I.hok a _ ea)
   exact Cy PySem.W.kitx_dict I.kIn ⟨o,h1,h2.1⟩ e (λz=>nomatch z) h
 | @ins a C dx fs ea cl ha hn htk hm=>
   cases (show u=Value.ref a from rx)
   obtain ⟨mA,O,_⟩:=bJK I.hok ea
   obtain ⟨od,J,_⟩:=O.look
   exact Cy (PySem.W.kitx_own (cl.get _) cl.hd ha hn htk hm) I.kIn J e (λz=>nomatch z) h
end
end L2
namespace L2
open PySem PySem.Spec PyProof.Rows
structure Room (k:Nat) (A:Around):Prop where
 hd:A.handled=none
 dp:A.depth + 3 * k + 5 < recursionLimit
 un:A.units + 16 * k + 200 < cLine
theorem Room.mono {j k:Nat} {A:Around} (r:Room k A) (h:j<=k):Room j A:=⟨r.hd,by have:=r.dp; omega,by have:=r.un; omega⟩
theorem Room.deeper {k:Nat} {A:Around} (r:Room (k + 1) A) (env:Env):Room k (A.deeper env) :=
 ⟨r.hd,by have:=r.dp; show A.depth + 1 + 3 * k + 5 < _; omega,by have:=r.un; show A.units + 3 + 16 * k + 200 < _; omega⟩
theorem Room.in1 {k:Nat} {A:Around} (r:Room (k + 1) A):Room k A.in1 :=
 ⟨r.hd,by have:=r.dp; show A.depth + 3 * k + 5 < _; omega,by have:=r.un; show A.units + 1 + 16 * k + 200 < _; omega⟩
theorem aQA {A:Around} {C:Addr} {us:List Value} {kw:List (Str × Value)}:(A.under (.builtin "type.__call__" ⟨.ref C :: us,kw⟩)).depth=A.depth + 1:=by
 first | rfl | simp [Around.under,Code.weight,Code.isCreation,Code.isGuard,Code.isCaller,Code.frames,Code.isFrame,guardIds]
theorem zM {A:Around} {C:Addr} {us:List Value} {kw:List (Str × Value)}:(A.under (.builtin "type.__call__" ⟨.ref C :: us,kw⟩)).units=A.units + 1:=by
 first | rfl | simp [Around.under,Code.cUnits,Code.frames,Code.isFrame]
theorem Room.make {k:Nat} {A:Around} (r:Room (k + 1) A) (C:Addr) (us:List Value) (kw:List (Str × Value)):Room k (A.under (.builtin "type.__call__" ⟨.ref C :: us,kw⟩)) :=
 ⟨r.hd,by have:=r.dp; rw [aQA]; omega,by have:=r.un; rw [zM]; omega⟩
theorem Room.depth {k:Nat} {A:Around} (r:Room k A):A.depth < recursionLimit:=by have:=r.dp; omega
theorem Room.units {k:Nat} {A:Around} (r:Room k A):A.units + 64 < cLine:=by have:=r.un; omega
theorem Room.units0 {k:Nat} {A:Around} (r:Room k A):A.units < cLine:=by have:=r.un; omega
def yU:TA:=λ_ H Q=>Q [] H
def aQX (ta:TE) (tr:TA):TA:=λσ H Q=>ta σ H λx H1=>tr σ H1 λxs H2=>Q (x :: xs) H2
section
variable {X:Cx} {e:Expr} {es:List Expr} {te:TE} {t:TA} {pos:Pos}
theorem aB:PA X [] yU:=λ_ _ _ _ H Q I h=>Calls.spliced_nil ⟨[],H,I,.nil,h⟩
theorem aA (ha:PE X e te) (hr:PA X es t) (hs:starEach (e :: es) X.env=(false,eval e X.env) :: starEach es X.env:=by rfl):PA X (e :: es) (aQX te t):=by
 intro pos pins s σ H Q I h
 rw [hs]
 show wpAny _ _ (spliced ((false,eval e X.env) :: backTo pos (starEach es X.env))) _ _ s
 refine Calls.spliced_cons (thn (ha pins s σ H _ I h) λu s1 ⟨x,H1,I1,r1,q1⟩=>?_)
 exact thn (hr pos pins s1 σ H1 _ I1 q1) λus s2 ⟨xs,H2,I2,r2,q2⟩=>⟨x :: xs,H2,I2,.cons r1 r2,q2⟩
def dZC (t:TA):TE:=λσ H Q=>t σ H λxs H1=>xs.length<=sizeLine/\∀ p,H1 p=none->Q (.ref p) (upd H1 p (.tup xs))
def bXT (t:TA):TE:=λσ H Q=>t σ H λxs H1=>xs.length<=sizeLine/\∀ p,H1 p=none->Q (.ref p) (upd H1 p (.lst xs))
theorem oW {x1} (h:PA X es t):PE X (.Tuple es x1 pos) (dZC t):=by
 intro pins s σ H Q I hq
 refine wpAny_Tuple_spliced (thn (h pos pins s σ H _ I hq) λus s1 ⟨xs,H1,I1,r,z,q⟩=>⟨by rw [<-r.length]; exact z,?_⟩)
 have hf:H1 s1.heap.objs.size=none:=I1.hok.fresh (Ag _)
 refine ⟨.ref s1.heap.objs.size,upd H1 s1.heap.objs.size (.tup xs),I1.laid (t':=s1.toks) (λb u e=>Af _ e) (Ag _) ?_,rfl,q _ hf⟩
 exact ⟨z,us,r,⟨_,Ax _ rfl,rfl,_,rfl⟩⟩
theorem bP (h:PA X es t):PE X (.List es pos) (bXT t):=by
 intro pins s σ H Q I hq
 refine wpAny_List_spliced (thn (h pos pins s σ H _ I hq) λus s1 ⟨xs,H1,I1,r,z,q⟩=>⟨by rw [<-r.length]; exact z,?_⟩)
 have hf:H1 s1.heap.objs.size=none:=I1.hok.fresh (Ag _)
 refine ⟨.ref s1.heap.objs.size,upd H1 s1.heap.objs.size (.lst xs),I1.laid (t':=s1.toks) (λb u e=>Af _ e) (Ag _) ?_,rfl,q _ hf⟩
 exact ⟨z,us,0,r,Ax _ rfl⟩
end
abbrev Sp:=List V->Hp->VK->XK->Prop
abbrev CXT:=List Env->Hp->Shared->XK->Value->Shared->Prop
structure Env0 (P:Program) (w:World) (K:PySem.W.Frag) (mg:Str->Option Value) (base:Heap) (A:Around) (outer:List Env) (s:Shared) (H:Hp):Prop where
 frames:A.frames=some outer
 mod:Mod K mg base
 bs:∀ b o,base.get? b=some o->s.heap.get? b=some o/\H b=none
 bsz:base.objs.size<=s.heap.objs.size
 funs:s.heap.FunFrames base outer
 frf:∀ b∈frs outer,H b=none
 hok:HOk P w H s.heap
 bare:AllBare s.gens
def CE (outer:List Env) (P:Program) (w:World) (H:Hp) (s:Shared) (Q:VK) (u:Value) (s':Shared):Prop :=
 ∃ v H',s'.os=s.os/\AllBare s'.gens/\Un (frs outer) [] H H' s.heap s'.heap/\HOk P w H' s'.heap/\RelV v u/\Q v H'
def CR (CX:CXT) (outer:List Env) (P:Program) (w:World) (H:Hp) (s:Shared) (Q:VK) (E:XK) (r:Result) (s':Shared):Prop :=
 match r with
 | .ok (.ret u)=>CE outer P w H s Q u s'
 | .ok _=>False
 | .error e=>CX outer H s E e s'
structure FnOk (P:Program) (w:World) (K:PySem.W.Frag) (mg:Str->Option Value) (base:Heap) (CX:CXT) (k:Nat) (f:Addr) (fd:FuncData) (ps:List Str) (sp:Sp):Prop where
 len:∀ vs H Q E,sp vs H Q E->vs.length=ps.length
 run:∀ (A:Around) (outer:List Env) (s:Shared) (H:Hp) (args:Args) (us:List Value) (vs:List V) (Q:VK) (E:XK),Room k A->Env0 P w K mg base A outer s H->BindsTo s fd args (ps.zip us)->Vals vs us->sp vs H Q E->
   codeAny (model P w) A (.call (.ref f) args) (CR CX outer P w H s Q E) s
theorem FnOk.mono {P:Program} {w:World} {K:PySem.W.Frag} {mg:Str->Option Value} {base:Heap} {CX:CXT} {j k:Nat} {f:Addr} {fd:FuncData} {ps:List Str} {sp:Sp} (F:FnOk P w K mg base CX j f fd ps sp) (h:j<=k) :
   FnOk P w K mg base CX k f fd ps sp:=⟨F.len,λA outer s H args us vs Q E hr=>F.run A outer s H args us vs Q E (hr.mono h)⟩
theorem FnOk.imp {P:Program} {w:World} {K:PySem.W.Frag} {mg:Str->Option Value} {base:Heap} {CX:CXT} {k:Nat} {f:Addr} {fd:FuncData} {ps:List Str} {sp sp':Sp} (F:FnOk P w K mg base CX k f fd ps sp)
   (h:∀ vs H Q E,sp' vs H Q E->sp vs H Q E):FnOk P w K mg base CX k f fd ps sp' :=
 ⟨λvs H Q E q=>F.len vs H Q E (h _ _ _ _ q),λA outer s H args us vs Q E hr he hb hv hs=>F.run A outer s H args us vs Q E hr he hb hv (h _ _ _ _ hs)⟩
theorem Env0.make {P:Program} {w:World} {K:PySem.W.Frag} {mg:Str->Option Value} {base:Heap} {A:Around} {outer:List Env} {s:Shared} {H:Hp} (e:Env0 P w K mg base A outer s H) (C:Addr) (us:List Value) (kw:List (Str × Value)) :
   Env0 P w K mg base (A.under (.builtin "type.__call__" ⟨.ref C :: us,kw⟩)) outer s H:=⟨by first | exact e.frames | (simpa [Around.under,Code.envs,Code.isFrame,pushEnvs] using e.frames),e.mod,e.bs,e.bsz,e.funs,e.frf,e.hok,e.bare⟩
theorem Env0.in1 {P:Program} {w:World} {K:PySem.W.Frag} {mg:Str->Option Value} {base:Heap} {A:Around} {outer:List Env} {s:Shared} {H:Hp} (e:Env0 P w K mg base A outer s H) :
   Env0 P w K mg base A.in1 outer s H:=⟨e.frames,e.mod,e.bs,e.bsz,e.funs,e.frf,e.hok,e.bare⟩
section
variable {X:Cx} {pins:List (Addr × Obj)} {σ:St} {H:Hp} {s s':Shared}
theorem Inv.env0 (I:Inv X pins σ H s):Env0 X.prog X.w X.K X.mg X.base X.A X.stack s H :=
 ⟨I.ok.frames,I.ok.mod,I.bs,Bf I.ok.bsz I.sz,I.stack,I.stkFree,I.hok,I.bare⟩
theorem Inv.after {Q:VK} {u:Value} (I:Inv X pins σ H s) (h:CE X.stack X.prog X.w H s Q u s'):EP X pins σ Q u s':=by
 obtain ⟨v,H',os,bare,un,hok,r,q⟩:=h
 obtain ⟨hh,g,d,t,os'⟩:=s'
 obtain rfl:os'=s.os:=os
 exact ⟨v,H',I.call (h':=hh) (g':=g) (d':=d) (t':=t) (ch:=[]) un hok bare (λb z=>absurd z (by simp)),r,q⟩
end
def aXH (sp:Sp) (dvs:List V) (E:XK) (t:TA):TE:=λσ H Q=>t σ H λvs H1=>sp (vs ++ dvs) H1 Q E
def Binds (K:PySem.W.Frag) (fd:FuncData) (ps:List Str) (ds:List Value):Prop :=
 ∀ (s:Shared) (us:List Value),K.In s.heap->(us ++ ds).length=ps.length->BindsTo s fd ⟨us,[]⟩ (ps.zip (us ++ ds))
theorem Binds.all {K:PySem.W.Frag} {fd:FuncData} {ps:List Str} (h:∀ us:List Value,us.length=ps.length->bindArgs fd ⟨us,[]⟩=pure (ps.zip us)):Binds K fd ps []:=λs us _ hl=>by
 rw [Bm] at hl ⊢
 exact .of_eq (h us hl)
def nF (CX:CXT) (X:Cx) (E:XK):Prop:=∀ (pins:List (Addr × Obj)) (σ:St) (H:Hp) (s:Shared) (e:Value) (s':Shared),Inv X pins σ H s->CX X.stack H s E e s'->X.xe e s'
section
variable {X:Cx} {CX:CXT} {k:Nat} {f C:Addr} {fd:FuncData} {ps:List Str} {sp:Sp} {dvs:List V} {ds:List Value} {E:XK} {x m:Str} {p pos apos:Pos} {e o:Expr} {es:List Expr} {ta:TE} {t:TA}
theorem dQG {pins:List (Addr × Obj)} {σ:St} {H:Hp} {s:Shared} {Q:VK} {us:List Value} {vs:List V} (F:FnOk X.prog X.w X.K X.mg X.base CX k f fd ps sp) (hr:Room k X.A) (hb:Binds X.K fd ps ds) (hd:Vals dvs ds) (hx:nF CX X E)
   (I:Inv X pins σ H s) (r:Vals vs us) (h:sp (vs ++ dvs) H Q E):wpAny (model X.prog X.w) X.A (call (.ref f) us) (EP X pins σ Q) X.xe s:=by
 have r2:Vals (vs ++ dvs) (us ++ ds):=r.append hd
 have hl:(us ++ ds).length=ps.length:=by rw [<-r2.length]; exact F.len _ _ _ _ h
 refine Ge (Fj (F.run X.A X.stack s H ⟨us,[]⟩ (us ++ ds) (vs ++ dvs) Q E hr I.env0 (hb s us I.kIn hl) r2 h) λr s' hq=>?_)
 cases r with
 | error e=>exact hx pins σ H s e s' I hq
 | ok fl=>
   cases fl with
   | ret u=>exact I.after hq
   | next=>exact False.elim hq
   | brk=>exact False.elim hq
   | cont=>exact False.elim hq
theorem aQL (F:FnOk X.prog X.w X.K X.mg X.base CX k f fd ps sp) (hr:Room k X.A) (hg:Gl X x) (hm:X.mg x=some (.ref f)) (hk:PySem.W.keepIn X.K (.ref f)=true) (hb:Binds X.K fd ps ds) (hd:Vals dvs ds) (hx:nF CX X E)
   (ha:PA X (e :: es) t) (hdb:(x == ("__debug__" : Str))=false:=by decide) (he:starEach (e :: es) X.env=(false,eval e X.env) :: starEach es X.env:=by rfl) (hpl:(backTo pos (starEach es X.env)).any (·.1)=false:=by rfl) :
   PE X (.Call (.Name x p) (e :: es) [] pos) (aXH sp dvs E t):=by
 intro pins s σ H Q I h
 refine Ea (gX I hg hm ?_ hdb)
 refine PySem.W.callWith_K (h₀:=X.base) I.ok.mod.kin hk (thn (ha pos pins s σ H _ I h) λus s1 ⟨vs,H1,I1,r,q⟩=>⟨I1.kIn,?_⟩) he hpl
 exact dQG F hr hb hd hx I1 r q
end
def PK (X:Cx) (kws:List Keyword) (t:TA):Prop :=
 ∀ (pos:Pos) (pins:List (Addr × Obj)) (s:Shared) (σ:St) (H:Hp) (Q:List V->Hp->Prop),Inv X pins σ H s->t σ H Q->wpAny (model X.prog X.w) X.A (evalAll ((backToKw pos (keywordEach kws X.env)).map (·.2))) (AP X pins σ Q) X.xe s
section
variable {X:Cx} {CX:CXT} {k:Nat} {f C:Addr} {fd:FuncData} {ps ks:List Str} {sp:Sp} {E:XK} {x m:Str} {p pos apos kpos:Pos} {e o:Expr} {es:List Expr} {kws:List Keyword} {te ta:TE} {t tk:TA} {nm:Option Str}
theorem cJB:PK X [] yU:=λ_ _ _ _ H Q I h=>wpAny_evalAll_nil ⟨[],H,I,.nil,h⟩
theorem cQC (ha:PE X e te) (hr:PK X kws t):PK X (⟨nm,e,kpos⟩ :: kws) (aQX te t):=by
 intro pos pins s σ H Q I h
 show wpAny _ _ (evalAll ((do let v <-eval e X.env; standAt pos; pure v) :: (backToKw pos (keywordEach kws X.env)).map (·.2))) _ _ s
 refine wpAny_evalAll_cons (Ae (thn (ha pins s σ H _ I h) λu s1 ⟨x,H1,I1,r1,q1⟩=>Ae (Ez (An ?_))))
 exact thn (hr pos pins s1 σ H1 _ I1 q1) λus s2 ⟨xs,H2,I2,r2,q2⟩=>⟨x :: xs,H2,I2,.cons r1 r2,q2⟩
variable {g:List Value->List Value->List Value} {gV:List V->List V->List V}
end
structure FnScope (N P:List Str) (sc:Scope):Prop where
 kind:sc.kind=.function
 co:sc.isCoroutine=false
 gen:sc.isGenerator=false
 nd:N.Nodup
 pre:N.take P.length=P
 par:∀ x∈P,sc.names.lookup x=some .local\/sc.names.lookup x=some .cell
 nofree:∀ y∈sc.names,y.2≠.free
theorem sT {kindOf:Str->Option NameKind} {x:Str}:∀ {binds:List (Str × Value)} {m:Str->Option Value},(∀ v,(x,v) ∉ binds)->bindL kindOf binds m x=m x
 | [],_,_=>rfl
 | (n,v) :: r,m,h=>by
   unfold bindL
   rw [sT λw hw=>h w (Am _ hw)]
   split
   · have:x≠n:=by rintro rfl; exact h v Al
     simp [this]
   · rfl
theorem rM {kindOf:Str->Option NameKind} {x:Str}:∀ {binds:List (Str × Value)} {m:Str->Option Value},(∀ v,(x,v) ∉ binds)->bindC kindOf binds m x=m x
 | [],_,_=>rfl
 | (n,v) :: r,m,h=>by
   unfold bindC
   rw [rM λw hw=>h w (Am _ hw)]
   split
   · rfl
   · have:x≠n:=by rintro rfl; exact h v Al
     simp [this]
theorem sK {kindOf:Str->Option NameKind} {x:Str} {v:Value}:∀ {P:List Str} {vs:List Value} {i:Nat} {m:Str->Option Value},P.Nodup->P[i]?=some x->vs[i]?=some v->kindOf x=some .local->
   bindL kindOf (P.zip vs) m x=some v
 | [],_,_,_,_,h,_,_=>by simp at h
 | _ :: _,[],_,_,_,_,h,_=>by simp at h
 | p :: P,w :: vs,0,m,nd,h1,h2,hk=>by
   simp at h1 h2; subst h1; subst h2
   show bindL kindOf ((p,w) :: P.zip vs) m p=_
   unfold bindL
   rw [sT λv hv=>(Bu.mp nd).1 (Dw hv).1,if_pos hk]
   simp
 | p :: P,w :: vs,i + 1,m,nd,h1,h2,hk=>by
   show bindL kindOf ((p,w) :: P.zip vs) m x=_
   unfold bindL
   exact sK (i:=i) (List.nodup_cons.mp nd).2 (by simpa using h1) (by simpa using h2) hk
theorem rN {kindOf:Str->Option NameKind} {x:Str} {v:Value}:∀ {P:List Str} {vs:List Value} {i:Nat} {m:Str->Option Value},P.Nodup->P[i]?=some x->vs[i]?=some v->kindOf x≠some .local->
   bindC kindOf (P.zip vs) m x=some v
 | [],_,_,_,_,h,_,_=>by simp at h
 | _ :: _,[],_,_,_,_,h,_=>by simp at h
 | p :: P,w :: vs,0,m,nd,h1,h2,hk=>by
   simp at h1 h2; subst h1; subst h2
   show bindC kindOf ((p,w) :: P.zip vs) m p=_
   unfold bindC
   rw [rM λv hv=>(Bu.mp nd).1 (Dw hv).1,if_neg hk]
   simp
 | p :: P,w :: vs,i + 1,m,nd,h1,h2,hk=>by
   show bindC kindOf ((p,w) :: P.zip vs) m x=_
   unfold bindC
   exact rN (i:=i) (List.nodup_cons.mp nd).2 (by simpa using h1) (by simpa using h2) hk
def lU (N:List Str) (vs:List V):St:=vs.map some ++ List.replicate (N.length - vs.length) none
def gW (CX:CXT) (P:Program) (w:World) (K:PySem.W.Frag) (mg:Str->Option Value) (base:Heap) (N:List Str) (qual:Str) (scope:Scope) (f:Addr) (cd:Value) (A:Around) (outer:List Env) (s:Shared) (H:Hp) (E:XK):Cx where
 prog:=P
 w:=w
 K:=K
 mg:=mg
 base:=base
 A:=A.deeper (envOfC qual scope s.heap.objs.size f cd)
 N:=N
 s₀:=s
 H₀:=H
 env:=envOfC qual scope s.heap.objs.size f cd
 outer:=outer
 stack:=envOfC qual scope s.heap.objs.size f cd :: outer
 ex:=[]
 calm:=true
 fn:=λ_=>true
 pn:=[]
 xe:=λe s'=>wpAny (model P w) (A.deeper (envOfC qual scope s.heap.objs.size f cd)) (leaving (envOfC qual scope s.heap.objs.size f cd) e) (λ_ s''=>CX outer H s E e s'') (λe' s''=>CX outer H s E e' s'') s'
theorem cH {sc:Scope} {n:Nat} {x:Str} (h:sc.names.lookup x=some .cell):∃ c,(cellsFrom n sc.names []).lookup x=some c:=by
 have q:=PySem.W.cellsFrom_some sc.names n [] (.inl h)
 exact Ek.mp q
theorem aJA {CX:CXT} {P:Program} {w:World} {K:PySem.W.Frag} {mg:Str->Option Value} {base:Heap} {N ps:List Str} {qual:Str} {scope:Scope} {f:Addr} {cd:Value} {A:Around} {outer:List Env} {s s1:Shared} {H:Hp} {E:XK} {us:List Value} {vs:List V}
   (S:FnScope N ps scope) (hd:A.handled=none) (e0:Env0 P w K mg base A outer s H) (hl:vs.length=ps.length) (r:Vals vs us)
   (x:InCallC s s.heap.objs.size (bindL (envOfC qual scope s.heap.objs.size f cd).kindOf (ps.zip us) λ_=>none) (cellsFrom (s.heap.objs.size + 1) scope.names []) (bindC (envOfC qual scope s.heap.objs.size f cd).kindOf (ps.zip us) λ_=>none) s1) :
   Inv (gW CX P w K mg base N qual scope f cd A outer s H E) [] (lU N vs) H s1:=by
 have hpl:ps.length<=N.length:=by have:=Dq List.length S.pre; rw [Bz] at this; omega
 obtain ⟨h1,tk,rfl,hk⟩:=x.done
 have noA:∀ b:Addr,b ∉ (gW CX P w K mg base N qual scope f cd A outer s H E).ex:=λb z=>absurd (show b ∈ ([]:List Addr) from z) (by simp)
 refine ⟨⟨e0.mod,S.kind,rfl,rfl,Ag _,λy z c h1 h2=>?_,λy hy=>?_,λy c _ h=>?_,λ_=>hd,Around.frames_deeper e0.frames,.inr ⟨rfl,rfl⟩,λb z=>absurd z (noA b),e0.bs,e0.bsz,λb _ _=>noA b,λb z=>absurd z (noA b),e0.funs,e0.frf⟩,
   rfl,e0.bare,Un.kept hk,⟨_,x.toInCall.ns,λi y v h1 h2 h3=>?_⟩,λy c h=>⟨_,x.cell y c h⟩,e0.hok.fresh (Nat.le_refl _),λy c h=>?_,λp hp=>absurd (show p∈([]:List (Addr × Obj)) from hp) (by simp),e0.hok.kept hk,?_⟩
 · exact name_of_addr x.apart (Dd h1) (Dd h2)
 · have hy:scope.names.lookup y=some .cell\/scope.names.lookup y=some .free:=hy
   rcases hy with hy | hy
   · exact cH hy
   · exact absurd rfl (S.nofree _ (Dd hy))
 · exact Nat.le_of_lt (x.above y c (Dd h))
 · have hi:i < vs.length:=by
     unfold lU at h2
     by_cases hi:i < vs.length
     · exact hi
     · rw [List.getElem?_append_right (by simpa using hi)] at h2
       rw [List.getElem?_replicate] at h2
       split at h2 <;> cases h2
   have ha:vs[i]?=some v:=by
     unfold lU at h2
     rw [List.getElem?_append_left (by simpa using hi),List.getElem?_map] at h2
     cases e:vs[i]? with
     | none=>rw [e] at h2; cases h2
     | some a=>rw [e] at h2; cases h2; rfl
   obtain ⟨u,hu,rv⟩:=r.get ha
   have hp:ps[i]?=some y:=by
     rw [<-S.pre,List.getElem?_take_of_lt (by omega)]; exact h1
   have ndP:ps.Nodup:=by rw [<-S.pre]; exact S.nd.sublist (Ga _ _)
   refine ⟨u,rv,?_⟩
   rcases S.par y (Ai hp) with k | k
   · exact .inl ⟨k,sK ndP hp hu k⟩
   · obtain ⟨c,e⟩:=cH (n:=s.heap.objs.size + 1) k
     refine .inr ⟨.inl k,c,e,?_⟩
     have q:=x.cell y c e
     rw [rN ndP hp hu (by show scope.names.lookup y≠_; rw [k]; decide)] at q
     exact q
 · exact e0.hok.fresh (Nat.le_of_lt (x.above y c (Dd h)))
 · unfold lU
   show _=N.length
   rw [Aj,Ab,List.length_replicate]
   omega
theorem cX1 {CX:CXT} {P:Program} {w:World} {K:PySem.W.Frag} {mg:Str->Option Value} {base:Heap} {k:Nat} {f:Addr} {name qual:Str} {params:Arguments} {body:List Stmt} {scope:Scope} {dV kV doc pm cdv ct oc:Value} {an od:Option Addr}
   {osl:Array (Option Value)} {N ps:List Str} {sp:Sp} (lk:K.lookup f=some ⟨oc,od,.func (PySem.W.fnOf name qual params body scope dV kV doc pm an cdv ct),osl⟩) (hcd:PySem.W.codeIn K cdv qual=true) (S:FnScope N ps scope)
   (len:∀ vs H Q E,sp vs H Q E->vs.length=ps.length)
   (hbody:∀ (A:Around) (outer:List Env) (s:Shared) (H:Hp) (vs:List V) (Q:VK) (E:XK),Room k (A.deeper (envOfC qual scope s.heap.objs.size f cdv))->sp vs H Q E->
     ∃ t,PSs (gW CX P w K mg base N qual scope f cdv A outer s H E) body t/\t { nx:=λ_ H'=>Q .non H',rt:=Q } (lU N vs) H) :
   FnOk P w K mg base CX (k + 1) f (PySem.W.fnOf name qual params body scope dV kV doc pm an cdv ct) ps sp:=by
 refine ⟨len,λA outer s H args us vs Q E hr e0 hb r hsp=>?_⟩
 have hl:=len _ _ _ _ hsp
 have KX:K.In s.heap:=e0.mod.kin.keeps λb o e=>(e0.bs b o e).1
 have lim:s.heap.NoLimit:=e0.mod.nolimit.keeps λb o e=>(e0.bs b o e).1
 have hkind:∀ y∈ps.zip us,scope.names.lookup y.1=some .local\/(scope.names.lookup y.1=some .cell/\((cellsFrom (s.heap.objs.size + 1) scope.names []).lookup y.1).isSome=true):=λ⟨n,v⟩ hy=>by
   rcases S.par n (Dw hy).1 with q | q
   · exact .inl q
   · exact .inr ⟨q,PySem.W.cellsFrom_some _ _ _ (.inl q)⟩
 refine codeAny_call_function hr.depth (KX _ _ lk) rfl S.co S.gen rfl (PySem.W.codeRec_of KX hcd) (hb _ _ _ _ ?_)
 refine wpAny_newFunctionEnv_cells S.kind hkind λenv he s1 x=>?_
 subst he
 refine ⟨lim.keeps x.toInCall.keep,codeAny_func ?_⟩
 obtain ⟨t,ht,hq⟩:=hbody A outer s H vs Q E (hr.deeper _) hsp
 have I:Inv (gW CX P w K mg base N qual scope f cdv A outer s H E) [] (lU N vs) H s1:=aJA S hr.hd e0 hl r x
 refine Cc (ht [] s1 (lU N vs) H _ I hq) (λfl s' hs=>?_) λe s' hs=>hs
 have fin:∀ {σ':St} {H':Hp} {v:V} {u:Value},Inv (gW CX P w K mg base N qual scope f cdv A outer s H E) [] σ' H' s'->RelV v u->Q v H'->CE outer P w H s Q u s' :=
   fun {σ' H' v u} J rv q=>⟨v,H',J.os,J.bare,J.base,J.hok,rv,q⟩
 cases fl with
 | ret u=>
   obtain ⟨v,σ',H',J,rv,q⟩:=hs
   exact fin J rv q
 | next=>
   obtain ⟨σ',H',J,q⟩:=hs
   exact fin (v:=V.non) (u:=Value.none) J rfl q
 | brk=>
   obtain ⟨_,_,_,q⟩:=hs
   exact False.elim q
 | cont=>
   obtain ⟨_,_,_,q⟩:=hs
   exact False.elim q
end L2
namespace L2
open PySem PySem.Spec PyProof.Rows
section
variable {X:Cx} {x:Str} {p pos:Pos} {e:Expr} {es:List Expr} {t:TA} {id T:String} {r:List V->Hp->VK->Prop}
def tCB (r:List V->Hp->VK->Prop) (t:TA):TE:=λσ H Q=>t σ H λvs H1=>r vs H1 Q
theorem aZ (hc:CallR X (.builtin id) r) (hg:Gl X x) (hm:X.mg x=none) (hv:bootBuiltins x=some (.builtin id)) (ha:PA X (e :: es) t) (hn:x≠"__name__" := by decide) (hdb:(x == ("__debug__" : Str))=false:=by decide)
   (he:starEach (e :: es) X.env=(false,eval e X.env) :: starEach es X.env:=by rfl) (hpl:(backTo pos (starEach es X.env)).any (·.1)=false:=by rfl):PE X (.Call (.Name x p) (e :: es) [] pos) (tCB r t):=by
 intro pins s σ H Q I h
 refine Ea (iT I hg hm hv ?_ hn hdb)
 exact PyProof.Rows.callWith_builtin1 (thn (ha pos pins s σ H _ I h) λus s1 ⟨vs,H1,I1,r1,q1⟩=>hc pins s1 σ H1 vs us Q I1 r1 q1) he hpl
theorem bK (hc:CallR X (.type T) r) (hg:Gl X x) (hm:X.mg x=none) (hv:bootBuiltins x=some (.type T)) (ha:PA X (e :: es) t) (hn:x≠"__name__" := by decide) (hdb:(x == ("__debug__" : Str))=false:=by decide)
   (he:starEach (e :: es) X.env=(false,eval e X.env) :: starEach es X.env:=by rfl) (hpl:(backTo pos (starEach es X.env)).any (·.1)=false:=by rfl):PE X (.Call (.Name x p) (e :: es) [] pos) (tCB r t):=by
 intro pins s σ H Q I h
 refine Ea (iT I hg hm hv ?_ hn hdb)
 exact Ct (thn (ha pos pins s σ H _ I h) λus s1 ⟨vs,H1,I1,r1,q1⟩=>hc pins s1 σ H1 vs us Q I1 r1 q1) he hpl
end
end L2
namespace HT
open PySem PyProof.Rows
section
open PySem.SeqAt
open PySem.AutoSeq1 (wpAny_loadPart')
open PySem.MeetsSeq PySem.MeetsSeq2 PySem.MeetsSeq3
end
section
variable {prog:Program} {w:World} {A:Around} {E:Value->Shared->Prop} {s:Shared}
def sIx (n d:Nat):Option Int->Nat
 | none=>d
 | some v=>if v < 0 then (v + (n:Int)).toNat else min v.toNat n
end
end HT
namespace L2
open PySem PySem.Spec PyProof.Rows
abbrev TO:=St->Hp->(Option Int->Hp->Prop)->Prop
def PO (X:Cx) (e:Option Expr) (t:TO):Prop :=
 ∀ (pins:List (Addr × Obj)) (s:Shared) (σ:St) (H:Hp) (Q:Option Int->Hp->Prop),Inv X pins σ H s->t σ H Q->
   wpAny (model X.prog X.w) X.A (evalPart e X.env) (λu s'=>∃ o H',Inv X pins σ H' s'/\IsPart u o/\Q o H') X.xe s
def aQ5:TO:=λ_ H Q=>Q none H
section
variable {X:Cx} {e:Expr} {te:TE} {lo hi:Option Expr} {tl th:TO} {pos p2:Pos}
theorem cXJ:PO X none aQ5:=by
 intro pins s σ H Q I h
 rw [evalPart_none]
 exact An ⟨none,H,I,.none,h⟩
def SlR (X:Cx) (r:V->Option Int->Option Int->Hp->VK->Prop):Prop :=
 ∀ (pins:List (Addr × Obj)) (s:Shared) (σ:St) (H:Hp) (x:V) (v vl vu:Value) (lo hi:Option Int) (sl:Addr) (Q:VK),Inv X pins σ H s->RelV x v->s.heap.IsSliceOf sl vl vu .none->IsPart vl lo->IsPart vu hi->r x lo hi H Q->
   ∃ T id,typeLookup (.type T) "__getitem__"=pure (some (.builtin id))/\s.TypeIs v T/\wpAny (model X.prog X.w) X.A (getItem v (.ref sl)) (EP X pins σ Q) X.xe s
theorem SlR.or {r r':V->Option Int->Option Int->Hp->VK->Prop} (h:SlR X r) (h':SlR X r'):SlR X (λx lo hi H Q=>r x lo hi H Q\/r' x lo hi H Q):=by
 intro pins s σ H x v vl vu lo hi sl Q I rx hs pl pu q
 rcases q with q | q
 · exact h pins s σ H x v vl vu lo hi sl Q I rx hs pl pu q
 · exact h' pins s σ H x v vl vu lo hi sl Q I rx hs pl pu q
def tSl (r:V->Option Int->Option Int->Hp->VK->Prop) (te:TE) (tl th:TO):TE:=λσ H Q=>te σ H λx H1=>tl σ H1 λl H2=>th σ H2 λu H3=>r x l u H3 Q
theorem xN {r:V->Option Int->Option Int->Hp->VK->Prop} (hr:SlR X r) (he:PE X e te) (hl:PO X lo tl) (hu:PO X hi th):PE X (.Subscript e (.Slice lo hi none p2) pos) (tSl r te tl th):=by
 intro pins s σ H Q I h
 refine Subscript_ (thn (he pins s σ H _ I h) λv s1 ⟨x,H1,I1,r1,q1⟩=>?_)
 refine wpAny_Slice (thn (hl pins s1 σ H1 _ I1 q1) λvl s2 ⟨l,H2,I2,pl,q2⟩=>thn (hu pins s2 σ H2 _ I2 q2) λvu s3 ⟨u,H3,I3,pu,q3⟩=>?_)
 rw [evalPart_none]
 refine An ?_
 have I4:Inv X pins σ H3 { s3 with heap:=s3.heap.push { cls:=.type "slice",data:=.fields #[vl,vu,.none] } }:=I3.kept (t':=s3.toks) λb ob q=>Af _ q
 obtain ⟨T,id,hT,ht,hg⟩:=hr pins { s3 with heap:=s3.heap.push { cls:=.type "slice",data:=.fields #[vl,vu,.none] } } σ H3 x v vl vu l u s3.heap.objs.size Q I4 r1 (Heap.IsSliceOf.new ..) pl pu q3
 show wpAny (model X.prog X.w) X.A (subscriptTail e (.Slice lo hi none p2) v (.ref s3.heap.objs.size)) (EP X pins σ Q) X.xe { s3 with heap:=s3.heap.push { cls:=.type "slice",data:=.fields #[vl,vu,.none] } }
 exact tail_any (ops:=[.ref s3.heap.objs.size,v]) ht hT hg (by with_unfolding_all rfl)
def qV (xs:List V) (lo hi:Option Int):List V:=(xs.drop (HT.sIx xs.length 0 lo)).take (HT.sIx xs.length xs.length hi - HT.sIx xs.length 0 lo)
theorem xV (xs:List V) (lo hi:Option Int):(qV xs lo hi).length<=xs.length:=by
 unfold qV
 rw [Bz,Co]
 omega
end
end L2
namespace L2
open PySem PySem.Spec PyProof.Rows
def ixN (n:Nat) (i:Int):Option Nat:=if 0<=i then (if i < n then some i.toNat else none) else if -(n:Int)<=i then some (i + n).toNat else none
def atI {α:Type} (xs:List α) (i:Int):Option α:=(ixN xs.length i).bind λj=>xs[j]?
theorem aQZ {n:Nat} {i:Int} {j:Nat} (h:ixN n i=some j):seqIndex? i n=some j/\j < n/\-(n:Int)<=i/\i < n:=by
 unfold ixN at h
 by_cases h0:0<=i
 · rw [if_pos h0] at h
   by_cases h1:i < n
   · rw [if_pos h1] at h
     have e:i.toNat=j:=Bi h
     exact ⟨by rw [seqIndex_of h0 h1,e],by omega,by omega,h1⟩
   · rw [if_neg h1] at h; cases h
 · rw [if_neg h0] at h
   by_cases h1:-(n:Int)<=i
   · rw [if_pos h1] at h
     have e:(i + n).toNat=j:=Bi h
     exact ⟨by rw [seqIndex_neg (by omega) h1,e],by omega,h1,by omega⟩
   · rw [if_neg h1] at h; cases h
theorem uB {α:Type} {xs:List α} {i:Int} {v:α} (h:atI xs i=some v):∃ j,seqIndex? i xs.length=some j/\xs[j]?=some v/\j < xs.length/\-(xs.length:Int)<=i/\i < xs.length:=by
 unfold atI at h
 cases e:ixN xs.length i with
 | none=>rw [e] at h; cases h
 | some j=>
   rw [e] at h
   obtain ⟨h1,h2,h3,h4⟩:=aQZ e
   exact ⟨j,h1,h,h2,h3,h4⟩
theorem dX {α:Type} {xs:List α} {j:Nat} {v:α} (h:xs[j]?=some v):atI xs (j:Int)=some v:=by
 have hj:j < xs.length:=(Ad.mp h).1
 have e:ixN xs.length (j:Int)=some j:=by
   unfold ixN
   rw [if_pos (by omega),if_pos (by omega)]; simp
 unfold atI; rw [e]; exact h
theorem xE {α:Type} (xs:List α) (v:α):atI (xs ++ [v]) (-1)=some v:=by
 have hl:(xs ++ [v]).length=xs.length + 1:=by simp
 have e:ixN (xs ++ [v]).length (-1)=some xs.length:=by
   unfold ixN
   rw [hl,if_neg (by decide),if_pos (by omega)]
   congr 1
   omega
 unfold atI
 rw [e]
 show (xs ++ [v])[xs.length]?=some v
 simp
def cXB (b:Expr):Prop:=∀ o i,subscripted b false o i=operate [o,i] (getItem o i)
def IxR (X:Cx) (r:R2):Prop :=
 ∀ (value slice:Expr) (pins:List (Addr × Obj)) (s:Shared) (σ:St) (H:Hp) (x y:V) (v u:Value) (Q:VK),Inv X pins σ H s->RelV x v->RelV y u->r x y H Q->
   subscripted slice false v u=operate [v,u] (getItem v u)->wpAny (model X.prog X.w) X.A (subscriptTail value slice v u) (EP X pins σ Q) X.xe s
def MtR (X:Cx) (id:String) (r:V->List V->Hp->VK->Prop):Prop :=
 ∀ (pins:List (Addr × Obj)) (s:Shared) (σ:St) (H:Hp) (x:V) (xs:List V) (v:Value) (us:List Value) (Q:VK),Inv X pins σ H s->RelV x v->Vals xs us->r x xs H Q->
   wpAny (model X.prog X.w) X.A (call (.builtin id) (v :: us)) (EP X pins σ Q) X.xe s
section
variable {X:Cx} {a b:Expr} {ta tb:TE} {pos:Pos}
theorem IxR.or {r r':R2} (h:IxR X r) (h':IxR X r'):IxR X (λx y H Q=>r x y H Q\/r' x y H Q):=by
 intro value slice pins s σ H x y v u Q I rx ry q hs
 rcases q with q | q
 · exact h value slice pins s σ H x y v u Q I rx ry q hs
 · exact h' value slice pins s σ H x y v u Q I rx ry q hs
theorem MtR.or {id:String} {r r':V->List V->Hp->VK->Prop} (h:MtR X id r) (h':MtR X id r'):MtR X id (λx xs H Q=>r x xs H Q\/r' x xs H Q):=by
 intro pins s σ H x xs v us Q I rx rs q
 rcases q with q | q
 · exact h pins s σ H x xs v us Q I rx rs q
 · exact h' pins s σ H x xs v us Q I rx rs q
theorem bE {r:R2} (hr:IxR X r) (ha:PE X a ta) (hb:PE X b tb) (hs:cXB b):PE X (.Subscript a b pos) (tOp r ta tb):=by
 intro pins s σ H Q I h
 exact Subscript_ (dQ2 ha hb I h λv u s2 x y H2 I2 rx ry q=>hr a b pins s2 σ H2 x y v u Q I2 rx ry q (hs _ _))
def dQY (K:PySem.W.Frag):R2:=λx y H Q=>∃ p xs i v,x=.ref p/\y=.int i/\SqL K H p xs/\atI xs i=some v/\Q v H
def dZH (K:PySem.W.Frag):R2:=λx y H Q=>∃ p xs i v,x=.ref p/\y=.int i/\SqT K H p xs/\atI xs i=some v/\Q v H
def dJM:R2:=λx y H Q=>∃ z i c,x=.str z/\y=.int i/\z.length<=sizeLine/\atI z.cps.toList i=some c/\Q (.str ⟨#[c]⟩) H
theorem ix_list:IxR X (dQY X.K):=by
 intro value slice pins s σ H x y v u Q I rx ry h hs
 obtain ⟨p,xs,i,z,rfl,rfl,hq,he,q⟩:=h
 cases rx
 obtain ⟨t,rfl⟩:=ry
 obtain ⟨its,r,pl,hz⟩:=I.list hq
 obtain ⟨j,h1,h2,h3,h4,h5⟩:=uB he
 obtain ⟨w,ew,rw'⟩:=r.get h2
 have hl:=r.length
 have hn:=lI
 have fin:EP X pins σ Q w s:=⟨z,H,I,rw',q⟩
 by_cases h0:0<=i
 · have hj:i.toNat=j:=by
     rw [seqIndex_of h0 h5] at h1
     exact Bi h1
   exact item_listR pl.isList h0 (by omega) (by rw [hj]; simpa using ew) fin hs
 · have hj:(i + (its.toArray.size:Int)).toNat=j:=by
     rw [seqIndex_neg (by omega) h4] at h1
     rw [Bq,<-hl]
     exact Bi h1
   exact subscriptTail_builtinR (x:=w) pl.isList.typeIs slot_list_getitem.lookup
     (wpAny_getItem_list_neg (Q:=λr s'=>r=w/\EP X pins σ Q r s') pl.isList (by omega) (by rw [List.size_toArray] <;> omega) (by omega) (by rw [hj]; simpa using ew) ⟨rfl,fin⟩) hs
theorem ix_tup:IxR X (dZH X.K):=by
 intro value slice pins s σ H x y v u Q I rx ry h hs
 obtain ⟨p,xs,i,z,rfl,rfl,hq,he,q⟩:=h
 cases rx
 obtain ⟨t,rfl⟩:=ry
 obtain ⟨its,r,pl,hz⟩:=I.tuple hq
 obtain ⟨j,h1,h2,h3,h4,h5⟩:=uB he
 obtain ⟨w,ew,rw'⟩:=r.get h2
 have hl:=r.length
 have hn:=lI
 have fin:EP X pins σ Q w s:=⟨z,H,I,rw',q⟩
 exact subscriptTail_builtinR (x:=w) pl.typeIs slot_tuple_getitem.lookup
   (getItem_tuple (j:=j) (Q:=λr s'=>r=w/\EP X pins σ Q r s') pl (by omega) (by omega) (by rw [List.size_toArray,<-hl]; exact h1) (by simpa using ew) ⟨rfl,fin⟩) hs
theorem dXF:IxR X dJM:=by
 intro value slice pins s σ H x y v u Q I rx ry h hs
 obtain ⟨z,i,c,rfl,rfl,hz,he,q⟩:=h
 obtain ⟨t,rfl⟩:=rx
 obtain ⟨t',rfl⟩:=ry
 obtain ⟨j,h1,h2,h3,h4,h5⟩:=uB he
 have hl:z.cps.toList.length=z.length:=by simp [Str.length]
 rw [hl] at h1 h4 h5
 have hn:=lI
 exact tail_any (typeIs_str s z t) slot_str_getitem.lookup (getItem_str (c:=c) (by
   have e1:decide (i < -(2 ^ 63:Int))=false:=Aw (by omega)
   have e2:decide (i ≥ 2 ^ 63)=false:=Aw (by omega)
   rw [e1,e2,Bool.or_false]) (by rw [h1]; simpa using h2) ⟨.str ⟨#[c]⟩,H,I.tok _,⟨_,rfl⟩,q⟩) hs
def rIx (K:PySem.W.Frag):R2:=λx y H Q=>dQY K x y H Q\/dZH K x y H Q\/dJM x y H Q
theorem ix_seq:IxR X (rIx X.K):=ix_list.or (ix_tup.or dXF)
theorem yR (its:List Value) (n j:Nat) (u:Value):Obj.mapSeq (·.setIfInBounds j u) { cls:=.type "list",data:=.seq its.toArray n }={ cls:=.type "list",data:=.seq (its.set j u).toArray n }:=by
 simp [Obj.mapSeq]
theorem Inv.lst {pins:List (Addr × Obj)} {σ:St} {H:Hp} {s:Shared} {p:Addr} {xs:List V} (I:Inv X pins σ H s) (h:H p=some (.lst xs)) :
   ∃ (its:List Value) (n:Nat),Vals xs its/\s.heap.get? p=some { cls:=.type "list",data:=.seq its.toArray n }/\xs.length<=sizeLine:=by
 obtain ⟨z,its,n,r,e⟩:=I.hok p _ h
 exact ⟨its,n,r,e,z⟩
theorem Inv.lstUpd {pins:List (Addr × Obj)} {σ:St} {H:Hp} {s:Shared} {p:Addr} {xs ys:List V} {its its':List Value} {n n':Nat} {f:Obj->Obj} (I:Inv X pins σ H s) (h:H p=some (.lst xs))
   (ho:s.heap.get? p=some { cls:=.type "list",data:=.seq its.toArray n }) (hf:f { cls:=.type "list",data:=.seq its.toArray n }={ cls:=.type "list",data:=.seq its'.toArray n' }) (r:Vals ys its') (hz:ys.length<=sizeLine) (t:Nat) :
   Inv X pins σ (upd H p (.lst ys)) { s with heap:=s.heap.update p f,toks:=t }:=by
 have e:(s.heap.update p f).get? p=some { cls:=.type "list",data:=.seq its'.toArray n' }:=by
   rw [Heap.get?_update_self f ho (by rw [hf] <;> rfl),hf]
 refine I.write (x:=p) (e:=p) (by rw [h]; trivial) (.inl rfl) (λb u hb q=>(By _ _ (Ne.symm hb)).trans q) ⟨_,e⟩ ?_
 exact ⟨hz,its',n',r,e⟩
def cX9:V->V->V->Hp->(Hp->Prop)->Prop:=λo i v H Q=>∃ p xs k j,o=.ref p/\i=.int k/\H p=some (.lst xs)/\ixN xs.length k=some j/\Q (upd H p (.lst (xs.set j v)))
theorem aJZ:dXR X cX9:=by
 intro pins s σ H o i v ov iv u Q I ro ri rv h
 obtain ⟨p,xs,k,j,rfl,rfl,hp,hj,q⟩:=h
 cases ro
 obtain ⟨t,rfl⟩:=ri
 obtain ⟨its,n,r,ho,hz⟩:=I.lst hp
 obtain ⟨h1,h2,h3,h4⟩:=aQZ hj
 have hl:=r.length
 have hn:=lI
 have I':Inv X pins σ (upd H p (.lst (xs.set j v))) { s with heap:=s.heap.update p (Obj.mapSeq (·.setIfInBounds j u)) } :=
   I.lstUpd hp ho (yR its n j u) (r.set rv j) (by rw [Ef]; exact hz) s.toks
 by_cases h0:0<=k
 · have hk:k.toNat=j:=by
     rw [seqIndex_of h0 h4] at h1
     exact Bi h1
   exact PySem.W.ki_setAt ho h0 (by omega) (by rw [Bq,<-hl]; exact h4) (by rw [hk]; exact ⟨_,I',q⟩)
 · have hk:(k + (its.toArray.size:Int)).toNat=j:=by
     rw [seqIndex_neg (by omega) h3] at h1
     rw [Bq,<-hl]
     exact Bi h1
   exact PySem.W.ki_setBack ho (by omega) (by rw [Bq,<-hl]; exact h3) (by omega) (by rw [hk]; exact ⟨_,I',q⟩)
theorem uU (lo hi:Option Int) (n:Nat):(sliceBounds lo hi none n).1=((HT.sIx n 0 lo:Nat):Int)/\(sliceBounds lo hi none n).2.1=((HT.sIx n n hi:Nat):Int)/\(sliceBounds lo hi none n).2.2=1:=by
 refine ⟨?_,?_,rfl⟩
 · cases lo with
   | none=>simp [sliceBounds,HT.sIx]
   | some i=>
     simp only [sliceBounds,HT.sIx,Option.getD_none,show (1:Int) > 0 by decide,if_true]
     by_cases h:i < 0
     · simp only [h,if_true] <;> omega
     · simp only [h,if_false] <;> omega
 · cases hi with
   | none=>simp [sliceBounds,HT.sIx]
   | some i=>
     simp only [sliceBounds,HT.sIx,Option.getD_none,show (1:Int) > 0 by decide,if_true]
     by_cases h:i < 0
     · simp only [h,if_true] <;> omega
     · simp only [h,if_false] <;> omega
theorem qY (its:List Value) (lo hi:Option Int):slicePick its.toArray lo hi none=((its.drop (HT.sIx its.length 0 lo)).take (HT.sIx its.length its.length hi - HT.sIx its.length 0 lo)).toArray:=by
 obtain ⟨h1,h2,h3⟩:=uU lo hi its.toArray.size
 unfold slicePick
 rw [h1,h2,h3]
 simp only [sliceRange_one,pick_run,List.size_toArray] <;> rfl
def eQQ (K:PySem.W.Frag):V->Option Int->Option Int->Hp->VK->Prop:=λx lo hi H Q=>∃ a xs,x=.ref a/\SqL K H a xs/\∀ p,H p=none->Q (.ref p) (upd H p (.lst (qV xs lo hi)))
theorem sl_list:SlR X (eQQ X.K):=by
 intro pins s σ H x v vl vu lo hi sl Q I rx hs pl pu h
 obtain ⟨a,xs,rfl,hx,q⟩:=h
 cases rx
 obtain ⟨its,r,ht,hz⟩:=I.list hx
 have hlen:=r.length
 refine ⟨"list",_,slot_list_getitem.lookup,ht.isList.typeIs,?_⟩
 refine wpAny_getItem_list_slice ht.isList hs pl pu .none (by simp) ?_ (by rw [List.size_toArray] <;> omega)
 rw [qY,<-hlen]
 refine ⟨.ref s.heap.objs.size,_,I.laid (t':=s.toks) (o:=.lst (qV xs lo hi)) (λb ob q=>Af _ q) (Ag _) ?_,rfl,q _ (I.hok.fresh (Ag _))⟩
 exact ⟨Bf (xV xs lo hi) hz,_,0,(r.drop (HT.sIx xs.length 0 lo)).take (HT.sIx xs.length xs.length hi - HT.sIx xs.length 0 lo),Ax _ rfl⟩
def bV:V->Bool
 | .non=>true
 | .bl _=>true
 | .int _=>true
 | .str _=>true
 | _=>false
def eqV:V->V->Bool
 | .non,.non=>true
 | .bl a,.bl b=>a == b
 | .bl a,.int b=>(if a then 1 else 0) == b
 | .int a,.bl b=>a == (if b then 1 else 0)
 | .int a,.int b=>a == b
 | .str a,.str b=>a == b
 | _,_=>false
theorem mV {A:Around} {s:Shared} {y x:V} {u v:Value} (ry:RelV y u) (rx:RelV x v) (fy:bV y=true) (fx:bV x=true):SeqAt.EqAt A s u v (eqV y x):=by
 cases y with
 | non=>
   cases ry
   cases x with
   | non=>cases rx; exact SeqAt.EqAt.same _
   | bl b=>cases rx; exact SeqAt.EqAt.none_bool b
   | int b=>obtain ⟨t,rfl⟩:=rx; exact SeqAt.EqAt.none_int b t
   | str b=>obtain ⟨t,rfl⟩:=rx; exact SeqAt.EqAt.none_str b t
   | _=>exact absurd (show false=true from fx) Ao
 | bl a=>
   cases ry
   cases x with
   | non=>cases rx; exact SeqAt.EqAt.bool_none a
   | bl b=>cases rx; exact SeqAt.EqAt.bool_bool a b
   | int b=>obtain ⟨t,rfl⟩:=rx; exact SeqAt.EqAt.bool_int a b t
   | str b=>obtain ⟨t,rfl⟩:=rx; exact SeqAt.EqAt.bool_str a b t
   | _=>exact absurd (show false=true from fx) Ao
 | int a=>
   obtain ⟨t',rfl⟩:=ry
   cases x with
   | non=>cases rx; exact SeqAt.EqAt.int_none a t'
   | bl b=>cases rx; exact SeqAt.EqAt.int_bool a t' b
   | int b=>obtain ⟨t,rfl⟩:=rx; exact SeqAt.EqAt.int_int a t' b t
   | str b=>obtain ⟨t,rfl⟩:=rx; exact SeqAt.EqAt.int_str a t' b t
   | _=>exact absurd (show false=true from fx) Ao
 | str a=>
   obtain ⟨t',rfl⟩:=ry
   cases x with
   | non=>cases rx; exact SeqAt.EqAt.str_none a t'
   | bl b=>cases rx; exact SeqAt.EqAt.str_bool a t' b
   | int b=>obtain ⟨t,rfl⟩:=rx; exact SeqAt.EqAt.str_int a t' b t
   | str b=>obtain ⟨t,rfl⟩:=rx; exact SeqAt.EqAt.str_str a t' b t
   | _=>exact absurd (show false=true from fx) Ao
 | _=>exact absurd (show false=true from fy) Ao
def eqU (x:V) (u:Value):Bool:=match u with
 | .none=>eqV .non x
 | .bool b=>eqV (.bl b) x
 | .int i _=>eqV (.int i) x
 | .str z _=>eqV (.str z) x
 | _=>false
theorem bQD {x y:V} {u:Value} (r:RelV y u) (f:bV y=true):eqU x u=eqV y x:=by
 cases y with
 | non=>cases r; rfl
 | bl b=>cases r; rfl
 | int i=>obtain ⟨t,rfl⟩:=r; rfl
 | str z=>obtain ⟨t,rfl⟩:=r; rfl
 | _=>exact absurd (show false=true from f) Ao
theorem lP {x:V}:∀ {xs:List V} {us:List Value},Vals xs us->xs.all bV=true->us.any (eqU x)=xs.any λy=>eqV y x
 | _,_,.nil,_=>rfl
 | y :: xs,u :: us,.cons r t,f=>by
   rw [List.all_cons,Em] at f
   rw [Gi,Gi,bQD r f.1,lP t f.2]
theorem jO {A:Around} {s:Shared} {x:V} {v:Value} (rx:RelV x v) (fx:bV x=true):∀ {xs:List V} {us:List Value},Vals xs us->xs.all bV=true->∀ u∈us,SeqAt.EqAt A s u v (eqU x u)
 | _,_,.nil,_=>λu hu=>by cases hu
 | y :: xs,u :: us,.cons r t,f=>λu' hu=>by
   rw [List.all_cons,Em] at f
   rcases Az.mp hu with rfl | hu
   · rw [bQD r f.1]; exact mV r rx f.1 fx
   · exact jO rx fx t f.2 u' hu
def inV (x:V) (xs:List V):Bool:=xs.any λy=>eqV y x
def rIn (K:PySem.W.Frag) (neg:Bool):R2:=λx y H Q=>∃ p xs,y=.ref p/\(SqL K H p xs\/SqT K H p xs)/\bV x=true/\xs.all bV=true/\Q (.bl (if neg then !inV x xs else inV x xs)) H
theorem op_in_seq:OpR X (compareOp .In) (rIn X.K false):=by
 intro pins s σ H x y v u Q I rx ry h
 obtain ⟨p,xs,rfl,hq,fx,fs,q⟩:=h
 cases ry
 rcases hq with hq | hq
 · obtain ⟨its,r,pl,hz⟩:=I.list hq
   refine SeqAt.in_listAt (eqU x) pl.isList (λw hw=>jO rx fx r fs w (by simpa using hw)) ⟨.bl _,H,I,rfl,?_⟩
   rw [show its.toArray.any (eqU x)=its.any (eqU x) by simp,lP r fs]
   exact q
 · obtain ⟨its,r,pl,hz⟩:=I.tuple hq
   refine SeqAt.in_tupleAt (eqU x) pl (λw hw=>jO rx fx r fs w (by simpa using hw)) ⟨.bl _,H,I,rfl,?_⟩
   rw [show its.toArray.any (eqU x)=its.any (eqU x) by simp,lP r fs]
   exact q
theorem op_notIn_seq:OpR X (compareOp .NotIn) (rIn X.K true):=by
 intro pins s σ H x y v u Q I rx ry h
 obtain ⟨p,xs,rfl,hq,fx,fs,q⟩:=h
 cases ry
 rcases hq with hq | hq
 · obtain ⟨its,r,pl,hz⟩:=I.list hq
   refine SeqAt.notIn_listAt (eqU x) pl.isList (λw hw=>jO rx fx r fs w (by simpa using hw)) ⟨.bl _,H,I,rfl,?_⟩
   rw [show its.toArray.any (eqU x)=its.any (eqU x) by simp,lP r fs]
   exact q
 · obtain ⟨its,r,pl,hz⟩:=I.tuple hq
   refine SeqAt.notIn_tupleAt (eqU x) pl (λw hw=>jO rx fx r fs w (by simpa using hw)) ⟨.bl _,H,I,rfl,?_⟩
   rw [show its.toArray.any (eqU x)=its.any (eqU x) by simp,lP r fs]
   exact q
theorem lS:CallR X (.builtin "len") (λxs H Q=>∃ p ys,xs=[.ref p]/\(SqL X.K H p ys\/SqT X.K H p ys)/\Q (.int ys.length) H):=by
 intro pins s σ H xs us Q I r h
 obtain ⟨p,ys,rfl,hq,q⟩:=h
 obtain ⟨u,rfl,rx⟩:=gR r
 cases rx
 have hn:=lI
 rcases hq with hq | hq
 · obtain ⟨its,r',pl,hz⟩:=I.list hq
   have hlen:=r'.length
   exact Calls.call_len_list pl.isList (by simp only [List.size_toArray] <;> omega) ⟨.int ys.length,H,I.tok _,⟨s.toks + 1,by rw [List.size_toArray,hlen]⟩,q⟩
 · obtain ⟨its,r',pl,hz⟩:=I.tuple hq
   have hlen:=r'.length
   exact len_tuple pl (by simp only [List.size_toArray] <;> omega) ⟨.int ys.length,H,I.tok _,⟨s.toks + 1,by rw [List.size_toArray,hlen]⟩,q⟩
theorem CallR.or {f:Value} {r r':List V->Hp->VK->Prop} (h:CallR X f r) (h':CallR X f r'):CallR X f (λxs H Q=>r xs H Q\/r' xs H Q):=by
 intro pins s σ H xs us Q I rs q
 rcases q with q | q
 · exact h pins s σ H xs us Q I rs q
 · exact h' pins s σ H xs us Q I rs q
theorem call_list_of:CallR X (.type "list") (λxs H Q=>∃ p ys,xs=[.ref p]/\(SqL X.K H p ys\/SqT X.K H p ys)/\∀ l,H l=none->Q (.ref l) (upd H l (.lst ys))):=by
 intro pins s σ H xs us Q I r h
 obtain ⟨p,ys,rfl,hq,q⟩:=h
 obtain ⟨u,rfl,rx⟩:=gR r
 cases rx
 have fin:∀ (its:List Value),Vals ys its->ys.length<=sizeLine->∀ (h':Heap) (c':Nat),(∀ b o',s.heap.get? b=some o'->h'.get? b=some o')->
     h'.get? s.heap.objs.size=some { cls:=.type "list",dict:=none,data:=.seq its.toArray c',slots:=#[] }->EP X pins σ Q (.ref s.heap.objs.size) { s with heap:=h' }:=λits r' hz h' c' kp e=>
   ⟨.ref s.heap.objs.size,_,I.laid (t':=s.toks) kp (Ag _) (show ObjOk X.prog X.w _ h' _ (.lst ys) from ⟨hz,its,c',r',e⟩),rfl,q _ (I.hok.fresh (Ag _))⟩
 rcases hq with hq | hq
 · obtain ⟨its,r',pl,hz⟩:=I.list hq
   have hlen:=r'.length
   obtain ⟨o,ho,hc,n,hd⟩:=pl.isList
   exact call_list_seq p (.inl rfl) ho hc hd (λh' c' kp e=>fin its r' hz h' c' kp e) (by simp only [List.size_toArray] <;> omega)
 · obtain ⟨its,r',pl,hz⟩:=I.tuple hq
   have hlen:=r'.length
   obtain ⟨o,ho,hc,n,hd⟩:=pl
   exact call_list_seq p (.inr rfl) ho hc hd (λh' c' kp e=>fin its r' hz h' c' kp e) (by simp only [List.size_toArray] <;> omega)
def tyV (K:PySem.W.Frag) (T:String) (x:V) (H:Hp):Prop:=match x with
 | .str _=>T="str"
 | .int _=>T="int"
 | .ref p=>(T="list"/\∃ xs,SqL K H p xs)\/(T="tuple"/\∃ o,K.lookup p=some o/\o.cls=.type "tuple"/\o.dict=none)\/
     (T="dict"/\((∃ kvs,H p=some (.dK kvs))\/∃ kvs,H p=some (.dT kvs)))\/(T="set"/\∃ S n,H p=some (.set S n))
 | _=>False
theorem bQU {pins:List (Addr × Obj)} {σ:St} {H:Hp} {s:Shared} {T:String} {x:V} {v:Value} (I:Inv X pins σ H s) (r:RelV x v) (ty:tyV X.K T x H) :
   s.TypeIs v T/\∀ a,v=.ref a->∃ ob,s.heap.get? a=some ob/\ob.dict=none:=by
 cases x with
 | str z=>
   obtain ⟨t,rfl⟩:=r
   cases (show T="str" from ty)
   exact ⟨typeIs_str s z t,λ_ e=>nomatch e⟩
 | int i=>
   obtain ⟨t,rfl⟩:=r
   cases (show T="int" from ty)
   exact ⟨typeIs_int s i t,λ_ e=>nomatch e⟩
 | ref p=>
   cases r
   rcases ty with ⟨rfl,xs,hq⟩ | ⟨rfl,o,hk,hc,hd⟩ | ⟨rfl,hk⟩ | ⟨rfl,S,n,hk⟩
   · obtain ⟨its,_,pl,_⟩:=I.list hq
     refine ⟨pl.isList.typeIs,λa e=>?_⟩
     cases e
     obtain ⟨o,n,e,c,hd,_⟩:=pl
     exact ⟨o,e,hd⟩
   · refine ⟨⟨o,I.kIn p o hk,hc⟩,λa e=>?_⟩
     cases e
     exact ⟨o,I.kIn _ o hk,hd⟩
   · have z:∃ o,s.heap.get? p=some o/\o.ExactDict:=by
       rcases hk with ⟨kvs,hk⟩ | ⟨kvs,hk⟩
       · obtain ⟨_,_,_,_,o,_,_,e,ex,_⟩:=I.hok p _ hk
         exact ⟨o,e,ex⟩
       · obtain ⟨_,_,_,_,o,_,_,e,ex,_⟩:=I.hok p _ hk
         exact ⟨o,e,ex⟩
     obtain ⟨o,e,ex⟩:=z
     refine ⟨⟨o,e,ex.1⟩,λa e2=>?_⟩
     cases e2
     exact ⟨o,e,ex.2.1⟩
   · obtain ⟨o,_,_,_,e,ex,_⟩:=I.hok p _ hk
     refine ⟨⟨o,e,ex.1⟩,λa e2=>?_⟩
     cases e2
     exact ⟨o,e,ex.2.1⟩
 | _=>exact False.elim ty
variable {o e:Expr} {es:List Expr} {to:TE} {t:TA} {name:Str} {apos cpos:Pos} {T id:String} {r:V->List V->Hp->VK->Prop}
end
end L2
namespace L2
open PySem PySem.Spec PyProof.Rows
def MtM (X:Cx) (id:String) (r:V->List V->Hp->VK->Prop):Prop :=
 ∀ (pins:List (Addr × Obj)) (s:Shared) (σ:St) (H:Hp) (x:V) (xs:List V) (v:Value) (us:List Value) (Q:VK),Inv X pins σ H s->RelV x v->Vals xs us->r x xs H Q->
   wpAny (model X.prog X.w) X.A (call (.builtin id) (v :: us)) (EP X pins σ Q) X.xe s
theorem Vals.one:∀ {x:V} {us:List Value},Vals [x] us->∃ u,us=[u]/\RelV x u
 | _,_,.cons r .nil=>⟨_,rfl,r⟩
theorem Vals.two:∀ {x y:V} {us:List Value},Vals [x,y] us->∃ u v,us=[u,v]/\RelV x u/\RelV y v
 | _,_,_,.cons r (.cons q .nil)=>⟨_,_,rfl,r,q⟩
theorem Vals.zero:∀ {us:List Value},Vals [] us->us=[]
 | _,.nil=>rfl
theorem Vals.dropLast {xs:List V} {us:List Value} (h:Vals xs us):Vals xs.dropLast us.dropLast:=by
 induction h with
 | nil=>exact .nil
 | cons r t ih=>
   cases t with
   | nil=>exact .nil
   | cons q t'=>exact .cons r ih
theorem Vals.eraseIdx:∀ {xs:List V} {us:List Value} (i:Nat),Vals xs us->Vals (xs.eraseIdx i) (us.eraseIdx i)
 | _,_,_,.nil=>.nil
 | _,_,0,.cons _ t=>t
 | _,_,i + 1,.cons r t=>.cons r (Vals.eraseIdx i t)
theorem Vals.reverse {xs:List V} {us:List Value} (h:Vals xs us):Vals xs.reverse us.reverse:=by
 induction h with
 | nil=>exact .nil
 | cons r t ih=>rw [List.reverse_cons,List.reverse_cons]; exact Vals.append ih (.cons r .nil)
theorem yA {α:Type} (l:List α):l.eraseIdx (l.length - 1)=l.dropLast:=by
 induction l with
 | nil=>rfl
 | cons a r ih=>
   cases r with
   | nil=>rfl
   | cons b r=>
     have e:(a :: b :: r).length - 1=((b :: r).length - 1) + 1:=by
       have h1:(a :: b :: r).length=r.length + 2:=rfl
       have h2:(b :: r).length=r.length + 1:=rfl
       omega
     rw [e,List.eraseIdx_cons_succ,ih]
     all_goals rfl
section
variable {X:Cx} {pins:List (Addr × Obj)} {σ:St} {H:Hp} {s:Shared} {l b:Addr} {xs ys zs:List V}
theorem Inv.lset {its its':List Value} {n:Nat} {f:Array Value->Array Value} {t':Nat} (I:Inv X pins σ H s) (hH:H l=some (.lst xs))
   (e:s.heap.get? l=some { cls:=.type "list",data:=.seq its.toArray n }) (hf:f its.toArray=its'.toArray) (hv:Vals ys its') (hz:ys.length<=sizeLine) :
   Inv X pins σ (upd H l (.lst ys)) { s with heap:=s.heap.update l (Obj.mapSeq f),toks:=t' }:=by
 have q:=PySem.IsL.update e f
 rw [hf] at q
 refine I.write (x:=l) (e:=l) (by rw [hH]; exact trivial) (.inl rfl) (λb' u hb hu=>(By s.heap (Obj.mapSeq f) (Ne.symm hb)).trans hu) ⟨_,q⟩ ?_
 exact ⟨hz,its',_,hv,q⟩
theorem Inv.lnew {its:List Value} {t':Nat} (I:Inv X pins σ H s) (hv:Vals ys its) (hz:ys.length<=sizeLine) :
   Inv X pins σ (upd H s.heap.objs.size (.lst ys)) { s with heap:=s.heap.push { cls:=.type "list",data:=.seq its.toArray },toks:=t' } :=
 I.laid (λ_ _ q=>Af _ q) (Ag _) ⟨hz,its,0,hv,Ax _ rfl⟩
theorem Inv.fresh (I:Inv X pins σ H s):H s.heap.objs.size=none:=I.hok.fresh (Ag _)
theorem Inv.lstM (I:Inv X pins σ H s) (hH:H l=some (.lst xs)):xs.length<=sizeLine/\∃ (its:List Value) (n:Nat),Vals xs its/\xs.length=its.length/\s.heap.get? l=some { cls:=.type "list",data:=.seq its.toArray n }:=by
 obtain ⟨z,its,n,r,e⟩:=I.hok l _ hH
 exact ⟨z,its,n,r,r.length,e⟩
theorem bQP {n:Nat} (h:n<=sizeLine):Builtin.List.listTooLong n=false:=by
 unfold Builtin.List.listTooLong
 exact Aw (by omega)
end
section
variable {X:Cx}
def aQO:V->List V->Hp->VK->Prop:=λx vs H Q=>∃ l xs y,x=.ref l/\vs=[y]/\H l=some (.lst xs)/\xs.length < sizeLine/\Q .non (upd H l (.lst (xs ++ [y])))
theorem rW:MtM X "list.append" aQO:=by
 intro pins s σ H x vs v us Q I rx rv h
 obtain ⟨l,xs,y,rfl,rfl,hH,hz,q⟩:=h
 cases rx
 obtain ⟨u,rfl,ru⟩:=rv.one
 obtain ⟨z,its,n,r,hl,e⟩:=I.lstM hH
 refine call_meets F.slot_list_append ⟨_,e,rfl⟩ F.entry_list_append (F.args_list_append_2 _ _) (PySem.list_append l its.toArray n u (by rw [Bq]; omega)) ⟨e,?_⟩
 refine ⟨.non,_,I.lset (its':=its ++ [u]) hH e (by simp) (r.append (.cons ru .nil)) ?_,rfl,q⟩
 rw [Aj,List.length_singleton]
 omega
def aQW:V->List V->Hp->VK->Prop:=λx vs H Q=>∃ l b xs zs,x=.ref l/\vs=[.ref b]/\H l=some (.lst xs)/\H b=some (.lst zs)/\xs.length + zs.length<=sizeLine/\Q .non (upd H l (.lst (xs ++ zs)))
theorem aJQ:MtM X "list.extend" aQW:=by
 intro pins s σ H x vs v us Q I rx rv h
 obtain ⟨l,b,xs,zs,rfl,rfl,hH,hB,hz,q⟩:=h
 cases rx
 obtain ⟨u,rfl,ru⟩:=rv.one
 cases ru
 obtain ⟨z,its,n,r,hl,e⟩:=I.lstM hH
 obtain ⟨z2,its2,n2,r2,hl2,e2⟩:=I.lstM hB
 have hsz:its.toArray.size + its2.toArray.size<=sizeLine:=by rw [Bq,Bq]; omega
 have hlong:¬ (!its.toArray.isEmpty && Builtin.List.listTooLong (its.toArray.size + its2.toArray.size))=true:=by
   rw [bQP hsz,Bool.and_false]
   exact Ao
 refine call_meets F.slot_list_extend ⟨_,e,rfl⟩ F.entry_list_extend (F.args_list_extend_2 _ _)
   (AutoSeq1.list_extend_list_list_0 l its.toArray n b its2.toArray n2 hlong (by rw [Bq]; omega) (by omega)) ⟨e,e2,?_⟩
 refine ⟨.non,_,I.lset (its':=its ++ its2) hH e (by simp) (r.append r2) ?_,rfl,q⟩
 rw [Aj]
 omega
def eQG:V->List V->Hp->VK->Prop:=λx vs H Q=>∃ l xs y,x=.ref l/\vs=[]/\H l=some (.lst xs)/\xs[xs.length - 1]?=some y/\Q y (upd H l (.lst xs.dropLast))
theorem eQC:MtM X "list.pop" eQG:=by
 intro pins s σ H x vs v us Q I rx rv h
 obtain ⟨l,xs,y,rfl,rfl,hH,hy,q⟩:=h
 cases rx
 have hus:=rv.zero
 subst hus
 obtain ⟨z,its,n,r,hl,e⟩:=I.lstM hH
 obtain ⟨u,hu,ru⟩:=r.get hy
 have hy':its.toArray[its.toArray.size - 1]?=some u:=by
   show its.toArray[its.length - 1]?=some u
   rw [<-Df,<-hl]
   exact hu
 refine call_meets F.slot_list_pop ⟨_,e,rfl⟩ F.entry_list_pop (F.args_list_pop_1 _) (MeetsSeq.list_pop_last l its.toArray n u hy' (by rw [Bq]; omega)) ⟨e,?_⟩
 refine ⟨y,_,I.lset (its':=its.dropLast) hH e ?_ r.dropLast ?_,ru,q⟩
 · show its.toArray.eraseIdxIfInBounds (its.toArray.size - 1)=its.dropLast.toArray
   rw [Bq,List.eraseIdxIfInBounds_toArray,yA]
 · rw [List.length_dropLast]
   omega
def aJ8:V->List V->Hp->VK->Prop:=λx vs H Q=>∃ l xs,x=.ref l/\vs=[]/\H l=some (.lst xs)/\Q .non (upd H l (.lst []))
theorem bQ1:MtM X "list.clear" aJ8:=by
 intro pins s σ H x vs v us Q I rx rv h
 obtain ⟨l,xs,rfl,rfl,hH,q⟩:=h
 cases rx
 have hus:=rv.zero
 subst hus
 obtain ⟨z,its,n,r,hl,e⟩:=I.lstM hH
 refine call_meets F.slot_list_clear ⟨_,e,rfl⟩ F.entry_list_clear (F.args_list_clear_1 _) (AutoSeq1.list_clear_list_0 l its.toArray n (by rw [Bq]; omega)) ⟨e,?_⟩
 exact ⟨.non,_,I.lset (its':=[]) (ys:=[]) hH e rfl .nil (Ck _),rfl,q⟩
def dJ7:R2:=λx y H Q=>∃ l b xs zs,x=.ref l/\y=.ref b/\H l=some (.lst xs)/\H b=some (.lst zs)/\xs.length + zs.length<=sizeLine/\∀ p,H p=none->Q (.ref p) (upd H p (.lst (xs ++ zs)))
theorem dQK:OpR X (binaryOp .Add) dJ7:=by
 intro pins s σ H x y v u Q I rx ry h
 obtain ⟨l,b,xs,zs,rfl,rfl,hH,hB,hz,q⟩:=h
 cases rx
 cases ry
 obtain ⟨z,its,n,r,hl,e⟩:=I.lstM hH
 obtain ⟨z2,its2,n2,r2,hl2,e2⟩:=I.lstM hB
 refine PySem.P.add_list e e2 ?_ (by rw [Bq,Bq]; omega)
 have ea:its.toArray ++ its2.toArray=(its ++ its2).toArray:=by simp
 rw [ea]
 exact ⟨.ref _,_,I.lnew (t':=s.toks) (r.append r2) (by rw [Aj]; omega),rfl,q _ I.fresh⟩
end
section
variable {prog:Program} {w:World} {A:Around} {E:Value->Shared->Prop} {s:Shared}
end
section
variable {X:Cx}
end
end L2
namespace Att
open PySem PySem.W PySem.Calls PyProof.Rows
theorem nZ {P:Params} {h:Heap}:∀ (ns:List Int) (vs:List Value),WellAll P h vs (ns.map WData.int)->IntsAre vs ns:=by
 intro ns
 induction ns with
 | nil=>
   intro vs w
   rw [Gk] at w
   cases w
   exact .nil
 | cons n ns ih=>
   intro vs w
   rw [Ar] at w
   cases w with
   | cons a b=>
     cases a
     exact .cons _ _ (ih _ b)
theorem aJV {l:OpenLaw} {n:Nat} (hn:l.most=some n) {P:Params} {h:Heap} {args:List WData} {vals:List Value}
   (hpre:l.row.toRowW.claim.pre args=true) (hwl:WellAll P h vals args) :
   ∃ a vs ns,vals=[Value.ref a]/\args=[WData.list (ns.map WData.int)]/\h.get? a=some { cls:=.type "list",data:=.seq vs.toArray }/\IntsAre vs ns/\ns.length<=n:=by
 have hsh:WShape.hasAll [] args [.list .int]=true:=(pre_splitW hpre).1
 have hc:l.pre.holds [] { args:=args }=true:=(pre_splitW hpre).2
 obtain ⟨d,r,rfl,h1,h2⟩:=hasAllW_cons hsh
 obtain rfl:=hasAllW_nil h2
 obtain ⟨xs,rfl,h3⟩:=hasW_list h1
 obtain ⟨ns,rfl⟩:=items_int h3
 have hlen:ns.length<=n:=by
   unfold OpenLaw.pre at hc
   have h4:(WTm.not (.lt (.lit (.int (n:Int))) (.len (.arg 0)))).holds [] { args:=[.list (ns.map .int)] }=true:=by
     have h4:=(holds_andW hc).1
     rw [hn] at h4
     exact h4
   have h5:=condW_of h4 (w_not (w_lt w_lit (w_len_list (w_arg rfl))))
   rw [Ab] at h5
   refine Nat.le_of_not_lt λq=>?_
   have q':(n:Int) < ((ns.length:Nat):Int):=by omega
   first
     | (rw [Au q'] at h5; exact absurd h5 (by decide))
     | (simp at h5; omega)
 cases hwl with
 | cons w1 w2=>
   cases w2
   cases w1 with
   | list ho hall=>exact ⟨_,_,ns,rfl,rfl,ho,nZ ns _ hall,hlen⟩
theorem aZX (l:OpenLaw) (args:List WData):l.row.toRowW.claim.post args (.bool true) args=true :=
 postW_of (r:=l.row.toRowW) (X:=(true == true))
   (show WShape.has [] (.bool true) .bool=true by first | rfl | decide | simp [WShape.has,WShape.arms,WShape.armsAll])
   (show (WTm.eq .res (.lit (.bool true))).value [] { args:=args,res:=some (.bool true),after:=args }=some (.bool (true == true)) from w_eq_bool (w_res rfl) w_lit) rfl
theorem attach_call {l:OpenLaw} {n:Nat} {q:Program} {loose:List Str} {XP:(Str->Option Value)->Heap->Prop} {YP:World->Heap->Prop} {d:DefRec}
   (hn:l.most=some n) (hdf:d.params.defaults=[])
   (call:∀ (w:World) (s₀ s₁:Shared) (mg mb:Str->Option Value) (fa:Addr) (o:Obj) (pm cd doc:Value) (a:Addr) (vs:List Value) (ns:List Int),
     Ground q loose [] XP w s₀ mg mb s₁.heap->YP w s₁.heap->
     s₁.heap.get? fa=some o->o.data=.func (docDef d.name d.params d.body d.scope pm cd doc)->s₁.heap.CodeRec cd d.name->mg d.name=some (.ref fa)->
     s₁.heap.get? a=some { cls:=.type "list",data:=.seq vs.toArray }->IntsAre vs ns->ns.length<=n->s₁.gens=#[]->
     codeAny (model l.prog w) callerA (.call (.ref fa) ⟨[.ref a],[]⟩) (λr s'=>r=.ok (.ret (.bool true))/\OldK s₁.heap s'.heap/\s'.os=s₁.os/\AllBare s'.gens) s₁) :
   WalkO q loose XP YP l.row.toRowW d [] (λf vs=>PySem.call f vs):=by
 intro w s₀ s₁ mg mb G Y fa o pm cd doc dV kV ho hd hcd hD hmg hg args vals as hpre hlay hrd hwl hlo
 obtain rfl:dV=.none:=Dflts.none hD hdf
 obtain rfl:kV=.none:=Dflts.noKw hD
 obtain ⟨a,vs,ns,rfl,rfl,hobj,hints,hlen⟩:=aJV hn hpre hwl
 refine enter_call (Fj (call w s₀ s₁ mg mb fa o pm cd doc a vs ns G Y ho (fd_plain hd) hcd hmg hobj hints hlen hg) λr s' hq=>?_)
 obtain ⟨rfl,h2,h3,h4⟩:=hq
 exact ⟨.inl ⟨.bool true,.bool true,[],rfl,λ_=>rfl,.bool true,aZX l _,λ_=>⟨List.Pairwise.nil,λ_ hm=>(nomatch hm)⟩⟩,h2,h3,h4⟩
section
variable {prog:Program} {w:World} {A:Around} {E:Value->Shared->Prop} {s:Shared} {K:Frag}
end
end Att
namespace L2
open PySem PySem.Spec PyProof.Rows
theorem rO:∀ {vs:List Value} {ns:List Int},IntsAre vs ns->Vals (ns.map V.int) vs
 | _,_,.nil=>.nil
 | _,_,.cons n t h=>.cons ⟨t,rfl⟩ (rO h)
def dQO (H:Hp):Prop:=∀ b,H b=none\/∃ o xs,H b=some (.frz o (.lst xs))
theorem bZO {P:Program} {w:World} {K:PySem.W.Frag} {mg mb:Str->Option Value} {CX:CXT} {k:Nat} {fa a:Addr} {fd:FuncData} {x:Str} {sp:Sp} {s₁:Shared} {vs:List Value} {ns:List Int}
   (KX:K.In s₁.heap) (hns:s₁.heap.Ns mainGlobals mg) (hb:s₁.heap.Ns builtinsNs mb) (hbb:∀ x:Str,x≠"__name__"->mb x=bootBuiltins x) (hlim:s₁.heap.NoLimit) (hg:s₁.gens=#[])
   (ha:s₁.heap.get? a=some { cls:=.type "list",data:=.seq vs.toArray }) (hi:IntsAre vs ns) (hl:ns.length<=sizeLine) (hr:Room k callerA)
   (F:∀ base:Heap,K.In base->base.Ns mainGlobals mg->FnOk P w K mg base CX k fa fd [x] sp) (hbind:∀ (s:Shared) (u:Value),BindsTo s fd ⟨[u],[]⟩ [(x,u)])
   (hsp:∀ H:Hp,dQO H->SqL K H a (ns.map V.int)->sp [.ref a] H (λv _=>v=.bl true) λ_ _ _=>False)
   (hCX:∀ H e s',CX [] H s₁ (λ_ _ _=>False) e s'->False) :
   codeAny (model P w) callerA (.call (.ref fa) ⟨[.ref a],[]⟩) (λr s'=>r=.ok (.ret (.bool true))/\OldK s₁.heap s'.heap/\s'.os=s₁.os/\AllBare s'.gens) s₁:=by
 have rv:=rO hi
 have lenV:=hi.length
 -- from an abstract heap in which nothing but the script may be tracked
 have core:∀ H:Hp,dQO H->SqL K H a (ns.map V.int)->HOk P w H s₁.heap->(∀ b,H b≠none->b=a)->(H a≠none->K.lookup a=none)->
     codeAny (model P w) callerA (.call (.ref fa) ⟨[.ref a],[]⟩) (λr s'=>r=.ok (.ret (.bool true))/\OldK s₁.heap s'.heap/\s'.os=s₁.os/\AllBare s'.gens) s₁:=by
   intro H hO hS hok hA hK
   have base_of:∀ {b:Addr} {o:Obj},s₁.heap.get? b=some o->H b=none->(vJ s₁.heap H).get? b=some o:=λe n=>bQI e n
   have noA:∀ {b:Addr} {o:Obj} {es:Array DictEntry} {ep:Nat},s₁.heap.get? b=some o->o.data=.dict es ep->H b=none:=fun {b o es ep} e d=>by
     cases q:H b with
     | none=>rfl
     | some u=>
       have e':b=a:=hA b (by rw [q]; simp)
       subst e'
       rw [ha] at e; cases e
       have d':Data.seq vs.toArray _=Data.dict es ep:=d
       cases d'
   have nsK:∀ {b:Addr} {m:Str->Option Value},s₁.heap.Ns b m->(vJ s₁.heap H).Ns b m:=fun {b m} ⟨o,es,ep,e,d,r⟩=>⟨o,es,ep,base_of e (noA e d),d,r⟩
   have hKb:K.In (vJ s₁.heap H):=λb o e=>base_of (KX b o e) (by
     cases q:H b with
     | none=>rfl
     | some u=>
       have e':b=a:=hA b (by rw [q]; simp)
       subst e'
       rw [hK (by rw [q]; simp)] at e; cases e)
   have hM:Mod K mg (vJ s₁.heap H):=⟨hKb,nsK hns,⟨mb,nsK hb,hbb⟩,let ⟨mc,h1,h2⟩:=hlim; ⟨mc,nsK h1,h2⟩⟩
   have e0:Env0 P w K mg (vJ s₁.heap H) callerA [] s₁ H:=⟨rfl,hM,λb o e=>cQB e,Nat.le_of_eq (aZN _ _),trivial,λb hb=>absurd (show b∈([]:List Addr) from hb) (by simp),hok,.of_eq hg⟩
   refine Fj ((F _ hKb (nsK hns)).run callerA [] s₁ H ⟨[.ref a],[]⟩ [.ref a] [.ref a] _ _ hr e0 (hbind s₁ (.ref a)) (.cons rfl .nil) (hsp H hO hS)) λr s' h=>?_
   cases r with
   | error e=>exact (hCX H e s' h).elim
   | ok fl=>
     cases fl with
     | next=>exact False.elim h
     | brk=>exact False.elim h
     | cont=>exact False.elim h
     | ret u=>
       obtain ⟨v,H',os,bare,un,hok',r',q⟩:=h
       have q':v=.bl true:=q
       subst q'
       obtain rfl:u=Value.bool true:=r'
       refine ⟨rfl,OldK.of_keep λb o e=>?_,os,bare⟩
       cases q:H b with
       | none=>exact un.keep b o e q (by intro z; exact absurd (show b∈([]:List Addr) from z) (by simp)) (by simp)
       | some u=>
         rcases hO b with z | ⟨ob,xs,z⟩
         · rw [q] at z; cases z
         · have z2:=un.frzs b ob _ z
           obtain ⟨e1,_⟩:=hok b _ z
           obtain ⟨e2,_⟩:=hok' b _ z2
           rw [e] at e1; cases e1
           exact e2
 cases hk:K.lookup a with
 | some o=>
   -- the script is one of the module's own objects
   have e:=KX a o hk
   rw [ha] at e
   cases e
   refine core (λ_=>none) (λ_=>.inl rfl) (.inr ⟨_,vs.toArray,_,hk,rfl,rfl,rfl,by rw [List.size_toArray,lenV]; exact hl,by simpa using rv⟩) (λb u z=>by have z':(none:Option HO)=some u:=z; cases z') (λb z=>absurd rfl z) λz=>absurd rfl z
 | none=>
   refine core (λb=>if b=a then some (.frz { cls:=.type "list",data:=.seq vs.toArray } (.lst (ns.map V.int))) else none) (λb=>?_) (.inl (.inr ⟨{ cls:=.type "list",data:=.seq vs.toArray },if_pos rfl⟩)) (λb u z=>?_) (λb z=>?_) λ_=>hk
   · by_cases hb:b=a
     · exact .inr ⟨_,_,if_pos hb⟩
     · exact .inl (if_neg hb)
   · by_cases hb:b=a
     · have z':=(if_pos hb).symm.trans z
       cases z'
       subst hb
       exact ⟨ha,by rw [Ab]; exact hl,vs,_,rv,ha⟩
     · have z':=(if_neg hb).symm.trans z
       cases z'
   · by_cases hb:b=a
     · exact hb
     · exact absurd (if_neg hb) z
end L2
namespace L2
open PySem PySem.Spec PyProof.Rows
theorem bJ5 {l:PySem.W.OpenLaw} {n k:Nat} {q:Program} {loose:List Str} {XP:(Str->Option Value)->Heap->Prop} {YP:World->Heap->Prop} {d:DefRec} {K:Params->PySem.W.Frag} {CX:World->CXT} {sp:World->Sp} {x:Str}
   (hn:l.most=some n) (hn2:n<=sizeLine) (hdf:d.params.defaults=[]) (hr:Room k callerA)
   (hY:∀ (w:World) (h:Heap),YP w h->(K w.params).In h)
   (F:∀ (w:World) (mg:Str->Option Value) (fa:Addr) (h:Heap),(K w.params).In h->h.Ns mainGlobals mg->mg d.name=some (.ref fa)->
     ∃ fd:FuncData,(∀ (s:Shared) (u:Value),BindsTo s fd ⟨[u],[]⟩ [(x,u)])/\
       ∀ base:Heap,(K w.params).In base->base.Ns mainGlobals mg->FnOk l.prog w (K w.params) mg base (CX w) k fa fd [x] (sp w))
   (hsp:∀ (w:World) (H:Hp) (a:Addr) (ns:List Int),ns.length<=n->dQO H->SqL (K w.params) H a (ns.map V.int)->sp w [.ref a] H (λv _=>v=.bl true) λ_ _ _=>False)
   (hCX:∀ (w:World) (H:Hp) (s:Shared) (e:Value) (s':Shared),CX w [] H s (λ_ _ _=>False) e s'->False) :
   PySem.W.WalkO q loose XP YP l.row.toRowW d [] (λf vs=>PySem.call f vs):=by
 refine Att.attach_call hn hdf λw s₀ s₁ mg mb fa o pm cd doc a vs ns G Y ho hd hcd hmg hobj hints hlen hg=>?_
 have KX:=hY w _ Y
 obtain ⟨fd,hb,hF⟩:=F w mg fa _ KX G.T.g hmg
 exact bZO KX G.T.g G.T.b G.T.builtins G.T.nolimit hg hobj hints (Bf hlen hn2) hr hF hb (λH hO hS=>hsp w H a ns hlen hO hS) λH e s'=>hCX w H s₁ e s'
end L2
namespace L2
open PySem PySem.Spec PyProof.Rows
def aR (s:Stmt):Arguments:=match s with
 | .FunctionDef _ a _ _ _ _ _ _ _ _=>a
 | _=>{ posonlyargs:=[],args:=[],vararg:=none,kwonlyargs:=[],kw_defaults:=[],kwarg:=none,defaults:=[] }
def aQ (s:Stmt):List Stmt:=match s with
 | .FunctionDef _ _ b _ _ _ _ _ _ _=>b
 | _=>[]
def aG (s:Stmt):Scope:=match s with
 | .FunctionDef _ _ _ _ _ _ sc _ _ _=>sc
 | _=>{ kind:=.function,names:=[],isGenerator:=false,isCoroutine:=false }
abbrev CX0:CXT:=λ_ _ _ _ _ _=>False
abbrev E0:XK:=λ_ _ _=>False
theorem dZ8 {X:Cx}:nF CX0 X E0:=λ_ _ _ _ _ _ _ h=>h.elim
structure Fun (K:PySem.W.Frag) (x qual:Str) (st:Stmt) (f:Addr) (fd:FuncData):Prop where
 ex:∃ (oc:Value) (od:Option Addr) (kV doc pm:Value) (an:Option Addr) (cdv ct:Value) (osl:Array (Option Value)),
   fd=PySem.W.fnOf x qual (aR st) (aQ st) (aG st) .none kV doc pm an cdv ct/\K.lookup f=some ⟨oc,od,.func fd,osl⟩/\PySem.W.codeIn K cdv qual=true
 kp:PySem.W.keepIn K (.ref f)=true
section
variable {P:Program} {w:World} {K:PySem.W.Frag} {mg:Str->Option Value} {base:Heap}
theorem Fun.ok {x qual:Str} {st:Stmt} {f:Addr} {fd:FuncData} {N ps:List Str} {k:Nat} {sp:Sp} (F:Fun K x qual st f fd) (S:FnScope N ps (aG st)) (len:∀ vs H Q E,sp vs H Q E->vs.length=ps.length)
   (hbody:∀ (cdv:Value) (A:Around) (outer:List Env) (s:Shared) (H:Hp) (vs:List V) (Q:VK) (E:XK),Room k (A.deeper (envOfC qual (aG st) s.heap.objs.size f cdv))->sp vs H Q E->
     ∃ t,PSs (gW CX0 P w K mg base N qual (aG st) f cdv A outer s H E).nox (aQ st) t/\t { nx:=λ_ H'=>Q .non H',rt:=Q } (lU N vs) H):FnOk P w K mg base CX0 (k + 1) f fd ps sp:=by
 obtain ⟨oc,od,kV,doc,pm,an,cdv,ct,osl,rfl,lk,hcd⟩:=F.ex
 refine cX1 lk hcd S len λA outer s H vs Q E hr hsp=>?_
 obtain ⟨t,h,q⟩:=hbody cdv A outer s H vs Q E hr hsp
 exact ⟨t,h.nox,q⟩
theorem Fun.binds {x qual:Str} {st:Stmt} {f:Addr} {fd:FuncData} {ps:List Str} (F:Fun K x qual st f fd)
   (h:∀ (kV doc pm:Value) (an:Option Addr) (cdv ct:Value) (us:List Value),us.length=ps.length->bindArgs (PySem.W.fnOf x qual (aR st) (aQ st) (aG st) .none kV doc pm an cdv ct) ⟨us,[]⟩=pure (ps.zip us)):Binds K fd ps []:=by
 obtain ⟨oc,od,kV,doc,pm,an,cdv,ct,osl,rfl,lk,hcd⟩:=F.ex
 exact .all (h kV doc pm an cdv ct)
theorem bG {x qual:Str} {st:Stmt} {f:Addr} {oc:Value} {od an:Option Addr} {osl:Array (Option Value)} {kV doc pm cdv ct:Value} (l:K.lookup f=some ⟨oc,od,.func (PySem.W.fnOf x qual (aR st) (aQ st) (aG st) .none kV doc pm an cdv ct),osl⟩)
   (c:PySem.W.codeIn K cdv qual=true) (k:PySem.W.keepIn K (.ref f)=true):Fun K x qual st f (PySem.W.fnOf x qual (aR st) (aQ st) (aG st) .none kV doc pm an cdv ct):=⟨⟨oc,od,kV,doc,pm,an,cdv,ct,osl,rfl,l,c⟩,k⟩
end
section
variable {X:Cx}
theorem pv (i:Nat) {x:Str} {pos:Pos} (hN:X.N[i]?=some x:=by rfl) (hv:Vis X.env.scope x:=by first | exact Or.inl rfl | exact Or.inr (Or.inl rfl) | exact Or.inr (Or.inr rfl)) (hd:(x == ("__debug__" : Str))=false:=by decide)
   (hcd:(x == ("__classdict__" : Str))=false:=by decide):PE X (.Name x pos) (dJL i):=cJV hN hv hd hcd
end
theorem dJ9 {A B:Prop} (h:B):if false=true then A else B:=by
 rw [if_neg Ao]
 exact h
theorem eQF {A B:Prop} (h:A):if true=true then A else B:=by
 rw [if_pos rfl]
 exact h
theorem gS {c A B:Prop} [Decidable c] (h1:c->A) (h2:¬ c->B):if c then A else B:=by
 by_cases h:c
 · rw [if_pos h]
   exact h1 h
 · rw [if_neg h]
   exact h2 h
def Same (H H':Hp):Prop:=∀ b o,H b=some o->H' b=some o
theorem Same.refl (H:Hp):Same H H:=λ_ _ h=>h
theorem Same.trans {H H1 H2:Hp} (a:Same H H1) (b:Same H1 H2):Same H H2:=λc o h=>b c o (a c o h)
theorem Same.free {H H':Hp} (e:Same H H') {l:Addr} (h:H' l=Option.none):H l=Option.none:=by
 cases q:H l with
 | none=>rfl
 | some o=>
   rw [e l o q] at h
   cases h
theorem Same.seq {K:PySem.W.Frag} {H H':Hp} {a:Addr} {xs:List V} (e:Same H H') (h:SqL K H a xs):SqL K H' a xs:=by
 rcases h with (h | ⟨o,h⟩) | h
 · exact .inl (.inl (e _ _ h))
 · exact .inl (.inr ⟨o,e _ _ h⟩)
 · exact .inr h
end L2
set_option maxHeartbeats 4000000
namespace FlT
open PySem PySem.Spec PyProof.Rows
def sIx (n d:Nat):Option Int->Nat
 | none=>d
 | some v=>if v < 0 then (v + (n:Int)).toNat else min v.toNat n
theorem app_cps (x y:Str):(x ++ y).cps.toList=x.cps.toList ++ y.cps.toList:=by
 show (x.cps ++ y.cps).toList=_
 simp
theorem str_ext {x y:Str} (h:x.cps.toList=y.cps.toList):x=y:=by
 obtain ⟨⟨x⟩⟩:=x
 obtain ⟨⟨y⟩⟩:=y
 cases h
 rfl
end FlT
set_option maxHeartbeats 4000000
namespace L2
open PySem PySem.Spec PyProof.Rows
theorem PE.imp {X:Cx} {e:Expr} {t t':TE} (h:PE X e t) (i:∀ σ H Q,t' σ H Q->t σ H Q):PE X e t':=λpins s σ H Q I q=>h pins s σ H Q I (i σ H Q q)
theorem PT.imp {X:Cx} {e:Expr} {t t':TT} (h:PT X e t) (i:∀ σ H Q,t' σ H Q->t σ H Q):PT X e t':=λpins s σ H Q I q=>h pins s σ H Q I (i σ H Q q)
theorem OpR.imp {X:Cx} {f:Value->Value->Sem Value} {r r':R2} (h:OpR X f r) (i:∀ x y H Q,r' x y H Q->r x y H Q):OpR X f r':=λpins s σ H x y v u Q I rx ry q=>h pins s σ H x y v u Q I rx ry (i x y H Q q)
theorem CallR.imp {X:Cx} {f:Value} {r r':List V->Hp->VK->Prop} (h:CallR X f r) (i:∀ xs H Q,r' xs H Q->r xs H Q):CallR X f r':=λpins s σ H xs us Q I rx q=>h pins s σ H xs us Q I rx (i xs H Q q)
theorem MtR.imp {X:Cx} {id:String} {r r':V->List V->Hp->VK->Prop} (h:MtR X id r) (i:∀ x xs H Q,r' x xs H Q->r x xs H Q):MtR X id r':=λpins s σ H x xs v us Q I rx rs q=>h pins s σ H x xs v us Q I rx rs (i x xs H Q q)
theorem IxR.imp {X:Cx} {r r':R2} (h:IxR X r) (i:∀ x y H Q,r' x y H Q->r x y H Q):IxR X r':=λvalue slice pins s σ H x y v u Q I rx ry q hs=>h value slice pins s σ H x y v u Q I rx ry (i x y H Q q) hs
theorem SlR.imp {X:Cx} {r r':V->Option Int->Option Int->Hp->VK->Prop} (h:SlR X r) (i:∀ x lo hi H Q,r' x lo hi H Q->r x lo hi H Q):SlR X r':=λpins s σ H x v vl vu lo hi sl Q I rx hs pl pu q=>h pins s σ H x v vl vu lo hi sl Q I rx hs pl pu (i x lo hi H Q q)
def Its (z:Str):It:=⟨λi _=>i < z.cps.size,λi H x H'=>H'=H/\∃ c,z.cps[i]?=some c/\x=.str ⟨#[c]⟩,λi _=>z.cps.size<=i⟩
theorem yK {P:Program} {w:World} {K:PySem.W.Frag} {tg:Expr} (z:Str) (t:Tok) (it:Addr):Turn P w K tg (Its z) [it] it (λi h=>h.IsStrIter it "str_ascii_iterator" z t i) where
 mem:=by simp
 obj:=λi h st b hb=>by
   have e:b=it:=by simpa using hb
   subst e
   obtain ⟨o,e,c,d⟩:=st
   exact ⟨o,e,λv z=>by rw [d] at z; cases z⟩
 keep:=λi h h' st k=>let ⟨o,ho,r⟩:=st; ⟨o,k it (by simp) o ho,r⟩
 item:=by
   intro X hP hw hK hc i pins s σ H E I hf st hg
   subst hP hw hK
   obtain ⟨f0,f1,f2,f3,f4,f5⟩:=hf it (by simp)
   have hi:i < z.cps.size:=hg
   refine wpAny_pyNext_ascii_item st (c:=z.cps[i]) (by simp [hi]) λh' st' sb=>?_
   have I1:Inv X pins σ H { s with heap:=h',toks:=s.toks + 1 }:=I.turned (λb o hb e=>(sb.2 b hb).trans e) f0 f1 f3 f4 f5
   obtain ⟨o,e,c,d⟩:=id st'
   exact ⟨_,rfl,pZ (s:={ s with heap:=h',toks:=s.toks + 1 }) e c d (by decide) ⟨.str ⟨#[z.cps[i]]⟩,H,I1,⟨_,rfl⟩,⟨rfl,_,by simp [hi],rfl⟩,st',λb hb=>(hf b hb).1⟩⟩
 done:=by
   intro X hP hw hK hc i pins s σ H E I hf st hg
   subst hP hw hK
   obtain ⟨f0,f1,f2,f3,f4,f5⟩:=hf it (by simp)
   have hi:z.cps.size<=i:=hg
   exact wpAny_pyNext_ascii_end (I.ok.hd hc) st (by simp [hi]) λh' eb=>⟨rfl,I.turned (t':=s.toks) (λb o hb e=>eb b o hb e) f0 f1 f3 f4 f5⟩
 self:=λ_ _ _ _ _ st h=>wpAny_pyIter_striter_ascii st h
theorem aJI {P:Program} {w:World} {K:PySem.W.Frag} {tg:Expr} (z:Str) (t:Tok) (it:Addr):Turn P w K tg (Its z) [it] it (λi h=>h.IsStrIter it "str_iterator" z t i) where
 mem:=by simp
 obj:=λi h st b hb=>by
   have e:b=it:=by simpa using hb
   subst e
   obtain ⟨o,e,c,d⟩:=st
   exact ⟨o,e,λv z=>by rw [d] at z; cases z⟩
 keep:=λi h h' st k=>let ⟨o,ho,r⟩:=st; ⟨o,k it (by simp) o ho,r⟩
 item:=by
   intro X hP hw hK hc i pins s σ H E I hf st hg
   subst hP hw hK
   obtain ⟨f0,f1,f2,f3,f4,f5⟩:=hf it (by simp)
   have hi:i < z.cps.size:=hg
   refine wpAny_pyNext_wide_item st (c:=z.cps[i]) (by simp [hi]) λh' st' sb=>?_
   have I1:Inv X pins σ H { s with heap:=h',toks:=s.toks + 1 }:=I.turned (λb o hb e=>(sb.2 b hb).trans e) f0 f1 f3 f4 f5
   obtain ⟨o,e,c,d⟩:=id st'
   exact ⟨_,rfl,pZ (s:={ s with heap:=h',toks:=s.toks + 1 }) e c d (by decide) ⟨.str ⟨#[z.cps[i]]⟩,H,I1,⟨_,rfl⟩,⟨rfl,_,by simp [hi],rfl⟩,st',λb hb=>(hf b hb).1⟩⟩
 done:=by
   intro X hP hw hK hc i pins s σ H E I hf st hg
   subst hP hw hK
   obtain ⟨f0,f1,f2,f3,f4,f5⟩:=hf it (by simp)
   have hi:z.cps.size<=i:=hg
   exact wpAny_pyNext_wide_end (I.ok.hd hc) st (by simp [hi]) λh' eb=>⟨rfl,I.turned (t':=s.toks) (λb o hb e=>eb b o hb e) f0 f1 f3 f4 f5⟩
 self:=λ_ _ _ _ _ st h=>wpAny_pyIter_striter_wide st h
section
variable {X:Cx} {tg:Expr}
end
theorem bJU {z:Str} {g:TG} {tb:TS} {D:Ends} {σ:St} {H:Hp} (Pv:Nat->St->Hp->Prop) (h0:Pv 0 σ H)
   (hs:∀ i c σ H,z.cps.toList[i]?=some c->Pv i σ H->g (.str ⟨#[c]⟩) σ H λσ2 H2=>tb { D with nx:=Pv (i + 1),ct:=Pv (i + 1),bk:=D.nx } σ2 H2) (hd:∀ σ H,Pv z.cps.toList.length σ H->D.nx σ H) :
   ∃ W:Nat->Nat->St->Hp->Prop,(∃ m,W 0 m σ H)/\∀ i m σ H,W i m σ H->
     ((Its z).stop i H/\D.nx σ H)\/((Its z).go i H/\∃ N:St->Hp->Prop,(∀ σ' H',N σ' H'->∃ m',m' < m/\W (i + 1) m' σ' H')/\∀ x H',(Its z).yld i H x H'->g x σ H' λσ2 H2=>tb { D with nx:=N,ct:=N,bk:=D.nx } σ2 H2):=by
 have hl:z.cps.toList.length=z.cps.size:=by simp
 rw [hl] at hd
 refine ⟨λi m σ H=>m=z.cps.size - i/\i<=z.cps.size/\Pv i σ H,⟨z.cps.size,by simp,Nat.zero_le _,h0⟩,?_⟩
 rintro i m σ H ⟨rfl,hi,p⟩
 by_cases hlt:i < z.cps.size
 · refine .inr ⟨hlt,Pv (i + 1),λσ' H' p'=>⟨z.cps.size - (i + 1),by omega,rfl,hlt,p'⟩,λx H' y=>?_⟩
   obtain ⟨e,c,hc,hx⟩:=y
   subst e hx
   exact hs i c σ _ (by simpa using hc) p
 · have e:i=z.cps.size:=by omega
   subst e
   exact .inl ⟨Ag _,hd σ H p⟩
section
variable {X:Cx} {a b c:Expr} {ta tb tc:TE} {pos:Pos}
def eQA:V->Option Int->Option Int->Hp->VK->Prop:=λx lo hi H Q=>∃ z,x=.str z/\z.length<=sizeLine/\Q (.str (Txt.slice z lo hi)) H
theorem cJ1:SlR X eQA:=by
 intro pins s σ H x v vl vu lo hi sl Q I rx hs pl pu h
 obtain ⟨z,rfl,hz,q⟩:=h
 obtain ⟨t,rfl⟩:=rx
 refine ⟨"str",_,PySem.F.slot_str_getitem.lookup,typeIs_str _ _ _,?_⟩
 cases pl with
 | none=>
   cases pu with
   | none=>exact En (l:=none) (u:=none) (st:=none) hs rfl (post_val_or_str ⟨Bf (Txt.slice_le z _ _) hz,λt' k=>⟨.str (Txt.slice z none none),H,I.tok _,⟨_,rfl⟩,q⟩⟩)
   | int j uj=>exact En (l:=none) (u:=some (j,uj)) (st:=none) hs rfl (post_val_or_str ⟨Bf (Txt.slice_le z _ _) hz,λt' k=>⟨.str (Txt.slice z none (some j)),H,I.tok _,⟨_,rfl⟩,q⟩⟩)
 | int i ui=>
   cases pu with
   | none=>exact En (l:=some (i,ui)) (u:=none) (st:=none) hs rfl (post_val_or_str ⟨Bf (Txt.slice_le z _ _) hz,λt' k=>⟨.str (Txt.slice z (some i) none),H,I.tok _,⟨_,rfl⟩,q⟩⟩)
   | int j uj=>exact En (l:=some (i,ui)) (u:=some (j,uj)) (st:=none) hs rfl (post_val_or_str ⟨Bf (Txt.slice_le z _ _) hz,λt' k=>⟨.str (Txt.slice z (some i) (some j)),H,I.tok _,⟨_,rfl⟩,q⟩⟩)
def cQV:V->List V->Hp->VK->Prop:=λx vs H Q=>∃ z y i rest,x=.str z/\vs=[.str y]/\Builtin.Str.occurrences z y 0 z.length 1=i :: rest/\Q (.int ((i:Nat):Int)) H
theorem mt_index:MtR X "str.index" cQV:=by
 intro pins s σ H x vs v us Q I rx rv h
 obtain ⟨z,y,i,rest,rfl,rfl,ho,q⟩:=h
 obtain ⟨t,rfl⟩:=rx
 obtain ⟨u,rfl,ru⟩:=rv.one
 obtain ⟨t',rfl⟩:=ru
 exact SC.index ho ⟨.int i,H,I.tok _,⟨_,rfl⟩,q⟩
theorem rK:CallR X (.type "int") (λxs H Q=>∃ x n,xs=[.str x]/\PySem.intText? x=some n/\x.length<=640/\Q (.int n) H):=by
 intro pins s σ H xs us Q I r h
 obtain ⟨x,n,rfl,hn,hl,q⟩:=h
 obtain ⟨u,rfl,t,rfl⟩:=gR r
 exact PySem.W.KIN.call_text hn hl ⟨.int n,H,I.tok _,⟨_,rfl⟩,q⟩
theorem call_isinst:CallR X (.builtin "isinstance") (λxs H Q=>∃ x T t b,xs=[x,.ty T]/\TyOf X.K H x t/\PySem.W.kitOne X.K t (.type T)=some b/\Q (.bl b) H):=by
 intro pins s σ H xs us Q I r h
 obtain ⟨x,T,t,b,rfl,ty,e,q⟩:=h
 obtain ⟨u,w',rfl,rx,ry⟩:=rX r
 cases (show w'=Value.type T from ry)
 exact aZI I rx ty e λtk=>⟨.bl b,H,I.tok _,rfl,q⟩
theorem vY {bs:List Bool}:∀ {us:List Value},Vals (bs.map V.bl) us->LSm.BoolsAre us bs:=by
 induction bs with
 | nil=>intro us r; rw [Gk] at r; cases r; exact .nil
 | cons n ns ih=>
   intro us r
   rw [Ar] at r
   cases r with
   | cons r1 r2=>
     cases r1
     exact .cons n (ih r2)
theorem qM (hc:X.calm=true):CallR X (.builtin "all") (λxs H Q=>∃ (p:Addr) (bs:List Bool),xs=[.ref p]/\SqL X.K H p (bs.map V.bl)/\Q (.bl (bs.all id)) H):=by
 intro pins s σ H xs us Q I r h
 obtain ⟨p,bs,rfl,hp,q⟩:=h
 obtain ⟨u,rfl,ru⟩:=gR r
 cases ru
 obtain ⟨its,rv,pl,hz⟩:=I.list hp
 have hb:=vY rv
 have hl:=pl.isList
 have hlt:p < s.heap.objs.size:=by obtain ⟨_,e,_⟩:=hl; exact Aq e
 refine call_all_walk (Gb hl ?_)
 refine ⟨s.heap.objs.size,[s.heap.objs.size,p],[s.heap.objs.size],its.toArray.size,_,_,λi=>(bs[i]?).getD true,rfl,Walks.list (A:=X.A.in1) (I.ok.hd hc) _ p (Bk hlt) its.toArray,
   ⟨⟨_,Ax _ rfl,rfl,rfl⟩,hl.push _⟩,λi v s' Q' E' hP hQ=>?_,λh' tk hk=>?_⟩
 · obtain ⟨b,e,rfl⟩:=hb.get i v (by simpa using hP)
   simp only [e,Option.getD_some] at hQ
   exact Fb hQ
 · have e:((List.range its.toArray.size).all λi=>(bs[i]?).getD true)=bs.all id:=by
     rw [Bq,hb.length]; exact LSm.range_all bs
   rw [e]
   exact ⟨.bl (bs.all id),H,I.kept (LSm.kept_iter hk),rfl,q⟩
def jA (xs ys:List V):Bool:=xs.length == ys.length && (List.range xs.length).all λj=>eqV (xs.getD j .non) (ys.getD j .non)
theorem Vals.getD_rel {xs:List V} {us:List Value} {j:Nat} (r:Vals xs us) (h:j < us.length):RelV (xs.getD j .non) us[j]:=by
 have hl:=r.length
 have hx:j < xs.length:=by omega
 obtain ⟨u,hu,ru⟩:=r.get (Aa hx)
 rw [Aa h] at hu
 cases hu
 rw [Ac,Aa hx]
 exact ru
theorem gI {xs:List V} (h:xs.all bV=true) (j:Nat):bV (xs.getD j .non)=true:=by
 rw [Ac]
 cases e:xs[j]? with
 | none=>rfl
 | some x=>exact Dk.mp h x (Ai e)
def dQ3 (K:PySem.W.Frag) (neg:Bool):R2:=λx y H Q=>∃ p q xs ys,x=.ref p/\y=.ref q/\SqL K H p xs/\SqL K H q ys/\xs.all bV=true/\ys.all bV=true/\Q (.bl (if neg then !jA xs ys else jA xs ys)) H
theorem xA {xs ys:List V} (h:xs.length≠ys.length):jA xs ys=false:=by
 unfold jA
 rw [Dy.mpr h,Bool.false_and]
theorem kF {xs ys:List V} (h:xs.length=ys.length):jA xs ys=(List.range xs.length).all λj=>eqV (xs.getD j .non) (ys.getD j .non):=by
 unfold jA
 rw [h,Gf,Bool.true_and]
theorem yD (hu:X.A.units < cLine):OpR X (compareOp .Eq) (dQ3 X.K false):=by
 intro pins s σ H x y v u Q I rx ry h
 obtain ⟨p,q,xs,ys,rfl,rfl,hp,hq,fx,fy,k⟩:=h
 cases rx
 cases ry
 obtain ⟨its,r1,l1,_⟩:=I.list hp
 obtain ⟨its2,r2,l2,_⟩:=I.list hq
 have e1:=r1.length
 have e2:=r2.length
 by_cases hl:xs.length=ys.length
 · refine SeqAt.eq_listAt (e:=λj=>eqV (xs.getD j .non) (ys.getD j .non)) l1.isList l2.isList (by simp only [List.size_toArray]; omega) hu (λj h1 h2=>?_) ?_
   · have h1':j < its.length:=by simpa using h1
     have h2':j < its2.length:=by simpa using h2
     simpa using mV (A:=X.A.in1) (s:=s) (r1.getD_rel h1') (r2.getD_rel h2') (gI fx j) (gI fy j)
   · refine ⟨.bl (jA xs ys),H,I,?_,k⟩
     rw [kF hl]
     simp only [List.size_toArray,<-e1]
     rfl
 · refine SeqAt.eq_list_lengthsAt l1.isList l2.isList (by simp only [List.size_toArray,bne_iff_ne]; omega) hu ⟨.bl (jA xs ys),H,I,?_,k⟩
   rw [xA hl]
   rfl
theorem yX (hu:X.A.units < cLine):OpR X (compareOp .NotEq) (dQ3 X.K true):=by
 intro pins s σ H x y v u Q I rx ry h
 obtain ⟨p,q,xs,ys,rfl,rfl,hp,hq,fx,fy,k⟩:=h
 cases rx
 cases ry
 obtain ⟨its,r1,l1,_⟩:=I.list hp
 obtain ⟨its2,r2,l2,_⟩:=I.list hq
 have e1:=r1.length
 have e2:=r2.length
 by_cases hl:xs.length=ys.length
 · refine SeqAt.RcNeAt.lists (e:=λj=>eqV (xs.getD j .non) (ys.getD j .non)) l1.isList l2.isList (by simp only [List.size_toArray]; omega) hu (λj h1 h2=>?_) X.prog X.w _ _ ?_
   · have h1':j < its.length:=by simpa using h1
     have h2':j < its2.length:=by simpa using h2
     simpa using mV (A:=X.A.in1) (s:=s) (r1.getD_rel h1') (r2.getD_rel h2') (gI fx j) (gI fy j)
   · refine ⟨.bl (!jA xs ys),H,I,?_,k⟩
     rw [kF hl]
     simp only [List.size_toArray,<-e1]
     rfl
 · refine SeqAt.RcNeAt.lists_lengths l1.isList l2.isList (by simp only [List.size_toArray,bne_iff_ne]; omega) hu X.prog X.w _ _ ⟨.bl (!jA xs ys),H,I,?_,k⟩
   rw [xA hl]
   rfl
end
end L2
set_option maxHeartbeats 4000000
namespace L2
open PySem PySem.Spec PyProof.Rows
def rdO:Option HO->Option (List V)
 | some (.lst xs)=>some xs
 | some (.frz _ (.lst xs))=>some xs
 | _=>none
def rdL (H:Hp) (a:Addr):Option (List V):=rdO (H a)
theorem bD {K:PySem.W.Frag} {H:Hp} {a:Addr} {xs:List V} (h:rdL H a=some xs):SqL K H a xs:=by
 unfold rdL rdO at h
 split at h
 · cases h; exact .inl (.inl (by assumption))
 · cases h; exact .inl (.inr ⟨_,by assumption⟩)
 · cases h
theorem aM {H:Hp} {a:Addr} {xs:List V} (h:H a=some (.lst xs)):rdL H a=some xs:=by unfold rdL; rw [h]; rfl
theorem cC {H:Hp} {a:Addr} {xs:List V}:rdL (upd H a (.lst xs)) a=some xs:=aM aE
theorem zB {H:Hp} {a b:Addr} {o:HO} (h:b≠a):rdL (upd H a o) b=rdL H b:=by unfold rdL; rw [aK h]
theorem aI {H H':Hp} {a:Addr} {xs:List V} (e:Same H H') (h:rdL H a=some xs):rdL H' a=some xs:=by
 unfold rdL at h ⊢
 cases q:H a with
 | none=>rw [q] at h; cases h
 | some o=>rw [e a o q,<-q]; exact h
theorem aF {H:Hp} {p:Addr} (h:H p=none) (o:HO):Same H (upd H p o):=λb u q=>by rw [aK (bJ q h)]; exact q
def fZ (H:Hp) (a:Addr):Option (List V):=match H a with | some (.lst xs)=>some xs | _=>none
theorem bN {H:Hp} {a:Addr} {xs:List V} (h:H a=some (.lst xs)):fZ H a=some xs:=by unfold fZ; rw [h]
theorem iO {H:Hp} {a:Addr} {xs:List V} (h:fZ H a=some xs):H a=some (.lst xs):=by
 unfold fZ at h
 split at h
 · cases h; assumption
 · cases h
theorem mT {H:Hp} {a:Addr} {xs:List V}:fZ (upd H a (.lst xs)) a=some xs:=bN aE
theorem cQL {H:Hp} {a b:Addr} {o:HO} (h:b≠a):fZ (upd H a o) b=fZ H b:=by unfold fZ; rw [aK h]
def lC (H:Hp) (a:Addr):Option (List V):=match H a with | some (.tup xs)=>some xs | _=>none
theorem iU {H:Hp} {a:Addr} {xs:List V} (h:H a=some (.tup xs)):lC H a=some xs:=by unfold lC; rw [h]
theorem oE {H:Hp} {a:Addr} {xs:List V} (h:lC H a=some xs):H a=some (.tup xs):=by
 unfold lC at h
 split at h
 · cases h; assumption
 · cases h
theorem mW {H:Hp} {a:Addr} {xs:List V}:lC (upd H a (.tup xs)) a=some xs:=iU aE
section
variable {X:Cx} {a b c:Expr} {ta tb tc:TE} {pos:Pos}
def cX0 (i:Nat):TE:=λσ H Q=>match σ[i]? with | some (some v)=>Q v H | _=>False
theorem mv (i:Nat) {x:Str} {pos:Pos} (hN:X.N[i]?=some x:=by rfl) (hv:Vis X.env.scope x:=by first | exact Or.inl rfl | exact Or.inr (Or.inl rfl) | exact Or.inr (Or.inr rfl)) (hd:(x == ("__debug__" : Str))=false:=by decide)
   (hcd:(x == ("__classdict__" : Str))=false:=by decide):PE X (.Name x pos) (cX0 i):=(pv i hN hv hd hcd).imp λσ H Q q=>by
 unfold cX0 at q
 split at q
 · exact ⟨_,by assumption,q⟩
 · exact q.elim
def mI (g:Int->Int->V):R2:=λx y H Q=>match x,y with | .int i,.int j=>Q (g i j) H | _,_=>False
theorem yH {g:Int->Int->V} {x y:V} {H:Hp} {Q:VK} (q:mI g x y H Q):rI0 g x y H Q:=by
 unfold mI at q
 split at q
 · exact ⟨_,_,rfl,rfl,q⟩
 · exact q.elim
def mIC (C:Int->Int->Prop) (g:Int->Int->V):R2:=λx y H Q=>match x,y with | .int i,.int j=>C i j/\Q (g i j) H | _,_=>False
theorem vK {C:Int->Int->Prop} {g:Int->Int->V} {x y:V} {H:Hp} {Q:VK} (q:mIC C g x y H Q):rI C g x y H Q:=by
 unfold mIC at q
 split at q
 · exact ⟨_,_,rfl,rfl,q.1,q.2⟩
 · exact q.elim
def aZV:R2:=λx y H Q=>match x,y with
 | .int i,.int j=>Q (.int (i + j)) H
 | .str z,.str y=>z.length + y.length<=sizeLine/\Q (.str (z ++ y)) H
 | .ref p,.ref q=>(match fZ H p,fZ H q with
   | some xs,some zs=>xs.length + zs.length<=sizeLine/\∀ r,H r=none->Q (.ref r) (upd H r (.lst (xs ++ zs)))
   | _,_=>False)
 | _,_=>False
theorem cD:OpR X (binaryOp .Add) aZV:=by
 intro pins s σ H x y v u Q I rx ry q
 unfold aZV at q
 split at q
 · exact dQR pins s σ H _ _ v u Q I rx ry ⟨_,_,rfl,rfl,q⟩
 · exact yZ pins s σ H _ _ v u Q I rx ry ⟨_,_,rfl,rfl,q.1,q.2⟩
 · split at q
   · exact dQK pins s σ H _ _ v u Q I rx ry ⟨_,_,_,_,rfl,rfl,iO (by assumption),iO (by assumption),q.1,q.2⟩
   · exact q.elim
 · exact q.elim
theorem jY:OpR X (binaryOp .Sub) (mI λi j=>.int (i - j)):=op_sub.imp λ_ _ _ _ q=>yH q
theorem aJ3:OpR X (binaryOp .Mult) (mIC CMul λi j=>.int (i * j)):=op_mul.imp λ_ _ _ _ q=>vK q
theorem fO:OpR X (binaryOp .Mod) (mIC (λ_ j=>0 < j) λi j=>.int (i % j)):=op_mod.imp λ_ _ _ _ q=>vK q
theorem kB:OpR X (binaryOp .FloorDiv) (mIC dZJ λi j=>.int (i / j)):=op_fdiv.imp λ_ _ _ _ q=>vK q
theorem bXF:OpR X (compareOp .Lt) (mI λi j=>.bl (decide (i < j))):=op_lt.imp λ_ _ _ _ q=>yH q
theorem cQX:OpR X (compareOp .Gt) (mI λi j=>.bl (decide (j < i))):=op_gt.imp λ_ _ _ _ q=>yH q
def cJ3:V->Hp->VK->Prop:=λx H Q=>match x with | .int i=>Q (.int (-i)) H | _=>False
theorem cZK:UnR X (unaryOp .USub) cJ3:=λpins s σ H x v Q I rx q=>by
 unfold cJ3 at q
 split at q
 · exact cJX pins s σ H _ v Q I rx ⟨_,rfl,q⟩
 · exact q.elim
def mEq:R2:=λx y H Q=>bJQ x y=true/\Q (.bl (decide (x=y))) H
theorem vX:OpR X (compareOp .Eq) mEq:=dZB
def mNe:R2:=λx y H Q=>bJQ x y=true/\Q (.bl (!decide (x=y))) H
theorem zD:OpR X (compareOp .NotEq) mNe:=dJA
def zN (neg:Bool):R2:=λx y H Q=>match x,y with
 | .ref p,.ref q=>(match rdL H p,rdL H q with
   | some xs,some ys=>xs.all bV=true/\ys.all bV=true/\Q (.bl (if neg then !jA xs ys else jA xs ys)) H
   | _,_=>False)
 | _,_=>False
theorem xP {K:PySem.W.Frag} {neg:Bool} {x y:V} {H:Hp} {Q:VK} (q:zN neg x y H Q):dQ3 K neg x y H Q:=by
 unfold zN at q
 split at q
 · split at q
   · exact ⟨_,_,_,_,rfl,rfl,bD (by assumption),bD (by assumption),q.1,q.2.1,q.2.2⟩
   · exact q.elim
 · exact q.elim
theorem dZZ (hu:X.A.units < cLine):OpR X (compareOp .Eq) (zN false):=(yD hu).imp λ_ _ _ _ q=>xP q
theorem bQV (hu:X.A.units < cLine):OpR X (compareOp .NotEq) (zN true):=(yX hu).imp λ_ _ _ _ q=>xP q
def cJT:R2:=λx y H Q=>match y with | .non=>Q (.bl (decide (x=.non))) H | _=>False
theorem rV:OpR X (compareOp .Is) cJT:=op_isN.imp λ_ y _ _ q=>by
 unfold cJT at q
 split at q
 · exact ⟨rfl,q⟩
 · exact q.elim
def bZP:R2:=λx y H Q=>match y with | .non=>Q (.bl (!decide (x=.non))) H | _=>False
theorem pG:OpR X (compareOp .IsNot) bZP:=op_notN.imp λ_ y _ _ q=>by
 unfold bZP at q
 split at q
 · exact ⟨rfl,q⟩
 · exact q.elim
def subIn (y x:Str):Bool:=!(Builtin.Str.occurrences x y 0 x.length 1).isEmpty
theorem sS (x:Str) (c:Nat):subIn ⟨#[c]⟩ x=decide (c∈x.cps.toList):=PySem.StrLaws.found_one x c
def cZ3 (neg:Bool):R2:=λx y H Q=>match x,y with | .str i,.str j=>Q (.bl (if neg then !subIn i j else subIn i j)) H | _,_=>False
theorem aQ1:OpR X (compareOp .In) (cZ3 false):=op_in_str.imp λ_ _ _ _ q=>by
 unfold cZ3 at q
 split at q
 · exact ⟨_,_,rfl,rfl,q⟩
 · exact q.elim
def aZ8 (neg:Bool):R2:=λx y H Q=>match y with
 | .ref p=>(match rdL H p with | some xs=>bV x=true/\xs.all bV=true/\Q (.bl (if neg then !inV x xs else inV x xs)) H | none=>False)
 | _=>False
theorem xS {K:PySem.W.Frag} {neg:Bool} {x y:V} {H:Hp} {Q:VK} (q:aZ8 neg x y H Q):rIn K neg x y H Q:=by
 unfold aZ8 at q
 split at q
 · split at q
   · exact ⟨_,_,rfl,.inl (bD (by assumption)),q.1,q.2.1,q.2.2⟩
   · exact q.elim
 · exact q.elim
theorem cZS:OpR X (compareOp .In) (aZ8 false):=op_in_seq.imp λ_ _ _ _ q=>xS q
theorem bQT:OpR X (compareOp .NotIn) (aZ8 true):=op_notIn_seq.imp λ_ _ _ _ q=>xS q
def mB (Q:Bool->Hp->Prop):VK:=λx H=>match x with | .bl k=>Q k H | _=>False
theorem cZE {Q:Bool->Hp->Prop} {x:V} {H:Hp} (q:mB Q x H):∃ k,x=.bl k/\Q k H:=by
 unfold mB at q
 split at q
 · exact ⟨_,rfl,q⟩
 · exact q.elim
def cZO (t:TE):TT:=λσ H Q=>t σ H (mB Q)
theorem aY {op:CmpOp} {r:R2} (ho:OpR X (compareOp op) r) (ha:PE X a ta) (hb:PE X b tb) (hm:behindInMarks op b=false):PT X (.Compare a [op] [b] pos) (cZO (tOp r ta tb)):=by
 intro pins s σ H Q I h
 refine wpAny_isTrue_Compare1 (thn (ha pins s σ H _ I h) λv s1 ⟨x,H1,I1,r1,q1⟩=>thn (hb pins s1 σ H1 _ I1 q1) λu s2 ⟨y,H2,I2,r2,q2⟩=>
   thn (ho pins s2 σ H2 x y v u _ I2 r1 r2 q2) λc s3 ⟨z,H3,I3,r3,q⟩=>?_) hm
 obtain ⟨k,e,q3⟩:=cZE q
 subst e
 cases r3
 exact Fb ⟨H3,I3,q3⟩
def bX6 (Q:Bool->Hp->Prop):VK:=λx H=>match x with
 | .non=>Q false H
 | .bl k=>Q k H
 | .int i=>Q (i != 0) H
 | .str y=>y.length<=sizeLine/\Q ((y.length:Int) != 0) H
 | .ref p=>(match rdL H p with
   | some xs=>Q (!xs.isEmpty) H
   | none=>(match H p with | some (.dK kvs)=>Q (!kvs.isEmpty) H | _=>False))
 | _=>False
theorem cQA {K:PySem.W.Frag} {Q:Bool->Hp->Prop} {x:V} {H:Hp} (q:bX6 Q x H):∃ k,dX0 K x H k/\Q k H:=by
 unfold bX6 at q
 split at q
 · exact ⟨_,rfl,q⟩
 · exact ⟨_,rfl,q⟩
 · exact ⟨_,rfl,q⟩
 · exact ⟨_,⟨q.1,rfl⟩,q.2⟩
 · split at q
   · exact ⟨_,.inl ⟨_,bD (by assumption),rfl⟩,q⟩
   · split at q
     · exact ⟨_,.inr (.inr ⟨_,by assumption,rfl⟩),q⟩
     · exact q.elim
 · exact q.elim
def bZU (t:TE):TT:=λσ H Q=>t σ H (bX6 Q)
theorem cY (ha:PE X a ta) (he:∀ whole,isTrue a X.env whole=(do let v <-whole; standAt a.pos; holding [v] (truthy v)):=by intro _; rfl):PT X a (bZU ta):=by
 intro pins s σ H Q I h
 refine isTrue_plain (thn (ha pins s σ H _ I h) λv s1 ⟨x,H1,I1,r1,q1⟩=>vE pins s1 σ H1 x v Q I1 r1 (cQA q1)) (he _)
variable {rest:List Expr}
def cZC (ta tb:TE):TE:=λσ H Q=>ta σ H (mB λc H1=>if c=true then tb σ H1 Q else Q (.bl false) H1)
theorem bZ5 (ha:PE X a ta) (hb:PE X (.BoolOp .And (b :: rest) pos) tb):PE X (.BoolOp .And (a :: b :: rest) pos) (cZC ta tb):=by
 intro pins s σ H Q I h
 refine BoolOp_and (thn (ha pins s σ H _ I h) λv s1 ⟨x,H1,I1,r1,q1⟩=>?_)
 obtain ⟨c,rfl,q1⟩:=cZE q1
 cases r1
 refine Fb ?_
 cases c with
 | true=>exact hb pins s1 σ H1 Q I1 q1
 | false=>exact ⟨.bl false,H1,I1,rfl,q1⟩
def mIx:R2:=λx y H Q=>match x,y with
 | .str z,.int i=>z.length<=sizeLine/\(match atI z.cps.toList i with | some c=>Q (.str ⟨#[c]⟩) H | none=>False)
 | .ref p,.int i=>(match rdL H p with
   | some xs=>(match atI xs i with | some v=>Q v H | none=>False)
   | none=>(match lC H p with
     | some xs=>(match atI xs i with | some v=>Q v H | none=>False)
     | none=>False))
 | _,_=>False
theorem cQU {K:PySem.W.Frag} {x y:V} {H:Hp} {Q:VK} (q:mIx x y H Q):rIx K x y H Q:=by
 unfold mIx at q
 split at q
 · obtain ⟨h1,q⟩:=q
   split at q
   · exact .inr (.inr ⟨_,_,_,rfl,rfl,h1,by assumption,q⟩)
   · exact q.elim
 · split at q
   · split at q
     · exact .inl ⟨_,_,_,_,rfl,rfl,bD (by assumption),by assumption,q⟩
     · exact q.elim
   · split at q
     · split at q
       · exact .inr (.inl ⟨_,_,_,_,rfl,rfl,SqT.of (oE (by assumption)),by assumption,q⟩)
       · exact q.elim
     · exact q.elim
 · exact q.elim
theorem bS:IxR X mIx:=ix_seq.imp λ_ _ _ _ q=>cQU q
def mSl:V->Option Int->Option Int->Hp->VK->Prop:=λx lo hi H Q=>match x with
 | .str z=>z.length<=sizeLine/\Q (.str (Txt.slice z lo hi)) H
 | .ref p=>(match rdL H p with | some xs=>∀ r,H r=none->Q (.ref r) (upd H r (.lst (qV xs lo hi))) | none=>False)
 | _=>False
theorem dJQ:SlR X mSl:=(sl_list.or cJ1).imp λ_ _ _ _ _ q=>by
 unfold mSl at q
 split at q
 · exact .inr ⟨_,rfl,q.1,q.2⟩
 · split at q
   · exact .inl ⟨_,_,rfl,bD (by assumption),q⟩
   · exact q.elim
 · exact q.elim
def uA (Q:Option Int->Hp->Prop):VK:=λx H1=>match x with | .int i=>Q (some i) H1 | _=>False
def cZR (t:TE):TO:=λσ H Q=>t σ H (uA Q)
variable {e:Expr} {te:TE}
theorem tU (h:PE X e te):PO X (some e) (cZR te):=by
 intro pins s σ H Q I hw
 rw [evalPart_some]
 refine thn (h pins s σ H _ I hw) λu s1 ⟨x,H1,I1,r1,q1⟩=>?_
 unfold uA at q1
 split at q1
 · obtain ⟨t,rfl⟩:=r1
   exact ⟨_,H1,I1,.int _ t,q1⟩
 · exact q1.elim
def aQI:List V->Hp->VK->Prop:=λxs H Q=>match xs with
 | [.str z]=>z.length<=sizeLine/\Q (.int z.length) H
 | [.ref p]=>(match rdL H p with
   | some xs=>Q (.int xs.length) H
   | none=>(match lC H p with | some xs=>Q (.int xs.length) H | none=>False))
 | _=>False
theorem fB:CallR X (.builtin "len") aQI:=call_len.imp λ_ _ _ q=>by
 unfold aQI at q
 split at q
 · exact ⟨_,_,rfl,⟨q.1,rfl⟩,q.2⟩
 · split at q
   · exact ⟨_,_,rfl,.inl ⟨_,bD (by assumption),rfl⟩,q⟩
   · split at q
     · exact ⟨_,_,rfl,.inr ⟨_,SqT.of (oE (by assumption)),rfl⟩,q⟩
     · exact q.elim
 · exact q.elim
def dQP:List V->Hp->VK->Prop:=λxs H Q=>match xs with | [.int i,.int j]=>Q (.int (if j < i then j else i)) H | _=>False
theorem cZU (hc:X.calm=true):CallR X (.builtin "min") dQP:=(aZT hc).imp λ_ _ _ q=>by
 unfold dQP at q
 split at q
 · exact ⟨_,_,rfl,q⟩
 · exact q.elim
def dQW:List V->Hp->VK->Prop:=λxs H Q=>match xs with | [.int i,.int j]=>Q (.int (if j > i then j else i)) H | _=>False
theorem cX4 (hc:X.calm=true):CallR X (.builtin "max") dQW:=(aZG hc).imp λ_ _ _ q=>by
 unfold dQW at q
 split at q
 · exact ⟨_,_,rfl,q⟩
 · exact q.elim
def cQ6:List V->Hp->VK->Prop:=λxs H Q=>match xs with
 | [.int i]=>Q (.int i) H
 | [.str x]=>(match PySem.intText? x with | some n=>x.length<=640/\Q (.int n) H | none=>False)
 | _=>False
theorem aQV:CallR X (.type "int") cQ6:=(call_int1.or rK).imp λ_ _ _ q=>by
 unfold cQ6 at q
 split at q
 · exact .inl (.inl ⟨_,rfl,q⟩)
 · split at q
   · exact .inr ⟨_,_,rfl,by assumption,q.1,q.2⟩
   · exact q.elim
 · exact q.elim
def aXM:List V->Hp->VK->Prop:=λxs H Q=>match xs with
 | [.ref p]=>(match rdL H p with
   | some ys=>∀ l,H l=none->Q (.ref l) (upd H l (.lst ys))
   | none=>(match lC H p with | some ys=>∀ l,H l=none->Q (.ref l) (upd H l (.lst ys)) | none=>False))
 | _=>False
theorem iP:CallR X (.type "list") aXM:=call_list_of.imp λ_ _ _ q=>by
 unfold aXM at q
 split at q
 · split at q
   · exact ⟨_,_,rfl,.inl (bD (by assumption)),q⟩
   · split at q
     · exact ⟨_,_,rfl,.inr (SqT.of (oE (by assumption))),q⟩
     · exact q.elim
 · exact q.elim
def vM (T:String) (x:V) (H:Hp) (P:Prop):Prop:=match x with
 | .str _=>T="str"/\P
 | .ref p=>(match rdL H p with | some _=>T="list"/\P | none=>False)
 | _=>False
theorem wU {K:PySem.W.Frag} {T:String} {x:V} {H:Hp} {P:Prop} (q:vM T x H P):tyV K T x H/\P:=by
 unfold vM at q
 split at q
 · exact ⟨q.1,q.2⟩
 · split at q
   · exact ⟨.inl ⟨q.1,_,bD (by assumption)⟩,q.2⟩
   · exact q.elim
 · exact q.elim
def cX8 (T:String) (r:V->List V->Hp->VK->Prop) (to:TE) (t:TA):TE:=λσ H Q=>to σ H λx H1=>vM T x H1 (t σ H1 λxs H2=>r x xs H2 Q)
variable {o:Expr} {es:List Expr} {to:TE} {t:TA} {name:Str} {apos cpos:Pos} {T id:String} {r:V->List V->Hp->VK->Prop}
theorem cX (pa:PlainAttrs T) (slot:Slot T name id) (hty:typeOf (.builtin id)=pure (.type "method_descriptor")) (hm:MtR X id r) (ho:PE X o to) (ha:PA X (e :: es) t)
   (hbase:attributeBase o name X.env (eval o X.env)=eval o X.env:=by rfl)
   (hfew:((backTo cpos (starEach (e :: es) X.env)).all (λx=>!x.1) && (backToKw cpos (keywordEach [] X.env)).all (λx=>x.1.isSome)
     && decide ((e :: es).length + ([]:List Keyword).length + (if ([]:List Keyword).isEmpty then 0 else 1) < 30))=true:=by rfl)
   (hline:(apos.endLine == cpos.line)=true:=by rfl) (hs:starEach (e :: es) X.env=(false,eval e X.env) :: starEach es X.env:=by rfl) (hplain:(backTo cpos (starEach es X.env)).any (·.1)=false:=by rfl) :
   PE X (.Call (.Attribute o name apos) (e :: es) [] cpos) (cX8 T r to t):=by
 intro pins s σ H Q I h
 refine wpAny_Call_method_late hbase hfew hline rfl (thn (ho pins s σ H _ I h) λv s1 ⟨x,H1,I1,r1,q⟩=>?_)
 obtain ⟨ty,q1⟩:=wU (K:=X.K) q
 obtain ⟨h1,h2⟩:=bQU I1 r1 ty
 refine ⟨T,id,pa,slot,hty,h1,h2,?_⟩
 have hA:=ha cpos pins s1 σ H1 _ I1 q1
 rw [hs] at hA ⊢
 refine Er (by show (false || (backTo cpos (starEach es X.env)).any (·.1))=false; rw [hplain] <;> rfl) (Calls.evalArgs_plain ?_)
 exact thn hA λus s2 ⟨vs,H2,I2,r2,q2⟩=>hm pins s2 σ H2 x vs v us Q I2 r1 r2 q2
def cQH:V->List V->Hp->VK->Prop:=λx vs H Q=>match x,vs with
 | .ref l,[y]=>(match fZ H l with | some xs=>xs.length < sizeLine/\Q .non (upd H l (.lst (xs ++ [y]))) | none=>False)
 | _,_=>False
theorem nR:MtR X "list.append" cQH:=MtR.imp (r:=aQO) rW λ_ _ _ _ q=>by
 unfold cQH at q
 split at q
 · split at q
   · exact ⟨_,_,_,rfl,rfl,iO (by assumption),q.1,q.2⟩
   · exact q.elim
 · exact q.elim
def vC:V->List V->Hp->VK->Prop:=λx vs H Q=>match x,vs with
 | .str z,[.str y]=>(match Builtin.Str.occurrences z y 0 z.length 1 with | i :: _=>Q (.int ((i:Nat):Int)) H | []=>False)
 | _,_=>False
theorem aXO:MtR X "str.index" vC:=mt_index.imp λ_ _ _ _ q=>by
 unfold vC at q
 split at q
 · split at q
   · exact ⟨_,_,_,_,rfl,rfl,by assumption,q⟩
   · exact q.elim
 · exact q.elim
def lG:List V->Option (List Bool)
 | []=>some []
 | .bl z :: r=>(lG r).map (z :: ·)
 | _=>none
theorem aQG (ys:List Bool):lG (ys.map V.bl)=some ys:=by
 induction ys with
 | nil=>rfl
 | cons y r ih=>rw [Ar,lG,ih]; rfl
theorem tL:∀ {xs:List V} {ys:List Bool},lG xs=some ys->xs=ys.map V.bl
 | [],_,h=>by cases h; rfl
 | .bl z :: r,_,h=>by
   rw [lG] at h
   cases e:lG r with
   | none=>rw [e] at h; cases h
   | some l=>rw [e] at h; cases h; rw [tL e]; rfl
 | .non :: _,_,h=>by cases h
 | .str _ :: _,_,h=>by cases h
 | .int _ :: _,_,h=>by cases h
 | .byt _ :: _,_,h=>by cases h
 | .flt _ :: _,_,h=>by cases h
 | .ref _ :: _,_,h=>by cases h
 | .ty _ :: _,_,h=>by cases h
def bJ6:List V->Hp->VK->Prop:=λvs H Q=>match vs with
 | [.ref p]=>(match rdL H p with
   | some xs=>(match lG xs with | some bs=>Q (.bl (bs.all _root_.id)) H | none=>False)
   | none=>False)
 | _=>False
theorem dJZ (hc:X.calm=true):CallR X (.builtin "all") bJ6:=(qM hc).imp λ_ _ _ q=>by
 unfold bJ6 at q
 split at q
 · split at q
   · split at q
     · have e:=tL (by assumption)
       subst e
       exact ⟨_,_,rfl,bD (by assumption),q⟩
     · exact q.elim
   · exact q.elim
 · exact q.elim
def tyN (x:V) (H:Hp):Option String:=match x with
 | .non=>some "NoneType"
 | .bl _=>some "bool"
 | .int _=>some "int"
 | .str _=>some "str"
 | .ref p=>(match H p with
   | some (.lst _)=>some "list"
   | some (.frz _ (.lst _))=>some "list"
   | some (.tup _)=>some "tuple"
   | some (.dK _)=>some "dict"
   | _=>none)
 | _=>none
theorem dXD {K:PySem.W.Frag} {x:V} {H:Hp} {t:String} (h:tyN x H=some t):TyOf K H x (.type t):=by
 unfold tyN at h
 split at h
 · cases h; exact .non
 · cases h; exact .bl _
 · cases h; exact .int _
 · cases h; exact .str _
 · split at h
   · cases h; exact .lst (by assumption)
   · cases h; exact .frz (by assumption)
   · cases h; exact .tup (by assumption)
   · cases h; exact .dK (by assumption)
   · cases h
 · cases h
def dZI (t T:String):Bool:=decide (t=T) || (decide (t="bool") && decide (T="int"))
def cZ7 (t T:String):Bool:=["NoneType", "bool", "int", "str", "list", "tuple", "dict"].contains t && ["bool", "int", "str", "list", "tuple", "dict"].contains T
def aX8 (t T:String):Option Bool:=bif cZ7 t T then some (dZI t T) else none
theorem cXT {K:PySem.W.Frag}:∀ t∈["NoneType", "bool", "int", "str", "list", "tuple", "dict"],∀ T∈["bool", "int", "str", "list", "tuple", "dict"],PySem.W.kitOne K (.type t) (.type T)=some (dZI t T):=by
 simp only [List.forall_mem_cons,List.not_mem_nil,false_implies,implies_true,and_true]
 refine ⟨⟨rfl,rfl,rfl,rfl,rfl,rfl⟩,⟨rfl,rfl,rfl,rfl,rfl,rfl⟩,⟨rfl,rfl,rfl,rfl,rfl,rfl⟩,⟨rfl,rfl,rfl,rfl,rfl,rfl⟩,⟨rfl,rfl,rfl,rfl,rfl,rfl⟩,⟨rfl,rfl,rfl,rfl,rfl,rfl⟩,⟨rfl,rfl,rfl,rfl,rfl,rfl⟩⟩
theorem bQ3 {K:PySem.W.Frag} {t T:String} {b:Bool} (h:aX8 t T=some b):PySem.W.kitOne K (.type t) (.type T)=some b:=by
 unfold aX8 at h
 cases hn:cZ7 t T with
 | false=>rw [hn] at h; cases h
 | true=>
   rw [hn] at h; cases h
   unfold cZ7 at hn; rw [Em] at hn
   exact cXT t (List.contains_iff_mem.mp hn.1) T (List.contains_iff_mem.mp hn.2)
def bJX:List V->Hp->VK->Prop:=λxs H Q=>match xs with
 | [x,.ty T]=>(match tyN x H with
   | some t=>(match aX8 t T with | some b=>Q (.bl b) H | none=>False)
   | none=>False)
 | _=>False
theorem sU:CallR X (.builtin "isinstance") bJX:=call_isinst.imp λ_ _ _ q=>by
 unfold bJX at q
 split at q
 · split at q
   · split at q
     · exact ⟨_,_,_,_,rfl,dXD (by assumption),bQ3 (by assumption),q⟩
     · exact q.elim
   · exact q.elim
 · exact q.elim
end
end L2
namespace L2
open PySem PySem.Spec PyProof.Rows
def vZ (R:Str->Hp->Prop):VK:=λx H=>match x with | .str z=>R z H | _=>False
theorem bZ6 {R:Str->Hp->Prop} {x:V} {H:Hp} (q:vZ R x H):∃ z,x=.str z/\R z H:=by
 unfold vZ at q
 split at q
 · exact ⟨_,rfl,q⟩
 · exact q.elim
def onL (o:Option (List V)) (P:Prop):Prop:=match o with | some _=>P | none=>False
def fS (R:Addr->Hp->Prop):VK:=λx H=>match x with | .ref a=>R a H | _=>False
theorem bZF {R:Addr->Hp->Prop} {x:V} {H:Hp} (q:fS R x H):∃ a,x=.ref a/\R a H:=by
 unfold fS at q
 split at q
 · exact ⟨_,rfl,q⟩
 · exact q.elim
section
variable {X:Cx} {tg l a b:Expr} {tl ta tb:TE} {p pos:Pos}
def dJE (tl:TE):TI:=λσ H R=>tl σ H (vZ λz H1=>R (Its z) H1)
theorem vB (hl:PE X l tl):PI X tg l (dJE tl):=by
 intro pins s σ H R I h
 refine thn (hl pins s σ H _ I h) λv s1 ⟨x,H1,I1,r1,q1⟩=>?_
 obtain ⟨z,rfl,q⟩:=bZ6 q1
 obtain ⟨t,rfl⟩:=r1
 have fb:∀ b∈[s1.heap.objs.size],kO X pins H1 b:=λb hb=>by
   have e:b=s1.heap.objs.size:=by simpa using hb
   subst e
   exact I1.fpOk (Ag _) (I1.hok.fresh (Ag _))
 cases ha:z.cps.all (· < 128)
 · refine wpAny_pyIter_wide ha ?_
   exact ⟨s1.heap.objs.size,[s1.heap.objs.size],_,_,H1,rfl,I1.kept (t':=s1.toks) λb o e=>Af _ e,aJI z t _,⟨_,Ax _ rfl,rfl,rfl⟩,fb,q⟩
 · refine wpAny_pyIter_ascii ha ?_
   exact ⟨s1.heap.objs.size,[s1.heap.objs.size],_,_,H1,rfl,I1.kept (t':=s1.toks) λb o e=>Af _ e,yK z t _,⟨_,Ax _ rfl,rfl,rfl⟩,fb,q⟩
def cZI (K:PySem.W.Frag) (tl:TE):TI:=λσ H R=>tl σ H (fS λa H1=>onL (rdL H1 a) (R (Itl K a) H1))
theorem bW (hl:PE X l tl):PI X tg l (cZI X.K tl):=by
 intro pins s σ H R I h
 refine thn (hl pins s σ H _ I h) λv s1 ⟨x,H1,I1,r1,q1⟩=>?_
 obtain ⟨a,rfl,q⟩:=bZF q1
 cases r1
 unfold onL at q
 split at q
 · rename_i xs e
   obtain ⟨its,rv,p,hz⟩:=I1.list (bD e)
   refine Gb p.isList ?_
   refine ⟨s1.heap.objs.size,[s1.heap.objs.size],_,_,H1,rfl,I1.kept (t':=s1.toks) λb o e=>Af _ e,aZ5 a _,⟨_,Ax _ rfl,rfl,rfl⟩,λb hb=>?_,q⟩
   have e:b=s1.heap.objs.size:=by simpa using hb
   subst e
   exact I1.fpOk (Ag _) (I1.hok.fresh (Ag _))
 · exact q.elim
def aQJ (R:Int->Hp->Prop):List V->Hp->Prop:=λvs H=>match vs with | [.int j]=>R j H | _=>False
theorem aXP {R:Int->Hp->Prop} {vs:List V} {H:Hp} (q:aQJ R vs H):∃ j,vs=[.int j]/\R j H:=by
 unfold aQJ at q
 split at q
 · exact ⟨_,rfl,q⟩
 · exact q.elim
def bZM (R:Int->Int->Hp->Prop):List V->Hp->Prop:=λvs H=>match vs with | [.int i,.int j]=>R i j H | _=>False
theorem cXZ {R:Int->Int->Hp->Prop} {vs:List V} {H:Hp} (q:bZM R vs H):∃ i j,vs=[.int i,.int j]/\R i j H:=by
 unfold bZM at q
 split at q
 · exact ⟨_,_,rfl,q⟩
 · exact q.elim
def cZQ (ta:TA):TI:=λσ H R=>ta σ H (aQJ λj H1=>(-(2 ^ 62)<=j/\j < 2 ^ 62)/\R (Itr 0 j.toNat) H1)
def cZJ (ta:TA):TI:=λσ H R=>ta σ H (bZM λi j H1=>(-(2 ^ 62)<=i/\i < 2 ^ 62/\-(2 ^ 62)<=j/\j < 2 ^ 62)/\R (Itr i (j - i).toNat) H1)
theorem dP {ta:TA} (hg:Gl X "range") (hm:X.mg "range"=none) (ha:PA X [a] ta) (hs:starEach [a] X.env=[(false,eval a X.env)]:=by rfl):PI X tg (.Call (.Name "range" p) [a] [] pos) (cZQ ta):=by
 intro pins s σ H R I h
 refine Call_ (iT I hg hm boot_range (Ct (thn (ha pos pins s σ H _ I h) λus s1 ⟨vs,H1,I1,r1,q1⟩=>?_) hs rfl))
 obtain ⟨j,e,⟨b1,b2⟩,q⟩:=aXP q1
 subst e
 cases r1 with
 | cons r rr=>
   cases rr
   obtain ⟨t,rfl⟩:=r
   exact call_range_1 (vW I1 (by omega) (by omega) b1 b2 (by simpa using q))
theorem sV {ta:TA} (hg:Gl X "range") (hm:X.mg "range"=none) (ha:PA X [a,b] ta) (hs:starEach [a,b] X.env=[(false,eval a X.env),(false,eval b X.env)]:=by rfl) (hs2:starEach [b] X.env=[(false,eval b X.env)]:=by rfl) :
   PI X tg (.Call (.Name "range" p) [a,b] [] pos) (cZJ ta):=by
 intro pins s σ H R I h
 refine Call_ (iT I hg hm boot_range (Ct (thn (ha pos pins s σ H _ I h) λus s1 ⟨vs,H1,I1,r1,q1⟩=>?_) (by rw [hs,hs2]) (by rw [hs2]; rfl)))
 obtain ⟨i,j,e,⟨b1,b2,b3,b4⟩,q⟩:=cXZ q1
 subst e
 cases r1 with
 | cons r rr=>
   cases rr with
   | cons r' rr=>
     cases rr
     obtain ⟨t,rfl⟩:=r
     obtain ⟨t',rfl⟩:=r'
     exact call_range_2 (vW I1 b1 b2 b3 b4 q)
def qE (J:It) (g:TG) (tb:TS) (D:Ends) (σ:St) (H1:Hp):Prop:=∃ W:Nat->Nat->St->Hp->Prop,(∃ m,W 0 m σ H1)/\∀ i m σ H,W i m σ H->
 (J.stop i H/\D.nx σ H)\/(J.go i H/\∃ N:St->Hp->Prop,(∀ σ' H',N σ' H'->∃ m',m' < m/\W (i + 1) m' σ' H')/\∀ x H',J.yld i H x H'->g x σ H' λσ2 H2=>tb { D with nx:=N,ct:=N,bk:=D.nx } σ2 H2)
def cX5 (wi:TI) (g:TG) (tb:TS):TS:=λD σ H=>wi σ H λJ H1=>qE J g tb D σ H1
theorem bQ {iter:Expr} {body:List Stmt} {wi:TI} {g:TG} {tb:TS} (hp:PassesOwn (model X.prog X.w) X.A X.env X.xe) (hc:X.calm=true) (hi:PI X tg iter wi) (hg:PG X tg g) (hb:PSs X body tb)
   (hs:∀ x,foldedSetIterable iter X.env x=pure x:=by intro _; rfl):PS X (.For tg iter body [] pos) (cX5 wi g tb):=dQ1 (wi:=wi) hp hc hi hg hb hs
section
variable {K:PySem.W.Frag} {c:Addr} {xs:List V} {z:Str} {lo:Int} {n:Nat} {g:TG} {tb:TS} {D:Ends} {σ:St} {H:Hp}
theorem cT (Pv:Nat->St->Hp->Prop) (h0:Pv 0 σ H) (hl:∀ i σ H,i<=xs.length->Pv i σ H->rdL H c=some xs)
   (hs:∀ i x σ H,xs[i]?=some x->Pv i σ H->g x σ H λσ2 H2=>tb { D with nx:=Pv (i + 1),ct:=Pv (i + 1),bk:=D.nx } σ2 H2) (hd:∀ σ H,Pv xs.length σ H->D.nx σ H):qE (Itl K c) g tb D σ H :=
 bQE Pv h0 (λi σ H hi p=>bD (hl i σ H hi p)) hs hd
theorem bZK (Pv:Nat->St->Hp->Prop) (h0:Pv 0 σ H)
   (hs:∀ i c σ H,z.cps.toList[i]?=some c->Pv i σ H->g (.str ⟨#[c]⟩) σ H λσ2 H2=>tb { D with nx:=Pv (i + 1),ct:=Pv (i + 1),bk:=D.nx } σ2 H2) (hd:∀ σ H,Pv z.cps.toList.length σ H->D.nx σ H):qE (Its z) g tb D σ H :=
 bJU Pv h0 hs hd
theorem fT (Pv:Nat->St->Hp->Prop) (h0:Pv 0 σ H)
   (hs:∀ i σ H,i < n->Pv i σ H->g (.int (lo + i)) σ H λσ2 H2=>tb { D with nx:=Pv (i + 1),ct:=Pv (i + 1),bk:=D.nx } σ2 H2) (hd:∀ σ H,Pv n σ H->D.nx σ H):qE (Itr lo n) g tb D σ H :=
 aZ9 Pv h0 hs hd
end
theorem mY {x:Str} {T:String} (hg:Gl X x) (hm:X.mg x=none) (hv:bootBuiltins x=some (.type T)) (hn:x≠"__name__" := by decide) (hd:(x == ("__debug__" : Str))=false:=by decide):PE X (.Name x pos) (tC (.ty T)):=bJ8 hg hm hv rfl hn hd
end
end L2
set_option maxHeartbeats 4000000
namespace L2
open PySem PySem.Spec PyProof.Rows
section
variable {K:PySem.W.Frag} {σ:St} {H:Hp} {Q:VK} {QB:Bool->Hp->Prop} {QA:List V->Hp->Prop} {QO:Option Int->Hp->Prop} {D:Ends} {t u:TS} {te ta tb tc:TE} {tt tu:TT} {tA:TA} {r r':R2} {x y v:V} {i j:Int} {z z':Str} {p q:Addr} {xs ys vs:List V} {k n:Nat}
theorem dX9 (h:t { D with nx:=u D } σ H):dQ9 t u D σ H:=h
theorem cJY (h:D.nx σ H):cZY D σ H:=h
theorem dJ5 {c:TT} (h:c σ H λb H1=>if b=true then t D σ H1 else u D σ H1):dJR c t u D σ H:=h
theorem dZR (h:te σ H D.rt):dZS te D σ H:=h
theorem dQZ (h:te σ H λ_ H1=>D.nx σ H1):cZX te D σ H:=h
theorem dXW {g:TG} (h:te σ H λx H1=>g x σ H1 D.nx):cXI te g D σ H:=h
theorem dXV {wi:TI} {g:TG} {tb:TS} (h:wi σ H λJ H1=>qE J g tb D σ H1):cX5 wi g tb D σ H:=h
theorem oK {QS:St->Hp->Prop} (h:QS (σ.set k (some v)) H):pX k v σ H QS:=h
theorem dXJ {QS:St->Hp->Prop} {to ti:TE} {ts:cQS} (h:to σ H λo H1=>ti σ H1 λi H2=>ts o i v H2 λH3=>QS σ H3):dXQ to ti ts v σ H QS:=h
theorem dZO (e:σ[k]?=some (some v)) (h:Q v H):cX0 k σ H Q:=by unfold cX0; rw [e]; exact h
theorem s_c (h:Q v H):tC v σ H Q:=h
theorem eQH (h:ta σ H λx H1=>tb σ H1 λy H2=>r x y H2 Q):tOp r ta tb σ H Q:=h
theorem eQK {ru:V->Hp->VK->Prop} (h:ta σ H λx H1=>ru x H1 Q):tUn ru ta σ H Q:=h
theorem dZD (h:QA [] H):yU σ H QA:=h
theorem cJH {tr:TA} (h:ta σ H λx H1=>tr σ H1 λxs H2=>QA (x :: xs) H2):aQX ta tr σ H QA:=h
theorem dX5 (h:tA σ H λxs H1=>xs.length<=sizeLine/\∀ p,H1 p=none->Q (.ref p) (upd H1 p (.lst xs))):bXT tA σ H Q:=h
theorem dJO (h:tA σ H λxs H1=>xs.length<=sizeLine/\∀ p,H1 p=none->Q (.ref p) (upd H1 p (.tup xs))):dZC tA σ H Q:=h
theorem dQM {sp:Sp} {E:XK} (h:tA σ H λvs H1=>sp (vs ++ []) H1 Q E):aXH sp [] E tA σ H Q:=h
theorem dJ8 {rc:List V->Hp->VK->Prop} (h:tA σ H λvs H1=>rc vs H1 Q):tCB rc tA σ H Q:=h
theorem eQB {rs:V->Option Int->Option Int->Hp->VK->Prop} {tl th:TO} (h:te σ H λx H1=>tl σ H1 λl H2=>th σ H2 λu H3=>rs x l u H3 Q):tSl rs te tl th σ H Q:=h
theorem bZ4 (h:QO none H):aQ5 σ H QO:=h
theorem dQQ (h:te σ H (uA QO)):cZR te σ H QO:=h
theorem bZB (h:QO (some i) H):uA QO (.int i) H:=h
theorem cZ4 {T:String} {rm:V->List V->Hp->VK->Prop} {to:TE} (h:to σ H λx H1=>vM T x H1 (tA σ H1 λxs H2=>rm x xs H2 Q)):cX8 T rm to tA σ H Q:=h
theorem dX8 {P:Prop} (h:P):vM "str" (.str z) H P:=⟨rfl,h⟩
theorem dXT {P:Prop} (e:rdL H p=some xs) (h:P):vM "list" (.ref p) H P:=by unfold vM; simp only [e]; exact ⟨trivial,h⟩
theorem dQJ (h:te σ H (mB QB)):cZO te σ H QB:=h
theorem cQP (h:te σ H (bX6 QB)):bZU te σ H QB:=h
theorem eQM {b:Bool} (h:QB b H):mB QB (.bl b) H:=h
theorem cJL {b:Bool} (h:QB b H):bX6 QB (.bl b) H:=h
theorem dJP (h:tt σ H λc H1=>if c=true then tu σ H1 QB else QB false H1):dJU tt tu σ H QB:=h
theorem eQL (h:tt σ H λc H1=>if c=true then QB true H1 else tu σ H1 QB):tOr tt tu σ H QB:=h
theorem dZY (h:tt σ H λc H1=>QB (!c) H1):dZE tt σ H QB:=h
theorem dQV (h:ta σ H (mB λc H1=>if c=true then tb σ H1 Q else Q (.bl false) H1)):cZC ta tb σ H Q:=h
theorem dJB (h:tt σ H λc H1=>if c=true then ta σ H1 Q else tb σ H1 Q):tIf tt ta tb σ H Q:=h
theorem eQN {g:Int->Int->V} (h:Q (g i j) H):mI g (.int i) (.int j) H Q:=h
theorem dXZ {C:Int->Int->Prop} {g:Int->Int->V} (c:C i j) (h:Q (g i j) H):mIC C g (.int i) (.int j) H Q:=⟨c,h⟩
theorem cZ5 (h:Q (.int (i + j)) H):aZV (.int i) (.int j) H Q:=h
theorem dXC (c:z.length + z'.length<=sizeLine) (h:Q (.str (z ++ z')) H):aZV (.str z) (.str z') H Q:=⟨c,h⟩
theorem qC (e:fZ H p=some xs) (e':fZ H q=some ys) (c:xs.length + ys.length<=sizeLine) (h:∀ r,H r=none->Q (.ref r) (upd H r (.lst (xs ++ ys)))):aZV (.ref p) (.ref q) H Q:=by
 unfold aZV; simp only [e,e']; exact ⟨c,h⟩
theorem dJY (h:Q (.bl (decide (i=j))) H):mEq (.int i) (.int j) H Q:=⟨rfl,by
 rw [show decide (V.int i=V.int j)=decide (i=j) by simp]; exact h⟩
theorem dZQ (h:Q (.bl (decide (z=z'))) H):mEq (.str z) (.str z') H Q:=⟨rfl,by
 rw [show decide (V.str z=V.str z')=decide (z=z') by simp]; exact h⟩
theorem dZK (h:Q (.bl (!decide (i=j))) H):mNe (.int i) (.int j) H Q:=⟨rfl,by
 rw [show decide (V.int i=V.int j)=decide (i=j) by simp]; exact h⟩
theorem aXC {neg:Bool} (e:rdL H p=some xs) (e':rdL H q=some ys) (f:xs.all bV=true) (f':ys.all bV=true) (h:Q (.bl (if neg then !jA xs ys else jA xs ys)) H):zN neg (.ref p) (.ref q) H Q:=by
 unfold zN; simp only [e,e']; exact ⟨f,f',h⟩
theorem dZW (h:Q (.bl (decide (x=.non))) H):cJT x .non H Q:=h
theorem dQ5 (h:Q (.bl (!decide (x=.non))) H):bZP x .non H Q:=h
theorem dZT {neg:Bool} (h:Q (.bl (if neg then !subIn z z' else subIn z z')) H):cZ3 neg (.str z) (.str z') H Q:=h
theorem bXQ {neg:Bool} (e:rdL H p=some xs) (f:bV x=true) (f':xs.all bV=true) (h:Q (.bl (if neg then !inV x xs else inV x xs)) H):aZ8 neg x (.ref p) H Q:=by
 unfold aZ8; simp only [e]; exact ⟨f,f',h⟩
theorem kC {c:Nat} (l:z.length<=sizeLine) (e:atI z.cps.toList i=some c) (h:Q (.str ⟨#[c]⟩) H):mIx (.str z) (.int i) H Q:=by
 unfold mIx; simp only [e]; exact ⟨l,h⟩
theorem cJ (e:rdL H p=some xs) (e':atI xs i=some v) (h:Q v H):mIx (.ref p) (.int i) H Q:=by
 unfold mIx; simp only [e,e']; exact h
theorem dZ4 {lo hi:Option Int} (e:rdL H p=some xs) (h:∀ r,H r=none->Q (.ref r) (upd H r (.lst (qV xs lo hi)))):mSl (.ref p) lo hi H Q:=by
 unfold mSl; simp only [e]; exact h
theorem dXN (l:z.length<=sizeLine) (h:Q (.int z.length) H):aQI [.str z] H Q:=⟨l,h⟩
theorem cJ8 (e:rdL H p=some xs) (h:Q (.int xs.length) H):aQI [.ref p] H Q:=by unfold aQI; simp only [e]; exact h
theorem dZ1 (h:Q (.int (if j < i then j else i)) H):dQP [.int i,.int j] H Q:=h
theorem dX3 (h:Q (.int (if j > i then j else i)) H):dQW [.int i,.int j] H Q:=h
theorem vH (e:PySem.intText? z=some i) (l:z.length<=640) (h:Q (.int i) H):cQ6 [.str z] H Q:=by unfold cQ6; simp only [e]; exact ⟨l,h⟩
theorem cJK (e:rdL H p=some xs) (h:∀ l,H l=none->Q (.ref l) (upd H l (.lst xs))):aXM [.ref p] H Q:=by unfold aXM; simp only [e]; exact h
theorem dZ2 (e:fZ H p=some xs) (l:xs.length < sizeLine) (h:Q .non (upd H p (.lst (xs ++ [v])))):cQH (.ref p) [v] H Q:=by unfold cQH; simp only [e]; exact ⟨l,h⟩
theorem aXW {rest:List Nat} (e:Builtin.Str.occurrences z z' 0 z.length 1=k :: rest) (h:Q (.int ((k:Nat):Int)) H):vC (.str z) [.str z'] H Q:=by unfold vC; simp only [e]; exact h
theorem dZL {bs:List Bool} (e:rdL H p=some (bs.map V.bl)) (h:Q (.bl (bs.all id)) H):bJ6 [.ref p] H Q:=by
 unfold bJ6; simp only [e,aQG]; exact h
theorem dJW {T t:String} {b:Bool} (e:tyN x H=some t) (e':aX8 t T=some b) (h:Q (.bl b) H):bJX [x,.ty T] H Q:=by
 unfold bJX; simp only [e,e']; exact h
theorem cQ4 {tl:TE} {R:It->Hp->Prop} (h:tl σ H (fS λa H1=>onL (rdL H1 a) (R (Itl K a) H1))):cZI K tl σ H R:=h
theorem cQK {R:Addr->Hp->Prop} (h:R p H):fS R (.ref p) H:=h
theorem dJX {P:Prop} (e:rdL H p=some xs) (h:P):onL (rdL H p) P:=by unfold onL; simp only [e]; exact h
theorem cJ7 {tl:TE} {R:It->Hp->Prop} (h:tl σ H (vZ λz H1=>R (Its z) H1)):dJE tl σ H R:=h
theorem cQW {R:Str->Hp->Prop} (h:R z H):vZ R (.str z) H:=h
theorem bJ3 {R:It->Hp->Prop} (h:tA σ H (aQJ λj H1=>(-(2 ^ 62)<=j/\j < 2 ^ 62)/\R (Itr 0 j.toNat) H1)):cZQ tA σ H R:=h
theorem cQF {R:It->Hp->Prop} (h:tA σ H (bZM λi j H1=>(-(2 ^ 62)<=i/\i < 2 ^ 62/\-(2 ^ 62)<=j/\j < 2 ^ 62)/\R (Itr i (j - i).toNat) H1)):cZJ tA σ H R:=h
theorem cJA {R:Int->Hp->Prop} (h:R i H):aQJ R [.int i] H:=h
theorem dQU {R:Int->Int->Hp->Prop} (h:R i j H):bZM R [.int i,.int j] H:=h
theorem dZU {o:V} {QH:Hp->Prop} (e:fZ H p=some xs) (e':ixN xs.length i=some k) (h:QH (upd H p (.lst (xs.set k v)))):cX9 (.ref p) (.int i) v H QH:=⟨_,_,_,_,rfl,rfl,iO e,e',h⟩
end
theorem dQF {α:Type} {xs:List α} {i:Int} (h0:0<=i) (h1:i < xs.length):∃ v,atI xs i=some v/\xs[i.toNat]?=some v:=by
 have hk:i.toNat < xs.length:=by omega
 have e:i=((i.toNat:Nat):Int):=by omega
 have q:atI xs ((i.toNat:Nat):Int)=some xs[i.toNat]:=dX (Aa hk)
 rw [<-e] at q
 exact ⟨xs[i.toNat],q,Aa hk⟩
theorem cJW {n:Nat} {i:Int} (h0:0<=i) (h1:i < n):ixN n i=some i.toNat:=by
 unfold ixN
 rw [if_pos h0,if_pos h1]
theorem bU {n:Nat} (h:n<=100000):n<=sizeLine:=Bf h (by decide)
theorem bC {n:Nat} (h:n<=100000):n < sizeLine:=Nat.lt_of_le_of_lt h (by decide)
end L2
namespace L2
open PySem PySem.Spec PyProof.Rows
def Cal (P:Program) (w:World) (K:PySem.W.Frag) (mg:Str->Option Value) (base:Heap) (k:Nat) (x:Str) (ps:List Str) (sp:Sp):Prop :=
 ∃ (f:Addr) (fd:FuncData),FnOk P w K mg base CX0 k f fd ps sp/\mg x=some (.ref f)/\PySem.W.keepIn K (.ref f)=true/\Binds K fd ps []
section
variable {X:Cx} {k k':Nat} {ps:List Str} {sp:Sp} {x:Str} {p pos:Pos} {e:Expr} {es:List Expr} {t:TA} {K:PySem.W.Frag} {H:Hp} {Q:VK} {xs:List V} {v:V} {i:Int} {a:Addr}
theorem aT (c:Cal X.prog X.w X.K X.mg X.base k x ps sp) (hr:Room k' X.A) (hk:k<=k') (hg:Gl X x)
   (ha:PA X (e :: es) t) (hdb:(x == ("__debug__" : Str))=false:=by decide) (he:starEach (e :: es) X.env=(false,eval e X.env) :: starEach es X.env:=by rfl) (hpl:(backTo pos (starEach es X.env)).any (·.1)=false:=by rfl) :
   PE X (.Call (.Name x p) (e :: es) [] pos) (aXH sp [] E0 t):=by
 obtain ⟨f,fd,F,hm,hk',hb⟩:=c
 exact aQL F (hr.mono hk) hg hm hk' hb .nil dZ8 ha hdb he hpl
theorem kM {z:Str} (hg:Gl X x) (h:∃ t,X.mg x=some (.str z t)) (hd:(x == ("__debug__" : Str))=false:=by decide):PE X (.Name x pos) (tC (.str z)):=by
 obtain ⟨t,h⟩:=h
 exact aXY hg h ⟨t,rfl⟩ hd
theorem cXU {z:Int} (hg:Gl X x) (h:∃ t,X.mg x=some (.int z t)) (hd:(x == ("__debug__" : Str))=false:=by decide):PE X (.Name x pos) (tC (.int z)):=by
 obtain ⟨t,h⟩:=h
 exact aXY hg h ⟨t,rfl⟩ hd
theorem dZ5 (e:SqL K H a xs) (e':atI xs i=some v) (h:Q v H):dQY K (.ref a) (.int i) H Q:=⟨a,xs,i,v,rfl,rfl,e,e',h⟩
end
end L2
namespace L2
open PySem PySem.Spec PyProof.Rows
theorem cP:bootBuiltins "len"=some (.builtin "len"):=by decide +kernel
theorem dA:bootBuiltins "isinstance"=some (.builtin "isinstance"):=by decide +kernel
theorem bJE:bootBuiltins "min"=some (.builtin "min"):=by decide +kernel
theorem bQQ:bootBuiltins "max"=some (.builtin "max"):=by decide +kernel
theorem dQB:bootBuiltins "all"=some (.builtin "all"):=by decide +kernel
theorem bJJ:bootBuiltins "bool"=some (.type "bool"):=by decide +kernel
theorem tX:bootBuiltins "int"=some (.type "int"):=by decide +kernel
theorem dE:bootBuiltins "list"=some (.type "list"):=by decide +kernel
theorem bQF:bootBuiltins "tuple"=some (.type "tuple"):=by decide +kernel
theorem oI:bootBuiltins "dict"=some (.type "dict"):=by decide +kernel
theorem bZG:bootBuiltins "range"=some (.type "range"):=by decide +kernel
end L2
namespace L2
theorem dZN {A B:Prop} (h:B):if (!true)=true then A else B:=h
theorem dJI {A B:Prop} (h:A):if (!false)=true then A else B:=h
end L2
namespace L2
open PySem PySem.Spec PyProof.Rows
theorem dXL {X:Cx} {x:Str} {j:Nat} {pos:Pos} {es:List Expr} {t:TA} (h:PA X es t):PA X (.Constant (.str x) j pos :: es) (aQX (tC (.str x)) t):=aA gP h rfl
end L2
set_option maxHeartbeats 4000000
namespace L2
open PySem PySem.Spec PyProof.Rows
theorem xZ {prog:Program} {w:World} {A:Around} {R:Result->Shared->Prop} {s:Shared} {elt target iter:Expr} {ifs:List Expr} {scope:Scope} {pos:Pos} {it acc:Value} {env:Env} (I:Nat->Shared->Prop)
   (turn:∀ n s,I n s->wpAny (model prog w) A (pyNext it) (λr s₁=>match r with
     | none=>R (.ok .next) s₁
     | some v=>wpAny (model prog w) A (letOwnedTupleGo target it v) (λ_ s₁'=>wpAny (model prog w) A (assign target env v) (λ_ s₂=>
         wpAny (model prog w) A (forIn ifs true λc r=>if r=true then do let ok <-isTrue c env (eval c env); pure (ForInStep.yield ok) else pure (ForInStep.yield r)) (λok s₃=>
           if ok=true then wpAny (model prog w) A (eval elt env) (λx s₄=>
             wpAny (model prog w) A (call (.builtin "list.append") [acc,x]) (λ_ s₅=>∃ m,m < n/\I m s₅) (λ_ _=>False) s₄) (λ_ _=>False) s₃
           else ∃ m,m < n/\I m s₃) (λ_ _=>False) s₂) (λ_ _=>False) s₁') (λ_ _=>False) s₁) (λ_ _=>False) s)
   (n:Nat) (h:I n s) :
   codeAny (model prog w) A (.compLoop (.ListComp elt [⟨target,iter,ifs,0⟩] scope pos) 0 it acc env) R s:=by
 refine codeAny_loop rfl I (λn s hI=>?_) n h
 show wpAny _ A ((compTurn (.ListComp elt [⟨target,iter,ifs,0⟩] scope pos) 0 it acc env).onRaise (λx=>do noteFrame x env; theTreesLotGoes x)) _ _ s
 refine wpAny_noted ?_
 rw [compTurn_list]
 refine Ae (Ez (Ae (Cc (turn n s hI) (λr s₁ h₁=>?_) λ_ _ h'=>h'.elim)))
 cases r with
 | none=>exact An h₁
 | some v=>
   refine Ae (Cc h₁ (λ_ s₁' h₁'=>?_) λ_ _ h'=>h'.elim)
   refine Ae (Cc h₁' (λ_ s₂ h₂=>Ae (Cc h₂ (λok s₃ h₃=>?_) λ_ _ h'=>h'.elim)) λ_ _ h'=>h'.elim)
   cases ok with
   | false=>exact An ⟨rfl,h₃⟩
   | true=>
     exact Ae (Ae (Cc h₃ (λx s₄ h₄=>Ae (Cc h₄ (λ_ s₅ h₅=>An (An ⟨rfl,h₅⟩)) λ_ _ h'=>h'.elim)) λ_ _ h'=>h'.elim))
def cxC (X:Cx) (N:List Str) (scope:Scope) (cl:List (Str × Addr)) (C:Addr) (s₀:Shared) (H₀:Hp) (ex:List Addr):Cx :=
 { prog:=X.prog,w:=X.w,K:=X.K,mg:=X.mg,base:=X.base,A:=X.A,N:=N,s₀:=s₀,H₀:=H₀,env:=compEnvC scope cl C X.env,outer:=X.stack,stack:=X.stack,ex:=ex,fn:=λ_=>false,calm:=X.calm,pn:=[],xe:=λ_ _=>False }
structure ClOk (X:Cx) (N:List Str) (scope:Scope) (cl:List (Str × Addr)) (vals:St->St):Prop where
 clos:closureFor scope X.env=pure cl
 sub:∀ x c,cl.lookup x=some c->X.env.cells.lookup x=some c
 has:∀ x,((relabel scope X.env).names.lookup x=some .cell\/(relabel scope X.env).names.lookup x=some .free)->∃ c,cl.lookup x=some c
 len:∀ σ,(vals σ).length=N.length
 val:∀ σ (i:Nat) x v,N[i]?=some x->(vals σ)[i]?=some (some v)->∃ (j:Nat),X.N[j]?=some x/\σ[j]?=some (some v)/\X.env.scope.names.lookup x=some .cell/\(∃ c,cl.lookup x=some c)/\(relabel scope X.env).names.lookup x=some .cell
def PF (X:Cx) (ifs:List Expr) (t:TT):Prop:=∀ (pins:List (Addr × Obj)) (s:Shared) (σ:St) (H:Hp) (Q:Bool->Hp->Prop),Inv X pins σ H s->t σ H Q->
 wpAny (model X.prog X.w) X.A (forIn ifs true λc r=>if r=true then do let ok <-isTrue c X.env (eval c X.env); pure (ForInStep.yield ok) else pure (ForInStep.yield r)) (TP X pins σ Q) X.xe s
def dX1:TT:=λ_ H Q=>Q true H
theorem jB {X:Cx}:PF X [] dX1:=λpins s σ H Q I q=>wpAny_tests_nil ⟨H,I,q⟩
theorem jD {X:Cx} {c:Expr} {t:TT} (h:PT X c t):PF X [c] t:=λpins s σ H Q I q=>wpAny_tests_one (h pins s σ H Q I q)
section
variable {X:Cx} {pins:List (Addr × Obj)} {σ:St} {H2:Hp} {s2:Shared} {N:List Str} {scope:Scope} {cl:List (Str × Addr)} {vals:St->St} {C:Addr} {fp:List Addr}
theorem yM {h1:Heap} {t1:Nat} (I:Inv X pins σ H2 s2) (ck:ClOk X N scope cl vals) (hkind:scope.kind=.function) (hf:∀ b∈fp,kO X pins H2 b) (hlt:∀ b∈fp,b < s2.heap.objs.size)
   (hns:h1.Ns s2.heap.objs.size λ_=>none) (hsb:Heap.SameBut s2.heap.objs.size (s2.heap.push { cls:=.type "dict",data:=.dict #[] }) h1) :
   Inv (cxC X N scope cl s2.heap.objs.size s2 H2 fp) [] (vals σ) H2 { s2 with heap:=h1,toks:=t1 }:=by
 have old:∀ b o,s2.heap.get? b=some o->h1.get? b=some o:=λb o e=>(hsb.2 b (Bk (Aq e))).trans (Af _ e)
 have hC:H2 s2.heap.objs.size=none:=I.hok.fresh (Ag _)
 refine ⟨⟨I.ok.mod,hkind,I.ok.glob,I.ok.blt,Ag _,λx y c h1 h2=>I.ok.inj x y c (ck.sub x c h1) (ck.sub y c h2),ck.has,(λx c h=>nomatch h),I.ok.hd,I.ok.frames,.inl rfl,λb hb=>⟨Bk (hlt b hb),λx c e=>(hf b hb).2.2.2.2.1 x c (ck.sub x c e)⟩,
   I.bs,Nat.le_trans I.ok.bsz I.sz,λb o e hb=>?_,λb hb hs=>?_,I.stack,I.stkFree⟩,rfl,I.bare,Un.kept old,⟨_,hns,λi x v e1 e2 _=>?_⟩,λx c e=>?_,hC,λx c e=>I.freeC x c (ck.sub x c e),λp hp=>absurd (show p∈([]:List (Addr × Obj)) from hp) (by simp),I.hok.kept old,ck.len σ⟩
 · rcases (hf b hb).2.2.2.1 with z | z
   · exact I.ok.noex b o e z
   · exact absurd (Bb (Aq e) (Bf I.ok.bsz z)) (Dn _)
 · rcases Az.mp (I.stkSub b hs) with z | z
   · exact (hf b hb).2.1 z
   · exact (hf b hb).2.2.1 z
 · obtain ⟨j,h1,h2,h3,⟨c,h4⟩,h5⟩:=ck.val σ i x v e1 e2
   obtain ⟨m,hn,hl⟩:=I.loc
   obtain ⟨u,r,l⟩:=hl j x v h1 h2 (.inr (.inl h3))
   refine ⟨u,r,.inr ⟨.inl h5,c,h4,?_⟩⟩
   rcases l with ⟨z,_⟩ | ⟨_,c',e',z⟩
   · have z':X.env.scope.names.lookup x=some .local:=z
     rw [h3] at z'; cases z'
   · rw [ck.sub x c h4] at e'
     cases e'
     obtain ⟨o,ho,hd⟩:=z
     exact ⟨o,old _ o ho,hd⟩
 · obtain ⟨v,o,ho,hd⟩:=I.cell x c (ck.sub x c e)
   exact ⟨v,o,old _ o ho,hd⟩
theorem aX4 {σ':St} {H':Hp} {s':Shared} {h'':Heap} {pins':List (Addr × Obj)} (I:Inv X pins σ H2 s2) (hf:∀ b∈fp,kO X pins H2 b)
   (I':Inv (cxC X N scope cl s2.heap.objs.size s2 H2 fp) pins' σ' H' s') (hsb:Heap.SameBut s2.heap.objs.size s'.heap h''):Inv X pins σ H' { s' with heap:=h'' }:=by
 have u1:Un (frs X.stack) (s2.heap.objs.size :: fp) H2 H' s2.heap s'.heap:=I'.base.mono (λ_ z=>z) λb z=>Am _ z
 have hC:H' s2.heap.objs.size=none:=I'.free
 have k:∀ b o,b≠s2.heap.objs.size->s'.heap.get? b=some o->h''.get? b=some o:=λb o hb e=>(hsb.2 b hb).trans e
 have u2:Un (frs X.stack) (s2.heap.objs.size :: fp) H' H' s'.heap h'':=⟨λb o e _ _ hx=>k b o (λz=>hx (by simp [z])) e,λb o e _ _ hx=>⟨o.slots,k b o (λz=>hx (by simp [z])) e⟩,λ_ _ _ n _=>n,
   λb o e hx=>⟨o,k b o (λz=>hx (by simp [z])) e⟩,λ_ _ e=>e,λ_ _ _ e=>e,λb ps e=>⟨#[],by rw [e]; simp⟩⟩
 have hok:HOk X.prog X.w H' h'':=λb u e=>by
   have nC:∀ c v,H' c=some v->c≠s2.heap.objs.size:=λc v e z=>by rw [z,hC] at e; cases e
   refine (I'.hok b u e).stay (λc v hc q=>k c v ?_ q) (λ_ q=>q) λ_ _ q=>q
   rcases hc with z | z
   · rw [z]; exact nC b u e
   · exact nC c _ z
 refine I.call' (s':={ s' with heap:=h'' }) (ch:=s2.heap.objs.size :: fp) I'.os (u1.trans u2) hok I'.bare λb hb=>?_
 have q:kO X pins H2 b:=by
   rcases Az.mp hb with z | z
   · subst z; exact I.fpOk (Ag _) (I.hok.fresh (Ag _))
   · exact hf b z
 exact ⟨q.2.2.2.1,q.2.1,q.2.2.2.2.1,q.2.2.2.2.2⟩
end
def Wk (σ0 σ:St):Prop:=σ0.length=σ.length/\∀ (i:Nat) v,σ0[i]?=some (some v)->σ[i]?=some (some v)
theorem Wk.refl (σ:St):Wk σ σ:=⟨rfl,λ_ _ h=>h⟩
theorem Wk.set {σ0 σ:St} {k:Nat} {v:V} (h:σ0[k]?=some none) (w:Wk σ0 σ):Wk σ0 (σ.set k (some v)):=by
 refine ⟨by rw [Ef]; exact w.1,λi u e=>?_⟩
 have ne:k≠i:=λz=>by subst z; rw [h] at e; cases e
 rw [Cv ne]
 exact w.2 i u e
def eF (g:TG) (tests:TT) (te:TE) (σ0:St) (Q:VK) (J:It) (H1:Hp):Prop:=∀ D,H1 D=none->∃ W:Nat->Nat->Hp->Prop,(∃ m,W 0 m (upd H1 D (.lst [])))/\∀ i m Hc,W i m Hc->
 (J.stop i Hc/\Q (.ref D) Hc)\/(J.go i Hc/\∀ x H',J.yld i Hc x H'->g x σ0 H' λσ2 H2=>Wk σ0 σ2/\tests σ2 H2 λb H3=>if b=true then
   te σ2 H3 λy H4=>∃ zs,H4 D=some (.lst zs)/\zs.length < sizeLine/\∃ m',m' < m/\W (i + 1) m' (upd H4 D (.lst (zs ++ [y]))) else ∃ m',m' < m/\W (i + 1) m' H3)
def bQX (wi:TI) (g:TG) (tests:TT) (te:TE) (vals:St->St):TE:=λσ H Q=>wi σ H λJ H1=>eF g tests te (vals σ) Q J H1
theorem wO {X:Cx} {pins:List (Addr × Obj)} {σ:St} {H2:Hp} {s2:Shared} {N:List Str} {scope:Scope} {cl:List (Str × Addr)} {vals:St->St} {fp:List Addr} {it:Addr} {tn:Nat->Heap->Prop} {J:It} {tg elt iter:Expr} {ifs:List Expr} {pos:Pos}
   {g:TG} {tests:TT} {te:TE} {Q:VK} {E:Value->Shared->Prop} {RR:Value->Addr->Result->Shared->Prop} (I2:Inv X pins σ H2 s2) (T:Turn X.prog X.w X.K tg J fp it tn) (st2:tn 0 s2.heap) (f2:∀ b∈fp,kO X pins H2 b) (hc:X.calm=true)
   (ck:ClOk X N scope cl vals) (hcell:∀ y∈scope.names,y.2≠.cell) (hkind:scope.kind=.function)
   (hg:∀ C s₀ H₀ ex,PG (cxC X N scope cl C s₀ H₀ ex) tg g) (ht:∀ C s₀ H₀ ex,PF (cxC X N scope cl C s₀ H₀ ex) ifs tests) (he:∀ C s₀ H₀ ex,PE (cxC X N scope cl C s₀ H₀ ex) elt te)
   (h:eF g tests te (vals σ) Q J H2)
   (hRR:∀ D C s' H' m,s'.heap.Ns C m->Q (.ref D) H'->(∀ h'',Heap.SameBut C s'.heap h''->Inv X pins σ H' { s' with heap:=h'' })->kO X pins H' C->RR (.ref D) C (.ok .next) s') :
   wpAny (model X.prog X.w) X.A (newList []) (λacc s₃=>wpAny (model X.prog X.w) X.A (newFunctionEnv scope X.env.globals cl [] X.env.qual none .none (some X.env)) (λcenv s₄=>
     codeAny (model X.prog X.w) X.A (.compStart (.ListComp elt [⟨tg,iter,ifs,0⟩] scope pos) 0 (.ref it) acc { cenv with scope:=relabel scope X.env }) (RR acc cenv.locals) s₄) E s₃) E s2:=by
 have hD:H2 s2.heap.objs.size=none:=I2.hok.fresh (Ag _)
 obtain ⟨W,⟨m0,w0⟩,turn⟩:=h _ hD
 have hlt:∀ b∈fp,b < s2.heap.objs.size:=λb hb=>by
   obtain ⟨o,e,_⟩:=T.obj 0 _ st2 b hb
   exact Aq e
 refine Gc ?_
 -- the list is laid
 have I3:Inv X pins σ (upd H2 s2.heap.objs.size (.lst [])) { s2 with heap:=s2.heap.push { cls:=.type "list",dict:=none,data:=.seq ([]:List Value).toArray } } :=
   I2.lnew (ys:=[]) (its:=[]) (t':=s2.toks) .nil (Ck _)
 have f3:∀ b∈fp,kO X pins (upd H2 s2.heap.objs.size (.lst [])) b:=λb hb=>⟨by rw [aK (Bk (hlt b hb))]; exact (f2 b hb).1,(f2 b hb).2⟩
 have st3:tn 0 (s2.heap.push { cls:=.type "list",dict:=none,data:=.seq ([]:List Value).toArray }):=T.keep _ _ _ st2 λb _ o e=>Af _ e
 generalize hs3:({ s2 with heap:=s2.heap.push { cls:=.type "list",dict:=none,data:=.seq ([]:List Value).toArray } }:Shared)=s3 at I3 ⊢
 have e3:s3.heap=s2.heap.push { cls:=.type "list",dict:=none,data:=.seq ([]:List Value).toArray }:=by rw [<-hs3]
 rw [<-e3] at st3
 have hlt3:∀ b∈fp,b < s3.heap.objs.size:=λb hb=>by
   obtain ⟨o,e,_⟩:=T.obj 0 _ st3 b hb
   exact Aq e
 refine wpAny_newFunctionEnv hcell (by intro y hy; simp at hy) (λh₁ hns₁ hsb₁=>?_) hkind
 have hns:h₁.Ns s3.heap.objs.size λ_=>none:=hns₁
 have I4:=yM (t1:=s3.toks) I3 ck hkind f3 hlt3 hns hsb₁
 have old:∀ b o,s3.heap.get? b=some o->h₁.get? b=some o:=λb o e=>(hsb₁.2 b (Bk (Aq e))).trans (Af _ e)
 have st4:tn 0 h₁:=T.keep _ _ _ st3 λb _ o e=>old b o e
 have loop:∀ s₄:Shared,s₄={ s3 with heap:=h₁,toks:=s3.toks }->
     codeAny (model X.prog X.w) X.A (.compLoop (.ListComp elt [⟨tg,iter,ifs,0⟩] scope pos) 0 (.ref it) (.ref s2.heap.objs.size) (compEnvC scope cl s3.heap.objs.size X.env))
       (RR (.ref s2.heap.objs.size) s3.heap.objs.size) s₄:=by
   rintro s₄ rfl
   have fpX:∀ {H':Hp},(∀ b∈fp,H' b=none)->∀ b∈fp,kO (cxC X N scope cl s3.heap.objs.size s3 (upd H2 s2.heap.objs.size (.lst [])) fp) [] H' b:=λhn b hb=>
     ⟨hn b hb,Nat.ne_of_lt (hlt3 b hb),λhs=>I4.ok.exfs b hb hs,.inl hb,λx c e=>(I4.ok.exf b hb).2 x c e,λp hp=>absurd (show p∈([]:List (Addr × Obj)) from hp) (by simp)⟩
   refine xZ (λn s'=>∃ i H',Inv (cxC X N scope cl s3.heap.objs.size s3 (upd H2 s2.heap.objs.size (.lst [])) fp) [] (vals σ) H' s'/\tn i s'.heap/\(∀ b∈fp,H' b=none)/\W i n H') ?_ m0
     ⟨0,_,I4,st4,λb hb=>(f3 b hb).1,w0⟩
   rintro n s5 ⟨i,H5,I5,st5,fr5,w5⟩
   rcases turn i n H5 w5 with ⟨stop,q⟩ | ⟨go,step⟩
   · refine thn (T.done (cxC X N scope cl s3.heap.objs.size s3 (upd H2 s2.heap.objs.size (.lst [])) fp) rfl rfl rfl hc i [] s5 (vals σ) H5 (λ_ _=>False) I5 (fpX fr5) st5 stop) λr s6 ⟨hr,I6⟩=>?_
     subst hr
     obtain ⟨m,hn,_⟩:=id I6.loc
     exact hRR _ _ s6 H5 m hn q (λh'' hsb=>aX4 I3 f3 I6 hsb) (I3.fpOk (Ag _) I6.free)
   · refine thn (T.item (cxC X N scope cl s3.heap.objs.size s3 (upd H2 s2.heap.objs.size (.lst [])) fp) rfl rfl rfl hc i [] s5 (vals σ) H5 (λ_ _=>False) I5 (fpX fr5) st5 go) λr s6 ⟨u,hr,h6⟩=>?_
     subst hr
     refine thn h6 λ_ s7 ⟨x,H7,I7,r7,y7,st7,fr7⟩=>?_
     have I7':=I7.pinned (fpX fr7) (T.obj _ _ st7)
     refine thn (hg _ _ _ _ _ s7 (vals σ) H7 x u _ I7' r7 (step x H7 y7)) λ_ s8 ⟨σ8,H8,I8,wk8,q8⟩=>?_
     refine thn (ht _ _ _ _ _ s8 σ8 H8 _ I8 q8) λb s9 ⟨H9,I9,q9⟩=>?_
     have again:∀ {m':Nat} {s':Shared} {H':Hp},Inv (cxC X N scope cl s3.heap.objs.size s3 (upd H2 s2.heap.objs.size (.lst [])) fp) ([] ++ nG fp s7.heap) σ8 H' s'->m' < n->W (i + 1) m' H'->
         ∃ m,m < n/\∃ i H',Inv (cxC X N scope cl s3.heap.objs.size s3 (upd H2 s2.heap.objs.size (.lst [])) fp) [] (vals σ) H' s'/\tn i s'.heap/\(∀ b∈fp,H' b=none)/\W i m H':=fun {m' s' H'} J7 hm w7=>by
       refine ⟨m',hm,i + 1,H',(J7.weak wk8.1 wk8.2).unpinned,T.keep _ _ _ st7 λb hb o e=>(J7.pin (b,o) (Bd _ (Bd _ (iX hb e)))).1,λb hb=>?_,w7⟩
       obtain ⟨o,e,d⟩:=T.obj _ _ st7 b hb
       exact (J7.pin (b,o) (Bd _ (Bd _ (iX hb e)))).2.1
     cases b with
     | true=>
       rw [if_pos rfl] at q9 ⊢
       refine thn (he _ _ _ _ _ s9 σ8 H9 _ I9 q9) λv s10 ⟨y,H10,I10,r10,zs,hz,hl,m',hm,w10⟩=>?_
       have ap:=rW ([] ++ nG fp s7.heap) s10 σ8 H10 (.ref s2.heap.objs.size) [y] (.ref s2.heap.objs.size) [v] (λ_ H'=>H'=upd H10 s2.heap.objs.size (.lst (zs ++ [y]))) I10 rfl (.cons r10 .nil) ⟨_,_,_,rfl,rfl,hz,hl,rfl⟩
       refine thn ap λ_ s11 ⟨_,H11,I11,_,e11⟩=>?_
       subst e11
       exact again I11 hm w10
     | false=>
       rw [if_neg Ao] at q9 ⊢
       obtain ⟨m',hm,w9⟩:=q9
       exact again I9 hm w9
 exact codeAny_compStart_list (loop _ rfl) (T.self _ 0 _ _ _ st4 (loop _ rfl))
section
variable {X:Cx} {N:List Str} {scope:Scope} {cl:List (Str × Addr)} {vals:St->St} {tg elt iter:Expr} {ifs:List Expr} {pos spos py:Pos} {wi:TI} {g:TG} {tests:TT} {te:TE}
theorem dD (hc:X.calm=true) (hi:PI X tg iter wi) (ck:ClOk X N scope cl vals) (hcell:∀ y∈scope.names,y.2≠.cell) (hkind:scope.kind=.function) (hnames:∀ x∈scope.names,x.2=.local->scope.names.lookup x.1=some .local)
   (hg:∀ C s₀ H₀ ex,PG (cxC X N scope cl C s₀ H₀ ex) tg g) (ht:∀ C s₀ H₀ ex,PF (cxC X N scope cl C s₀ H₀ ex) ifs tests) (he:∀ C s₀ H₀ ex,PE (cxC X N scope cl C s₀ H₀ ex) elt te)
   (hs:∀ x,foldedSetIterable iter X.env x=pure x:=by intro _; rfl):PE X (.ListComp elt [⟨tg,iter,ifs,0⟩] scope pos) (bQX wi g tests te vals):=by
 intro pins s σ H Q I h
 rw [eval_ListComp]
 refine wpAny_comprehension_free (use:=none) rfl hs ck.clos hkind hnames (thn (hi pins s σ H _ I h) λv s1 h1=>thn h1 λitv s2 h2=>?_)
 obtain ⟨it,fp,tn,J,H2,e,I2,T,st2,f2,q⟩:=h2
 subst e
 refine wO (RR:=λacc C=>compPost (model X.prog X.w) X.A X.xe none (EP X pins σ Q) acc C) I2 T st2 f2 hc ck hcell hkind hg ht he q λD C s' H' m hn q' back _=>?_
 exact ⟨m,hn,λh'' hsb=>⟨.ref D,H',back h'' hsb,rfl,q'⟩⟩
theorem oN {i:Nat} {x:Str} (hN:X.N.Nodup) (hix:X.N[i]?=some x) (hx:Loc X.env.scope x) (hc:X.calm=true) (hi:PI X tg iter wi) (ck:ClOk X N scope cl vals) (hcell:∀ y∈scope.names,y.2≠.cell) (hkind:scope.kind=.function)
   (hnames:∀ x∈scope.names,x.2=.local->scope.names.lookup x.1=some .local)
   (hg:∀ C s₀ H₀ ex,PG (cxC X N scope cl C s₀ H₀ ex) tg g) (ht:∀ C s₀ H₀ ex,PF (cxC X N scope cl C s₀ H₀ ex) ifs tests) (he:∀ C s₀ H₀ ex,PE (cxC X N scope cl C s₀ H₀ ex) elt te)
   (hsw:swapsWith (.ListComp elt [⟨tg,iter,ifs,0⟩] scope pos) (some (.Name x py)) spos.line X.env=pure true:=by rfl)
   (hf:X.fn x=true\/X.env.scope.names.lookup x=some .local:=by first | exact .inl rfl | exact .inr rfl | assumption)
   (hs:∀ x,foldedSetIterable iter X.env x=pure x:=by intro _; rfl):PS X (.Assign [.Name x py] (.ListComp elt [⟨tg,iter,ifs,0⟩] scope pos) spos) (cXI (bQX wi g tests te vals) (pX i)):=by
 intro pins s σ H D I h
 rw [exec_Assign_Name_used _ _ _ _ hsw]
 refine Ae (Ez (Ae ?_))
 show wpAny _ X.A (do let _ <-comprehension (.ListComp elt [⟨tg,iter,ifs,0⟩] scope pos) scope X.env _ (newList []) false (eval iter X.env) (some (assign (.Name x py) X.env))) _ _ s
 refine Ae (Cc (wpAny_comprehension_free (use:=some (assign (.Name x py) X.env)) (Q:=λ_ s'=>SP X pins D .next s') rfl hs ck.clos hkind hnames
   (thn (hi pins s σ H _ I h) λv s1 h1=>thn h1 λitv s2 h2=>?_)) (λ_ s' hq=>An (An hq)) λ_ _ e=>e)
 obtain ⟨it,fp,tn,J,H2,e,I2,T,st2,f2,q⟩:=h2
 subst e
 refine wO (RR:=λacc C=>compPost (model X.prog X.w) X.A X.xe (some (assign (.Name x py) X.env)) (λ_ s'=>SP X pins D .next s') acc C) I2 T st2 f2 hc ck hcell hkind hg ht he q λDl C s' H' m hn q' back fC=>?_
 show wpAny _ X.A (assign (.Name x py) X.env (.ref Dl)) _ _ s'
 have I':Inv X pins σ H' s':=back s'.heap (Heap.SameBut.refl ..)
 refine wpAny_assign_Name (sO I' hN hix hx (v:=.ref Dl) rfl (λs'' I'' hsb=>?_) hf)
 obtain ⟨a,hsb,ha⟩:=hsb
 have hCa:C≠a:=by
   rcases ha with z | z
   · rw [z]; exact fC.2.1
   · exact λe=>fC.2.2.2.2.1 x a z e.symm
 refine ⟨m,hn.sameBut hsb hCa,λh3 hsb3=>?_⟩
 exact ⟨σ.set i (some (.ref Dl)),H',I''.turned (t':=s''.toks) (λb o hb e=>(hsb3.2 b hb).trans e) fC.1 fC.2.1 fC.2.2.2.1 fC.2.2.2.2.1 fC.2.2.2.2.2,q'⟩
theorem wY (hfree:∀ x∈scope.names,x.2≠.free) (hcell:∀ y∈scope.names,y.2≠.cell):ClOk X N scope [] (λ_=>N.map λ_=>none) where
 clos:=closureFor_none hfree
 sub:=λx c h=>nomatch h
 has:=λx h=>by
   have e:(relabel scope X.env).names=scope.names:=by
     show List.map _ scope.names=scope.names
     refine map_eq_self λy hy=>?_
     obtain ⟨n,k⟩:=y
     have:(k == NameKind.free)=false:=by simpa using hfree _ hy
     simp [this]
   rw [e] at h
   rcases h with h | h
   · exact absurd rfl (hcell _ (Dd h))
   · exact absurd rfl (hfree _ (Dd h))
 len:=λσ=>by simp
 val:=λσ i x v h1 h2=>by
   rw [Ah] at h2
   cases e:N[i]? with
   | none=>rw [e] at h2; cases h2
   | some y=>rw [e] at h2; cases h2
end
section
variable {g:TG} {tests:TT} {te:TE} {σ0:St} {Q:VK} {H1:Hp}
theorem bJ4 {J:It} {xs:List V} {ok:Hp->Prop} (f:V->Option V) (hgo:∀ (i:Nat) H,ok H->i < xs.length->J.go i H) (hst:∀ H,ok H->J.stop xs.length H) (hy:∀ (i:Nat) H x H',ok H->J.yld i H x H'->H'=H/\xs[i]?=some x)
   (hok:∀ D ys,H1 D=none->ok (upd H1 D (.lst ys))) (hlen:xs.length < sizeLine)
   (hs:∀ (i:Nat) x Hc (A:VK) (B:Hp->Prop),xs[i]?=some x->ok Hc->(match f x with | some y=>A y Hc | none=>B Hc)->g x σ0 Hc λσ2 H2=>Wk σ0 σ2/\tests σ2 H2 λb H3=>if b=true then te σ2 H3 A else B H3)
   (fin:∀ D,H1 D=none->Q (.ref D) (upd H1 D (.lst (xs.filterMap f)))):eF g tests te σ0 Q J H1:=by
 intro D hD
 refine ⟨λi m Hc=>m=xs.length - i/\i<=xs.length/\Hc=upd H1 D (.lst ((xs.take i).filterMap f)),⟨xs.length,by simp,Nat.zero_le _,by simp⟩,?_⟩
 rintro i m Hc ⟨rfl,hi,rfl⟩
 by_cases hlt:i < xs.length
 · refine .inr ⟨hgo i _ (hok D _ hD) hlt,λx H' y=>?_⟩
   obtain ⟨e,hx⟩:=hy i _ x H' (hok D _ hD) y
   subst e
   refine hs i x _ _ _ hx (hok D _ hD) ?_
   have tk:xs.take (i + 1)=xs.take i ++ [x]:=by rw [Bc,hx]; rfl
   cases e:f x with
   | some y=>
     refine ⟨_,aE,?_,xs.length - (i + 1),by omega,rfl,hlt,?_⟩
     · have:=Dg f (xs.take i)
       rw [Bz] at this
       omega
     · rw [aXG,tk,Cf]
       simp [e]
   | none=>
     refine ⟨xs.length - (i + 1),by omega,rfl,hlt,?_⟩
     rw [tk,Cf]
     simp [e]
 · have e:i=xs.length:=by omega
   subst e
   rw [Bs]
   exact .inl ⟨hst _ (hok D _ hD),fin D hD⟩
theorem cZ2 {z:Str} (f:Nat->Option V) (hl:z.length < sizeLine)
   (hs:∀ (i:Nat) c Hc (A:VK) (B:Hp->Prop),z.cps.toList[i]?=some c->(match f c with | some y=>A y Hc | none=>B Hc)->g (.str ⟨#[c]⟩) σ0 Hc λσ2 H2=>Wk σ0 σ2/\tests σ2 H2 λb H3=>if b=true then te σ2 H3 A else B H3)
   (fin:∀ D,H1 D=none->Q (.ref D) (upd H1 D (.lst (z.cps.toList.filterMap f)))):eF g tests te σ0 Q (Its z) H1:=by
 have hz:z.cps.toList.length=z.length:=by simp [Str.length]
 have hz2:z.cps.size=z.length:=rfl
 refine bJ4 (xs:=z.cps.toList.map λc=>.str ⟨#[c]⟩) (ok:=λ_=>True) (λx=>match x with | .str y=>f (y.cps.toList.headD 0) | _=>none) (λi H _ h=>?_) (λH _=>?_) (λi H x H' _ y=>?_) (λ_ _ _=>trivial) (by rw [Ab,hz]; exact hl) (λi x Hc A B hx _ h=>?_) (λD hD=>?_)
 · rw [Ab,hz] at h; exact h
 · show z.cps.size<=_
   rw [Ab,hz]; exact Ag _
 · obtain ⟨e,c,hc,hx⟩:=y
   refine ⟨e,?_⟩
   rw [Ah,Df,hc,hx]; rfl
 · rw [Ah] at hx
   cases e:z.cps.toList[i]? with
   | none=>rw [e] at hx; cases hx
   | some c=>rw [e] at hx; cases hx; exact hs i c Hc A B e h
 · have q:=fin D hD
   rw [List.filterMap_map]
   exact q
end
theorem cJE {wi:TI} {g:TG} {tests:TT} {te:TE} {vals:St->St} {σ:St} {H:Hp} {Q:VK} (h:wi σ H λJ H1=>eF g tests te (vals σ) Q J H1):bQX wi g tests te vals σ H Q:=h
theorem dX4 {σ:St} {H:Hp} {Q:Bool->Hp->Prop} (h:Q true H):dX1 σ H Q:=h
end L2
set_option maxHeartbeats 4000000
namespace L2
open PySem PySem.Spec PyProof.Rows
def clF (env:Env):List (Str × NameKind)->List (Str × Addr)->List (Str × Addr)
 | [],acc=>acc
 | (n,k) :: r,acc=>if k == .free then clF env r ((n,(env.cells.lookup n).getD 0) :: acc) else clF env r acc
def bQO (ix:List (Option Nat)):St->St:=λσ=>ix.map λo=>match o with | none=>none | some j=>(σ[j]?).join
def dJ0 (N XN:List Str) (sn dn:List (Str × NameKind)) (ix:List (Option Nat)):Bool :=
 ix.length == N.length && (sn.all λy=>y.2 != .cell && (y.2 != .free || dn.lookup y.1 == some .cell)) && decide ((sn.map (·.1)).Nodup) &&
 ((List.range N.length).all λi=>match ix[i]? with | some (some j)=>N[i]? == XN[j]? && (match N[i]? with | some x=>sn.lookup x == some .free | none=>false) | _=>true)
theorem tR {env:Env}:∀ (names:List (Str × NameKind)) (acc:List (Str × Addr)),(∀ y∈names,y.2=.free->∃ c,env.cells.lookup y.1=some c)->
   (forIn names acc (λ(x:Str × NameKind) (cs:List (Str × Addr))=>(match x with
     | (name,kind)=>if (kind == NameKind.free)=true then do
         let a <-cellOf env name
         pure (ForInStep.yield ((name,a) :: cs))
       else pure (ForInStep.yield cs):Sem (ForInStep (List (Str × Addr))))))=(pure (clF env names acc):Sem (List (Str × Addr)))
 | [],acc,_=>rfl
 | (n,k) :: r,acc,h=>by
   rw [List.forIn_cons]
   unfold clF
   cases e:k == NameKind.free with
   | false=>
     simp only [e,Bool.false_eq_true,if_false,pure_bind]
     exact tR r acc λy hy=>h y (Am _ hy)
   | true=>
     obtain ⟨c,hc⟩:=h (n,k) List.mem_cons_self (by simpa using e)
     have hc':env.cells.lookup n=some c:=hc
     simp only [e,if_true,cellOf,hc',Option.getD_some,pure_bind]
     exact tR r _ λy hy=>h y (Am _ hy)
theorem uX {env:Env}:∀ (names:List (Str × NameKind)) (acc:List (Str × Addr)) {x:Str} {c:Addr},(clF env names acc).lookup x=some c->
   acc.lookup x=some c\/((x,NameKind.free)∈names/\c=(env.cells.lookup x).getD 0)
 | [],acc,x,c,h=>.inl h
 | (n,k) :: r,acc,x,c,h=>by
   unfold clF at h
   cases e:k == NameKind.free with
   | false=>
     rw [e] at h
     rcases uX r acc (by simpa using h) with z | ⟨z,q⟩
     · exact .inl z
     · exact .inr ⟨Am _ z,q⟩
   | true=>
     rw [e] at h
     have ek:k=.free:=by simpa using e
     rcases uX r _ (by simpa using h) with z | ⟨z,q⟩
     · rw [Dr] at z
       cases ex:x == n with
       | true=>
         rw [ex] at z
         have exn:x=n:=by simpa using ex
         subst exn; subst ek
         cases z
         exact .inr ⟨Al,rfl⟩
       | false=>rw [ex] at z; exact .inl z
     · exact .inr ⟨Am _ z,q⟩
theorem uM {env:Env}:∀ (names:List (Str × NameKind)) (acc:List (Str × Addr)) {x:Str},(acc.lookup x).isSome=true->((clF env names acc).lookup x).isSome=true
 | [],acc,x,h=>h
 | (n,k) :: r,acc,x,h=>by
   unfold clF
   split
   · refine uM r _ ?_
     rw [Dr]
     cases ex:x == n with
     | true=>rfl
     | false=>exact h
   · exact uM r acc h
theorem oF {env:Env}:∀ (names:List (Str × NameKind)) (acc:List (Str × Addr)) {x:Str},(x,NameKind.free)∈names->((clF env names acc).lookup x).isSome=true
 | (n,k) :: r,acc,x,h=>by
   unfold clF
   rcases Az.mp h with z | z
   · cases z
     simp only [beq_self_eq_true,if_true]
     refine uM r _ ?_
     rw [Dr,Gf]
     rfl
   · split
     · exact oF r _ z
     · exact oF r acc z
theorem iY {env:Env} {x:Str}:∀ {names:List (Str × NameKind)} {k':NameKind},(names.map λ(n,k)=>if (k == NameKind.free && env.scope.kind == .function && env.kindOf n == some .cell) then (n,NameKind.cell) else (n,k)).lookup x=some k'->
   ∃ k,(x,k)∈names/\(k'=k\/(k=.free/\k'=.cell))
 | [],_,h=>by simp at h
 | (n,k) :: r,k',h=>by
   rw [Ar] at h
   dsimp only at h
   cases hc:(k == NameKind.free && env.scope.kind == .function && env.kindOf n == some .cell) with
   | true=>
     rw [hc,if_pos rfl,Dr] at h
     cases ex:x == n with
     | true=>
       rw [ex] at h
       cases h
       have:x=n:=by simpa using ex
       subst this
       have hk:k=.free:=by
         have:=(Em _ _).mp hc
         have:=(Em _ _).mp this.1
         simpa using this.1
       exact ⟨k,Al,.inr ⟨hk,rfl⟩⟩
     | false=>
       rw [ex] at h
       obtain ⟨k1,h1,h2⟩:=iY h
       exact ⟨k1,Am _ h1,h2⟩
   | false=>
     rw [hc,if_neg Ao,Dr] at h
     cases ex:x == n with
     | true=>
       rw [ex] at h
       cases h
       have:x=n:=by simpa using ex
       subst this
       exact ⟨k,Al,.inl rfl⟩
     | false=>
       rw [ex] at h
       obtain ⟨k1,h1,h2⟩:=iY h
       exact ⟨k1,Am _ h1,h2⟩
theorem nN {env:Env} {x:Str} (hk:env.scope.kind=.function) (hx:env.kindOf x=some .cell):∀ {names:List (Str × NameKind)},names.lookup x=some .free->
   (names.map λ(n,k)=>if (k == NameKind.free && env.scope.kind == .function && env.kindOf n == some .cell) then (n,NameKind.cell) else (n,k)).lookup x=some .cell
 | [],h=>by simp at h
 | (n,k) :: r,h=>by
   rw [Ar]
   dsimp only
   rw [Dr] at h
   cases ex:x == n with
   | true=>
     rw [ex] at h
     cases h
     have:x=n:=by simpa using ex
     subst this
     rw [hk,hx]
     simp [List.lookup_cons]
   | false=>
     rw [ex] at h
     have ih:=nN hk hx h
     split <;> (rw [Dr,ex]; exact ih)
theorem iE {X:Cx} {N:List Str} {scope:Scope} (XN:List Str) (sc:Scope) (ix:List (Option Nat)) (hN:X.N=XN) (hsc:X.env.scope=sc) (hk:sc.kind=.function)
   (hcs:∀ x,sc.names.lookup x=some .cell->∃ c,X.env.cells.lookup x=some c) (c:dJ0 N XN scope.names sc.names ix=true):ClOk X N scope (clF X.env scope.names []) (bQO ix):=by
 unfold dJ0 at c
 simp only [Bool.and_eq_true,decide_eq_true_eq,List.all_eq_true,beq_iff_eq] at c
 obtain ⟨⟨⟨c0,c1⟩,c2⟩,c3⟩:=c
 have fr:∀ y,(y,NameKind.free)∈scope.names->sc.names.lookup y=some .cell:=λy hy=>by
   have z:=(c1 _ hy).2
   simpa using z
 have nocell:∀ y,(y,NameKind.cell) ∉ scope.names:=λy hy=>by
   have z:=(c1 _ hy).1
   simp at z
 refine ⟨?_,λx c h=>?_,λx h=>?_,λσ=>?_,λσ i x v h1 h2=>?_⟩
 · unfold closureFor
   simp only [bind_pure]
   exact tR scope.names [] λy hy hf=>hcs y.1 (fr y.1 (by rw [<-hf]; exact hy))
 · rcases uX _ _ h with z | ⟨z,q⟩
   · simp at z
   · obtain ⟨c',e⟩:=hcs x (fr x z)
     rw [q,e]; rfl
 · have:∃ k,(x,k)∈scope.names/\k=.free:=by
     rcases h with h | h
     · obtain ⟨k,h1,h2⟩:=iY h
       rcases h2 with z | ⟨z,_⟩
       · subst z; exact absurd h1 (nocell x)
       · exact ⟨k,h1,z⟩
     · obtain ⟨k,h1,h2⟩:=iY h
       rcases h2 with z | ⟨z,z2⟩
       · exact ⟨k,h1,z.symm⟩
       · exact ⟨k,h1,z⟩
   obtain ⟨k,h1,rfl⟩:=this
   exact Ek.mp (oF scope.names [] h1)
 · unfold bQO
   rw [Ab,c0]
 · unfold bQO at h2
   rw [Ah] at h2
   cases e:ix[i]? with
   | none=>rw [e] at h2; cases h2
   | some o=>
     rw [e] at h2
     cases o with
     | none=>cases h2
     | some j=>
       have hi:i < N.length:=(Ad.mp h1).1
       have z:=c3 i (Cb.mpr hi)
       rw [e,h1] at z
       simp only [Bool.and_eq_true,beq_iff_eq] at z
       have hv:σ[j]?=some (some v):=by
         have h3:(σ[j]?).join=some v:=by simpa using h2
         cases e2:σ[j]? with
         | none=>rw [e2] at h3; cases h3
         | some o=>rw [e2] at h3; cases o with
           | none=>cases h3
           | some u=>cases h3; rfl
       have hm:(x,NameKind.free)∈scope.names:=Dd z.2
       have hx:=fr x hm
       refine ⟨j,by rw [hN]; exact z.1.symm,hv,by rw [hsc]; exact hx,Ek.mp (oF scope.names [] hm),?_⟩
       exact nN (by rw [hsc]; exact hk) (by show X.env.scope.names.lookup x=_; rw [hsc]; exact hx) z.2
end L2
set_option maxHeartbeats 4000000
namespace L2
open PySem PySem.Spec PyProof.Rows
open PySem.AutoSeq1 (wpAny_loadPart')
theorem cZ1 {α:Type} {M:Model} {A:Around} {E:Value->Shared->Prop} {s:Shared} {c:Bool} {x y:Sem α} {Q:α->Shared->Prop} (h1:wpAny M A x Q E s) (h2:wpAny M A y Q E s):wpAny M A (if c=true then x else y) Q E s:=by
 cases c
 · exact h2
 · exact h1
theorem aJR (l:Addr) (its:Array Value) (n:Nat) (dc:Option Addr) (sl:Array (Option Value)) (k:Int) (t:Tok) (hk:Builtin.SmallTypes.fitsIndex k=true) :
   Meets (Builtin.«enumerate.__new__» ⟨[.type "enumerate",.ref l],[("start",.int k t)]⟩) (λ_ R s=>s.heap.get? l=some ⟨.type "list",dc,.seq its n,sl⟩/\
     R (.ok (.ret (.ref (s.heap.push { cls:=.type "list_iterator",data:=.fields #[.ref l,.int 0 0] }).objs.size)))
       { s with heap:=(s.heap.push { cls:=.type "list_iterator",data:=.fields #[.ref l,.int 0 0] }).push ⟨.type "enumerate",none,.fields #[.none,.bool false,.ref s.heap.objs.size,rawInt k,.none,.none],#[]⟩ }) :=
 .of_wp λprog w A R s h=>by
   obtain ⟨hp,g,d,tk,os⟩:=s
   obtain ⟨hl,h⟩:=h
   have hsub:=sub_enumerate
   have hL:Heap.IsList hp l its:=⟨_,hl,rfl,n,rfl⟩
   have hk':(!Builtin.SmallTypes.fitsIndex k)=false:=by rw [hk]; rfl
   wp_walk using Bv hl
   refine wpAny_stack_any λst=>An ?_
   refine cZ1 ?_ ?_ <;>
   · wp_walk using (Bv hl),(Gb (s:=⟨hp,g,d,tk,os⟩) hL)
     exact ⟨_,rfl,h⟩
section
variable {prog:Program} {w:World} {A:Around} {E:Value->Shared->Prop} {s:Shared}
theorem vL {T newId:String} {Bn:Builtin} {args:List Value} {kw:List (Str × Value)} {S:PySem.Spec} {Q Q1:Value->Shared->Prop} (ft:TypeCalled T newId "object.__init__")
   (hct:checkTypeCall T ⟨args,kw⟩=pure ()) (hcn:checkBuiltinCall newId ⟨.type T :: args,kw⟩=pure ()) (eN:entryFor table newId=some Bn) (g:Meets (Bn ⟨.type T :: args,kw⟩) S) (h:S A.in1 (wants Q1 E) s)
   (hnx:∀ o s1,Q1 o s1->s1.TypeIs o T/\argsOk "object.__init__" ⟨o :: args,kw⟩/\∃ Si,Meets (Builtin.«object.__init__» ⟨o :: args,kw⟩) Si/\Si A.in1 (wants (λr s2=>r=.none/\Q o s2) E) s1) :
   wpAny (model prog w) A (call (.type T) args kw) Q E s:=by
 obtain ⟨c,tl,hmro⟩:=ft.mro
 have hmade:=ft.made
 have hsub:=ft.sub
 have h1:=ft.notType
 have h2:=ft.canCreate
 refine Ge (codeAny_of_tree (show wpAny _ _ (callAny (.type T) _) _ _ _ from An ⟨Code.quiet_builtin _ (by decide +kernel),Fu F.entry_type_call ?_⟩))
 rw [Around.under_plain (weight_type_call_type T args kw) (units_type_call_type T args kw)]
 repeat (any_goals first | assumption | wp_step)
 refine Fj (Eh ft.plain eN (wpAny_of_eq hcn (g prog w A.in1 _ s h))) ?_
 rintro (e | fl) s1 hr
 · exact hr
 · cases fl with
   | ret o=>
     obtain ⟨hT,hok,Si,gi,hsi⟩:=hnx _ _ hr
     have hli:=ft.init.lookup
     have hbi:=ft.init.bind o
     repeat (any_goals first | assumption | wp_step)
     refine Fj (Eh ft.init.plain F.entry_object_init (ft.init.check _ _ _ _ _ _ _ _ hT hok (gi prog w A.in1 _ s1 hsi))) ?_
     rintro (e | fl2) s2 hr2
     · exact hr2
     · cases fl2 with
       | ret r=>
         obtain ⟨rfl,hq⟩:=hr2
         repeat (any_goals first | assumption | wp_step)
       | _=>exact hr2.elim
   | _=>exact hr.elim
theorem cQM {T newId:String} {self:Value} {rest:List Value} {kw:List (Str × Value)} (hl:typeLookup (.type T) "__init__"=pure (some (.builtin "object.__init__")))
   (hm:Bind.madeBy (.type T)=pure (some newId)) (hne:(some newId != some "object.__new__")=true) :
   Meets (Builtin.«object.__init__» ⟨self :: rest,kw⟩) (λ_ R s=>s.TypeIs self T/\R (.ok (.ret .none)) s):=by
 refine Meets.of_wp λprog w A R s hs=>?_
 obtain ⟨hT,hq⟩:=hs
 cases rest with
 | nil=>
   cases kw with
   | nil=>exact An ⟨_,rfl,hq⟩
   | cons a r=>
     repeat (any_goals first | assumption | wp_step)
     exact ⟨_,rfl,hq⟩
 | cons a r=>
   repeat (any_goals first | assumption | wp_step)
   exact ⟨_,rfl,hq⟩
theorem uI {l:Addr} {its:Array Value} {k:Int} {t:Tok} {Q:Value->Shared->Prop} (hk:Builtin.SmallTypes.fitsIndex k=true) (hL:s.heap.IsList l its)
   (h:∀ h',IsEnum h' (s.heap.objs.size + 1) s.heap.objs.size k .none->h'.IsListIter s.heap.objs.size l 0->h'.objs.size=s.heap.objs.size + 2->(∀ b o,s.heap.get? b=some o->h'.get? b=some o)->Q (.ref (s.heap.objs.size + 1)) { s with heap:=h' }) :
   wpAny (model prog w) A (call (.type "enumerate") [.ref l] [("start",.int k t)]) Q E s:=by
 obtain ⟨⟨c,dc,dt,sl⟩,hl,hc,n,hd⟩:=hL
 obtain rfl:c=.type "list" := hc
 obtain rfl:dt=.seq its n:=hd
 have hz:(s.heap.push { cls:=.type "list_iterator",data:=.fields #[.ref l,.int 0 0] }).objs.size=s.heap.objs.size + 1:=Heap.size_push ..
 refine vL (Q1:=λo s1=>s1.TypeIs o "enumerate"/\Q o s1) F.called_enumerate (by kernel_rfl) (by kernel_rfl) F.entry_enumerate_new (aJR l its n dc sl k t hk) ⟨hl,?_⟩ λo s1 hq=>⟨hq.1,?_,_,cQM F.called_enumerate.init.lookup F.called_enumerate.made (by decide),hq.1,rfl,hq.2⟩
 · show _/\_
   rw [hz]
   have he:IsEnum ((s.heap.push { cls:=.type "list_iterator",data:=.fields #[.ref l,.int 0 0] }).push ⟨.type "enumerate",none,.fields #[.none,.bool false,.ref s.heap.objs.size,rawInt k,.none,.none],#[]⟩) (s.heap.objs.size + 1) s.heap.objs.size k .none:=by
     have q:=Ax (s.heap.push { cls:=.type "list_iterator",data:=.fields #[.ref l,.int 0 0] }) (o:=⟨.type "enumerate",none,.fields #[.none,.bool false,.ref s.heap.objs.size,rawInt k,.none,.none],#[]⟩) rfl
     rwa [hz] at q
   exact ⟨⟨_,he,rfl⟩,h _ he ⟨_,Af _ (Ax _ rfl),rfl,rfl⟩ (by rw [Heap.size_push,hz]) λb o x=>Af _ (Af _ x)⟩
 · unfold argsOk
   rw [signature?_of (n:=['_','_','t','i','n','i','_','_']) (o := "tcejbo".toList) (by kernel_rfl) F.owner_object]
   kernel_rfl
end
theorem nU {prog:Program} {w:World} {A:Around} {it:Addr} {fp:List Addr} {n:Nat} {P:Nat->Value->Prop} {S:Nat->Heap->Prop} (k:Nat) (D:Draws prog w A it fp n P S) :
   Draws prog w A it fp (k + n) (λj v=>P (j - k) v) (λj h=>k<=j/\S (j - k) h) where
 live:=λi h st=>D.live _ h st.2
 frame:=λi h h' st kk=>⟨st.1,D.frame _ h h' st.2 kk⟩
 item:=λi s Q E hi st hQ=>D.item (i - k) s Q E (by have:=st.1; omega) st.2 λx h' tk hP hS sb=>hQ x h' tk hP ⟨by have:=st.1; omega,by rw [show i + 1 - k=i - k + 1 by have:=st.1; omega]; exact hS⟩ sb
 done:=λs Q E st hE=>D.done s Q E (by have q:=st.2; rwa [show k + n - k=n by omega] at q) hE
section
variable {X:Cx} {pins:List (Addr × Obj)} {σ:St} {H:Hp} {s:Shared} {h':Heap}
theorem Inv.turnLaid {ch:List Addr} {a:Addr} {o:HO} {t':Nat} (I:Inv X pins σ H s) (hch:∀ b ∈ ch,kO X pins H b) (k:∀ b u,b ∉ ch->s.heap.get? b=some u->h'.get? b=some u) (hp:s.heap.objs.size<=a)
   (new:ObjOk X.prog X.w (upd H a o) h' a o):Inv X pins σ (upd H a o) { s with heap:=h',toks:=t' }:=by
 have hn:=I.hok.fresh hp
 have nch:∀ b u,H b=some u->b ∉ ch:=λb u e z=>by rw [(hch b z).1] at e; cases e
 refine I.step (g':=s.gens) (d':=s.drawn) (ch:=ch) (λb hb=>?_) (λb o _ _ hc e _=>k b o hc e) (λb o _ _ hc e _=>⟨o.slots,k b o hc e⟩) (λb o _ e n=>?_) (λb o hc e=>⟨o,k b o hc e⟩)
   (λb xs e=>by rw [aK (bJ e hn)]; exact e) (λb o u e=>by rw [aK (bJ e hn)]; exact e) (λb ps e=>⟨#[],by rw [aK (bJ e hn),e]; simp⟩) (λm hm=>?_) (λb u e=>?_) I.bare
 · obtain ⟨_,q1,_,q3,q4,q5⟩:=hch b hb
   exact ⟨q3,q1,q4,q5⟩
 · rw [aK (Bk (Bb (Aq e) hp))]
   exact n
 · obtain ⟨ob,es,ep,ho,r⟩:=hm
   exact ⟨ob,es,ep,k _ ob (λz=>(hch _ z).2.1 rfl) ho,r⟩
 · by_cases hb:b=a
   · subst hb
     rw [aE] at e
     cases e
     exact new
   · rw [aK hb] at e
     refine (I.hok b u e).stay (λc v hc q=>k c v ?_ q) (λc q=>by rw [aK (bJ q hn)]; exact q) λc xs q=>by rw [aK (bJ q hn)]; exact q
     rcases hc with z | z
     · rw [z]; exact nch b u e
     · exact nch c _ z
theorem Inv.turnAll {ch:List Addr} {t':Nat} (I:Inv X pins σ H s) (hch:∀ b ∈ ch,kO X pins H b) (k:∀ b u,b ∉ ch->s.heap.get? b=some u->h'.get? b=some u):Inv X pins σ H { s with heap:=h',toks:=t' }:=by
 have nch:∀ b u,H b=some u->b ∉ ch:=λb u e z=>by rw [(hch b z).1] at e; cases e
 refine I.step (g':=s.gens) (d':=s.drawn) (ch:=ch) (λb hb=>?_) (λb o _ _ hc e _=>k b o hc e) (λb o _ _ hc e _=>⟨o.slots,k b o hc e⟩) (λb o _ e n=>n) (λb o hc e=>⟨o,k b o hc e⟩)
   (λb xs e=>e) (λb o u e=>e) (λb ps e=>⟨#[],by rw [e]; simp⟩) (λm hm=>?_) (λb u e=>?_) I.bare
 · obtain ⟨_,q1,_,q3,q4,q5⟩:=hch b hb
   exact ⟨q3,q1,q4,q5⟩
 · obtain ⟨ob,es,ep,ho,r⟩:=hm
   exact ⟨ob,es,ep,k _ ob (λz=>(hch _ z).2.1 rfl) ho,r⟩
 · refine (I.hok b u e).stay (λc v hc q=>k c v ?_ q) (λc q=>q) λc xs q=>q
   rcases hc with z | z
   · rw [z]; exact nch b u e
   · exact nch c _ z
end
def Ite (K:PySem.W.Frag) (a:Addr) (k:Nat):It :=
 ⟨λi H=>∃ xs x,SqL K H a xs/\xs[i]?=some x,λi H v H'=>∃ p x,H p=none/\v=.ref p/\H'=upd H p (.tup [.int ((k + i:Nat):Int),x])/\∀ xs,SqL K H a xs->xs[i]?=some x,λi H=>∃ xs,SqL K H a xs/\xs.length=i⟩
theorem aZ4 {P:Program} {w:World} {K:PySem.W.Frag} {elts:List Expr} {x1:Nat} {tp:Pos} (a e it:Addr) (k:Nat) (hei:e≠it) :
   Turn P w K (.Tuple elts x1 tp) (Ite K a k) [e,it] e (λi h=>(∃ old,IsEnum h e it ((k + i:Nat):Int) old)/\h.IsListIter it a i) where
 mem:=by simp
 obj:=λi h st b hb=>by
   obtain ⟨⟨old,he⟩,o,ho,c,d⟩:=st
   rcases Az.mp hb with z | z
   · subst z; exact ⟨_,he,λv z=>by cases z⟩
   · rw [As.mp z]; exact ⟨o,ho,λv z=>by rw [d] at z; cases z⟩
 keep:=λi h h' st kk=>⟨let ⟨old,he⟩:=st.1; ⟨old,kk e (by simp) _ he⟩,st.2.at λo q=>kk it (by simp) o q⟩
 item:=by
   intro X hP hw hK hc i pins s σ H E I hf st hg
   subst hP hw hK
   obtain ⟨xs,x,hq,hx⟩:=hg
   obtain ⟨its,rv,p,hz⟩:=I.list hq
   obtain ⟨u,hu,ru⟩:=rv.get hx
   obtain ⟨⟨old,he⟩,hit⟩:=st
   have hai:a≠it:=by
     rintro rfl
     obtain ⟨o,ho,c,_⟩:=hit
     obtain ⟨o2,ho2,c2,_⟩:=p.isList
     rw [ho] at ho2; cases ho2
     rw [c] at c2; injection c2 with c2; exact absurd c2 (by decide)
   have hae:a≠e:=by
     rintro rfl
     obtain ⟨o2,ho2,c2,_⟩:=p.isList
     rw [he] at ho2; cases ho2
     injection c2 with c2; exact absurd c2 (by decide)
   have hl:=rv.length
   have hil:i < its.length:=(Ad.mp hu).1
   have D:=nU k (Draws.list (prog:=X.prog) (w:=X.w) (A:=X.A.in1) (show X.A.in1.handled=none from I.ok.hd hc) it a hai its.toArray)
   refine wpAny_pyNext_enum_itemD D (i:=k + i) he ⟨Nat.le_add_right _ _,by rw [Eo]; exact ⟨hit,p.isList⟩⟩ (by rw [Bq]; omega) hei (λz=>by
     rcases Az.mp z with z | z
     · exact hei z
     · exact hae (As.mp z).symm) λy h1 tk hP ho hS hT hsz kk=>?_
   refine ⟨_,rfl,wpAny_letOwnedTupleGo_enum ho λh2 he2 hs2=>?_⟩
   have ey:y=u:=by
     have hP':its.toArray[k + i - k]?=some y:=hP
     rw [Eo] at hP'
     have:its[i]?=some y:=by simpa using hP'
     rw [hu] at this; cases this; rfl
   subst ey
   have hTe:s.heap.objs.size≠e:=Gj (Aq he)
   have hTi:s.heap.objs.size≠it:=by obtain ⟨o,q,_⟩:=hit; exact Gj (Aq q)
   have hT2:h2.get? s.heap.objs.size=some { cls:=.type "tuple",data:=.seq #[.int ((k + i:Nat):Int) tk,y] }:=(hs2.2 _ hTe).trans hT
   have hS':h1.IsListIter it a (i + 1):=by
     have q:=hS.2.1
     rwa [show k + i + 1 - k=i + 1 by omega] at q
   have I2:Inv X pins σ (upd H s.heap.objs.size (.tup [.int ((k + i:Nat):Int),x])) { s with heap:=h2,toks:=tk + 1 }:=by
     refine I.turnLaid (ch:=[e,it]) hf (λb u hb q=>(hs2.2 b (λz=>hb (by simp [z]))).trans (kk b u (λz=>hb (by simp [z])) (λz=>hb (by simp [z])) q)) (Nat.le_refl _) ⟨bU (by show 2<=_; omega),[.int ((k + i:Nat):Int) tk,y],.cons ⟨tk,rfl⟩ (.cons ru .nil),_,hT2,rfl,_,rfl⟩
   refine ⟨.ref s.heap.objs.size,_,I2,rfl,⟨_,x,I.hok.fresh (Ag _),rfl,rfl,λys hy=>by rw [I.list_inj hy hq]; exact hx⟩,⟨⟨y,he2⟩,hS'.at λo q=>(hs2.2 it hei.symm).trans q⟩,λb hb=>?_⟩
   rcases Az.mp hb with z | z
   · rw [z,aK hTe.symm]; exact (hf e (by simp)).1
   · rw [List.mem_singleton.mp z,aK hTi.symm]; exact (hf it (by simp)).1
 done:=by
   intro X hP hw hK hc i pins s σ H E I hf st hg
   subst hP hw hK
   obtain ⟨xs,hq,hx⟩:=hg
   obtain ⟨its,rv,p,hz⟩:=I.list hq
   obtain ⟨⟨old,he⟩,hit⟩:=st
   have hl:=rv.length
   have hai:a≠it:=by
     rintro rfl
     obtain ⟨o,ho,c,_⟩:=hit
     obtain ⟨o2,ho2,c2,_⟩:=p.isList
     rw [ho] at ho2; cases ho2
     rw [c] at c2; injection c2 with c2; exact absurd c2 (by decide)
   have D:=nU k (Draws.list (prog:=X.prog) (w:=X.w) (A:=X.A.in1) (show X.A.in1.handled=none from I.ok.hd hc) it a hai its.toArray)
   refine wpAny_pyNext_enum_endD D he ⟨Nat.le_add_right _ _,by rw [Eo,Bq,<-hl,hx]; exact ⟨hit,p.isList⟩⟩ λh' eb=>⟨rfl,?_⟩
   exact I.turnAll (t':=s.toks) (ch:=[e,it]) hf λb u hb q=>eb b u (λz=>hb (by simp [z])) q
 self:=λ_ _ _ _ _ st h=>let ⟨⟨_,he⟩,_⟩:=st; wpAny_pyIter_enum he h
section
variable {X:Cx} {l:Expr} {ta tk:TA} {kws:List Keyword} {elts:List Expr} {x1:Nat} {tp p pos kp:Pos}
def zV (R:Addr->Hp->Prop):List V->Hp->Prop:=λvs H=>match vs with | [.ref j]=>R j H | _=>False
theorem aQ2 {R:Addr->Hp->Prop} {vs:List V} {H:Hp} (q:zV R vs H):∃ j,vs=[.ref j]/\R j H:=by
 unfold zV at q
 split at q
 · exact ⟨_,rfl,q⟩
 · exact q.elim
def cZH (K:PySem.W.Frag) (ta:TA):TI:=λσ H R=>ta σ H (zV λa H1=>onL (rdL H1 a) (R (Ite K a 0) H1))
def bZY (K:PySem.W.Frag) (ta tk:TA):TI:=λσ H R=>ta σ H (zV λa H1=>tk σ H1 (aQJ λk H2=>(0<=k/\k < 2 ^ 62)/\onL (rdL H2 a) (R (Ite K a k.toNat) H2)))
theorem aQ9 {pins:List (Addr × Obj)} {σ:St} {H1:Hp} {s1:Shared} {a:Addr} {k:Nat} {h':Heap} {R:It->Hp->Prop} {E:Value->Shared->Prop} (I1:Inv X pins σ H1 s1) (he:IsEnum h' (s1.heap.objs.size + 1) s1.heap.objs.size ((k:Nat):Int) .none) (hi:h'.IsListIter s1.heap.objs.size a 0) (hz:h'.objs.size=s1.heap.objs.size + 2)
   (hk:∀ b o,s1.heap.get? b=some o->h'.get? b=some o) (q:R (Ite X.K a k) H1):wpAny (model X.prog X.w) X.A (pyIter (.ref (s1.heap.objs.size + 1))) (PIE X pins σ (.Tuple elts x1 tp) R) E { s1 with heap:=h' }:=by
 refine wpAny_pyIter_enum (s:={ s1 with heap:=h' }) he ⟨_,[s1.heap.objs.size + 1,s1.heap.objs.size],_,_,H1,rfl,I1.kept (t':=s1.toks) hk,aZ4 a _ _ k (Nat.succ_ne_self _),⟨⟨_,he⟩,hi⟩,λb hb=>?_,q⟩
 have z:s1.heap.objs.size<=b:=by
   rcases Az.mp hb with z | z
   · rw [z]; exact Nat.le_succ _
   · rw [As.mp z]; exact Ag _
 exact I1.fpOk z (I1.hok.fresh z)
theorem uP (hg:Gl X "enumerate") (hm:X.mg "enumerate"=none) (ha:PA X [l] ta) (hs:starEach [l] X.env=[(false,eval l X.env)]:=by rfl) :
   PI X (.Tuple elts x1 tp) (.Call (.Name "enumerate" p) [l] [] pos) (cZH X.K ta):=by
 intro pins s σ H R I h
 refine Call_ (iT I hg hm boot_enumerate (Ct (thn (ha pos pins s σ H _ I h) λus s1 ⟨vs,H1,I1,r1,q1⟩=>?_) hs rfl))
 obtain ⟨a,rfl,q⟩:=aQ2 q1
 obtain ⟨u,rfl,ru⟩:=gR r1
 cases ru
 unfold onL at q
 split at q
 · rename_i xs ex
   obtain ⟨its,rv,p,hz⟩:=I1.list (bD ex)
   exact call_enumerate_list p.isList λh' he hi hz hk=>aQ9 I1 (k:=0) he hi hz hk q
 · exact q.elim
theorem tY {M:Model} {A:Around} {E:Value->Shared->Prop} {s:Shared} {T:String} {args:List (Bool × Sem Value)} {kw:List (Option Str × Sem Value)} {Q:Value->Shared->Prop}
   (h1:args.any (·.1)=false) (h2:kw.any (·.1.isNone)=false) (h:wpAny M A (evalArgs (.type T) true args kw) (λa s1=>wpAny M A (call (.type T) a.pos a.kw) Q E s1) E s):wpAny M A (callWith pos (.type T) [] args kw) Q E s:=by
 unfold callWith
 refine Ae (Cm (Cc h (λa s1 q1=>Ae (Ez ?_)) λ_ _ x=>x))
 rw [h1,h2]
 exact Ae (An (Ae (Cc q1 (λr s2 hr=>Ae (Cm (wpAny_point (An hr)))) λ_ _ x=>x)))
theorem bQ6 {kx:Expr} (hg:Gl X "enumerate") (hm:X.mg "enumerate"=none) (ha:PA X [l] ta) (hk:PK X [⟨some "start",kx,kp⟩] tk) (hs:starEach [l] X.env=[(false,eval l X.env)]:=by rfl)
   (hks:keywordEach [⟨some "start",kx,kp⟩] X.env=[(some ("start" : Str),eval kx X.env)]:=by rfl) :
   PI X (.Tuple elts x1 tp) (.Call (.Name "enumerate" p) [l] [⟨some "start",kx,kp⟩] pos) (bZY X.K ta tk):=by
 intro pins s σ H R I h
 have hs2:backTo pos (starEach [l] X.env)=[(false,eval l X.env)]:=by rw [hs]; rfl
 refine Ea (iT I hg hm boot_enumerate (tY (by rw [hs2]; rfl) (by rw [hks]; rfl) ?_))
 rw [hs2]
 refine evalArgs_kwB (by rw [hks]; rfl) ?_
 rw [<-hs2]
 refine thn (ha pos pins s σ H _ I h) λus s1 ⟨vs,H1,I1,r1,q1⟩=>?_
 obtain ⟨a,rfl,q⟩:=aQ2 q1
 refine thn (hk pos pins s1 σ H1 _ I1 q) λws s2 ⟨zs,H2,I2,r2,q2⟩=>?_
 obtain ⟨k,rfl,⟨k0,k1⟩,q⟩:=aXP q2
 obtain ⟨u,rfl,ru⟩:=gR r1
 cases ru
 obtain ⟨u,rfl,t,rfl⟩:=gR r2
 unfold onL at q
 split at q
 · rename_i xs ex
   obtain ⟨its,rv,p,hz⟩:=I2.list (bD ex)
   have e:(backToKw pos (keywordEach [⟨some "start",kx,kp⟩] X.env)).filterMap (·.1)=(["start"]:List Str):=by rw [hks]; rfl
   rw [e]
   refine uI (by unfold Builtin.SmallTypes.fitsIndex; rw [Au (by omega),Au (by omega)]; rfl) p.isList λh' he hi hz hk=>aQ9 I2 (k:=k.toNat) ?_ hi hz hk q
   rw [show ((k.toNat:Nat):Int)=k by omega]
   exact he
 · exact q.elim
end
section
variable {K:PySem.W.Frag} {a:Addr} {k:Nat} {xs:List V} {g:TG} {tb:TS} {D:Ends} {σ σ0:St} {H H1:Hp} {tests:TT} {te:TE} {Q:VK}
theorem aQU (Pv:Nat->St->Hp->Prop) (h0:Pv 0 σ H) (hl:∀ i σ H,i<=xs.length->Pv i σ H->rdL H a=some xs)
   (hs:∀ i x σ H p,xs[i]?=some x->Pv i σ H->H p=none->g (.ref p) σ (upd H p (.tup [.int ((k + i:Nat):Int),x])) λσ2 H2=>tb { D with nx:=Pv (i + 1),ct:=Pv (i + 1),bk:=D.nx } σ2 H2) (hd:∀ σ H,Pv xs.length σ H->D.nx σ H):qE (Ite K a k) g tb D σ H:=by
 refine ⟨λi m σ H=>m=xs.length - i/\i<=xs.length/\Pv i σ H,⟨xs.length,by simp,Nat.zero_le _,h0⟩,?_⟩
 rintro i m σ H ⟨rfl,hi,p⟩
 have hr:=hl i σ H hi p
 by_cases hlt:i < xs.length
 · refine .inr ⟨⟨xs,xs[i],bD hr,by simp [hlt]⟩,Pv (i + 1),λσ' H' p'=>⟨xs.length - (i + 1),by omega,rfl,hlt,p'⟩,λx H' y=>?_⟩
   obtain ⟨q,z,hq,rfl,rfl,hz⟩:=y
   exact hs i z σ H q (hz xs (bD hr)) p hq
 · have e:i=xs.length:=by omega
   subst e
   exact .inl ⟨⟨xs,bD hr,rfl⟩,hd σ H p⟩
theorem cXN (f:Nat->V->Option V) (ha:rdL H1 a=some xs) (hl:xs.length < sizeLine)
   (hs:∀ (i:Nat) x Hc p (A:VK) (B:Hp->Prop),xs[i]?=some x->Same H1 Hc->Hc p=none->(∀ Hd,Same (upd Hc p (.tup [.int ((k + i:Nat):Int),x])) Hd->match f i x with | some y=>A y Hd | none=>B Hd)->
     g (.ref p) σ0 (upd Hc p (.tup [.int ((k + i:Nat):Int),x])) λσ2 H2=>Wk σ0 σ2/\tests σ2 H2 λb H3=>if b=true then te σ2 H3 A else B H3)
   (fin:∀ D Hd,H1 D=none->Same H1 Hd->rdL Hd D=some ((List.range xs.length).filterMap λi=>f i (xs.getD i .non))->Q (.ref D) Hd):eF g tests te σ0 Q (Ite K a k) H1:=by
 intro D hD
 refine ⟨λi m Hc=>m=xs.length - i/\i<=xs.length/\Same H1 Hc/\Hc D=some (.lst ((List.range i).filterMap λi=>f i (xs.getD i .non))),⟨xs.length,by simp,Nat.zero_le _,aF hD _,by rw [aE]; rfl⟩,?_⟩
 rintro i m Hc ⟨rfl,hi,sm,hDc⟩
 have hr:=aI sm ha
 by_cases hlt:i < xs.length
 · refine .inr ⟨⟨xs,xs[i],bD hr,by simp [hlt]⟩,λv H' y=>?_⟩
   obtain ⟨q,z,hq,rfl,rfl,hz⟩:=y
   have hx:=hz xs (bD hr)
   have hg:xs.getD i .non=z:=by rw [Ac,hx]; rfl
   refine hs i z Hc q _ _ hx sm hq λHd sd=>?_
   have hDd:Hd D=some (.lst ((List.range i).filterMap λi=>f i (xs.getD i .non))):=sd _ _ (aF hq _ _ _ hDc)
   have sH:Same H1 Hd:=sm.trans ((aF hq _).trans sd)
   cases e:f i z with
   | some y=>
     refine ⟨_,hDd,?_,xs.length - (i + 1),by omega,rfl,hlt,λb o hb=>?_,?_⟩
     · have:=Dg (λi=>f i (xs.getD i .non)) (List.range i)
       rw [Bx] at this
       omega
     · rw [aK (bJ hb hD)]; exact sH b o hb
     · rw [aE,Ce,Cf,Dh (b:=y) (by rw [hg,e]),Dj]
   | none=>
     refine ⟨xs.length - (i + 1),by omega,rfl,hlt,sH,?_⟩
     rw [hDd,Ce,Cf,Ds (by rw [hg,e]),Dj,Bm]
 · have e:i=xs.length:=by omega
   subst e
   exact .inl ⟨⟨xs,bD hr,rfl⟩,fin D Hc hD sm (aM hDc)⟩
theorem cXE {ta:TA} {R:It->Hp->Prop} (h:ta σ H (zV λa H1=>onL (rdL H1 a) (R (Ite K a 0) H1))):cZH K ta σ H R:=h
theorem aJ4 {ta tk:TA} {R:It->Hp->Prop} (h:ta σ H (zV λa H1=>tk σ H1 (aQJ λk H2=>(0<=k/\k < 2 ^ 62)/\onL (rdL H2 a) (R (Ite K a k.toNat) H2)))):bZY K ta tk σ H R:=h
theorem dQS {R:Addr->Hp->Prop} (h:R a H):zV R [.ref a] H:=h
end
section
variable {X:Cx}
end
section
variable {K:PySem.W.Frag} {n:Nat} {t:TG} {u:TGs} {v:V} {r xs:List V} {σ:St} {H:Hp} {Q:St->Hp->Prop} {a:Addr}
theorem cJM (e:lC H a=some xs) (hn:xs.length=n) (h:u xs σ H Q):cJP K n u (.ref a) σ H Q:=⟨a,xs,rfl,.of (oE e),hn,h⟩
theorem cQ7 (h:t v σ H λσ' H'=>u r σ' H' Q):aXX t u (v :: r) σ H Q:=⟨v,r,rfl,h⟩
theorem dQH (h:Q σ H):cJ6 [] σ H Q:=⟨rfl,h⟩
end
theorem mJ {X:Cx} {K:PySem.W.Frag} {i j k:Nat} {x y:Str} {px py pos:Pos} (hK:X.K=K) (hc:X.calm=true) (hN:X.N.Nodup) (hi:X.N[i]?=some x) (hx:Loc X.env.scope x) (hfx:X.fn x=true\/X.env.scope.names.lookup x=some .local)
   (hj:X.N[j]?=some y) (hy:Loc X.env.scope y) (hfy:X.fn y=true\/X.env.scope.names.lookup y=some .local):PG X (.Tuple [.Name x px,.Name y py] k pos) (cJP K 2 (aXX (pX i) (aXX (pX j) cJ6))):=by
 subst hK
 exact bQA hc (eY (aP hN hi hx hfx) (eY (aP hN hj hy hfy) uZ))
end L2
set_option maxHeartbeats 4000000
namespace L2
open PySem PySem.Spec PyProof.Rows
structure Fly (B:Heap) (l:List Env) (e:Addr) (cls:Value) (d:Option Addr) (fl:Value) (h:Heap):Prop where
 stays:B.StaysIn h
 new:B.get? e=none
 frames:h.FunFrames B l
 on:∃ oe vs T oT ts,h.get? e=some oe/\(oe.cls=cls/\oe.dict=d)/\oe.data=.fields vs/\vs[1]?=some (.ref T)/\B.get? T=none/\T≠e/\h.get? T=some oT/\oT.data=.fields ts/\ts[3]?=some fl/\vs[2]?=some .none
theorem wI (o:Obj) (f:Array Value->Array Value):(o.mapFields f).dict=o.dict:=by
 obtain ⟨c,d,dt,sl⟩:=o
 cases dt <;> rfl
theorem nO {h:Heap} {a:Addr} {o:Obj} {vs:Array Value} {f:Obj->Obj} (ha:h.get? a=some o) (hd:o.data=.fields vs):∀ b u,h.get? b=some u->(∀ ws,u.data≠.fields ws)->(h.update a f).get? b=some u:=λb u e n=>by
 rw [By _ _ (λz:a=b=>by rw [<-z,ha] at e; cases e; exact n vs hd)]
 exact e
section
variable {M:Model} {A:Around} {E:Value->Shared->Prop} {s:Shared} {B:Heap} {env:Env} {outer l:List Env} {L e:Addr} {cls:Value} {d:Option Addr} {Q:Unit->Shared->Prop}
theorem rP {oe:Obj} {vs:Array Value} {head:Value} {nx:Bool} (hfr:A.frames=some (env :: outer)) (hl:s.heap.FunFrames B (env :: outer)) (hf:env.frame=some L) (hB:B.StaysIn s.heap) (hn:B.get? e=none)
   (he:s.heap.get? e=some oe) (hd:oe.data=.fields vs) (h1:1 < vs.size) (c2:vs[2]?=some .none) (hQ:∀ h',Fly B (env :: outer) e oe.cls oe.dict (rawInt L) h'->s.heap.UpToSlots h'->Q () { s with heap:=h' }) :
   wpAny M A (do let a <-frameOf env; let pl <-entryPlaceOf L nx; let b <-EntryCells.newEntry head a .none (rawInt L) .none pl; setField (.ref e) 1 b) Q E s:=by
 have ne:e ∉ (env :: outer).filterMap (·.frame):=λhm=>by
   obtain ⟨_,o,ho,nf⟩:=hl.mem hm
   rw [he] at ho; cases ho
   exact nf vs hd
 refine Ae (wpAny_frameOf_fun hfr hl hf λg1 so=>Ae (wpAny_entryPlaceOf λpl hpl=>?_))
 have e1:g1.get? e=some oe:=(so.2.1 e ne).trans he
 have b1:B.StaysIn g1:=λb o q=>(so.2.1 b λhm=>by rw [(hl.mem hm).1] at q; cases q).trans (hB b o q)
 unfold EntryCells.newEntry newFields
 refine Ae (Gc ?_ (hpl.sizeOk5 _ _ _ _ _))
 generalize hts:(([head,.ref L,.none,rawInt L,.none] ++ (if pl.isEmpty then List.replicate 6 Value.none else pl):List Value)).toArray=ts
 have t3:ts[3]?=some (rawInt L):=by rw [<-hts]; simp
 have e2:=Af (h:=g1) ⟨.type "traceback",none,.fields ts,#[]⟩ e1
 refine Gd e2 hd h1 (hQ _ ?_ ?_)
 · have te:g1.objs.size≠e:=Gj (Aq e1)
   have dm:=Fw hd (·.setIfInBounds 1 (Value.ref g1.objs.size))
   refine ⟨λb o q=>?_,hn,hl.of_keeps λb o q nf=>?_,_,_,g1.objs.size,⟨.type "traceback",none,.fields ts,#[]⟩,ts,Heap.get?_update_self _ e2 (Obj.isFreed_of_fields dm),⟨Obj.cls_mapFields _ _,wI _ _⟩,dm,by simp [h1],b1.fresh,te,?_,rfl,t3,(Array.getElem?_setIfInBounds_ne (by decide)).trans c2⟩
   · rw [By _ _ (λz:e=b=>by rw [<-z,hn] at q; cases q)]
     exact Af _ (b1 b o q)
   · obtain ⟨sl,q1⟩:=so.2.2 b o q
     exact ⟨_,nO e2 hd b _ (Af _ q1) nf,rfl⟩
   · rw [By _ _ te.symm]
     exact Ax g1 rfl
 · intro b o q nf
   obtain ⟨sl,q1⟩:=so.2.2 b o q
   exact ⟨sl,nO e2 hd b _ (Af _ q1) nf⟩
theorem aZO {oe:Obj} {vs:Array Value} (hfr:A.frames=some (env :: outer)) (hl:s.heap.FunFrames B (env :: outer)) (hf:env.frame=some L) (hB:B.StaysIn s.heap) (hn:B.get? e=none)
   (he:s.heap.get? e=some oe) (hd:oe.data=.fields vs) (h1:vs[1]?=some .none) (c2:vs[2]?=some .none) (hQ:∀ h',Fly B (env :: outer) e oe.cls oe.dict (rawInt L) h'->s.heap.UpToSlots h'->Q () { s with heap:=h' }):wpAny M A (noteFrame (.ref e) env) Q E s:=by
 unfold noteFrame
 simp only [hf]
 refine Ae (Fy he hd h1 ?_)
 rw [if_neg (show ¬ ((Value.none != Value.none)=true) by decide)]
 exact rP hfr hl hf hB hn he hd (Cj.mp h1).1 c2 hQ
theorem qI (hfr:A.frames=some (env :: outer)) (hf:env.frame=some L) (F:Fly B (env :: outer) e cls d .none s.heap) (hQ:∀ h',Fly B (env :: outer) e cls d (rawInt L) h'->s.heap.UpToSlots h'->Q () { s with heap:=h' }) :
   wpAny M A (noteFrame (.ref e) env) Q E s:=by
 obtain ⟨hB,hn,hl,oe,vs,T,oT,ts,he,⟨rfl,rfl⟩,hd,h1,hT,hTe,gT,dT,t3,c2⟩:=F
 unfold noteFrame
 simp only [hf]
 refine Ae (Fy he hd h1 ?_)
 rw [if_pos (show (Value.ref T != Value.none)=true by simp)]
 refine Ae (Fy gT dT t3 ?_)
 rw [if_neg (show ¬ ((Value.none == rawInt L)=true) by simp [rawInt])]
 refine Ae (Gd gT dT (Cj.mp t3).1 ?_)
 have keep:∀ b,b≠T->(s.heap.update T (Obj.mapFields (·.setIfInBounds 3 Value.none))).get? b=s.heap.get? b:=λb hb=>By _ _ (Ne.symm hb)
 refine rP (s:={ s with heap:=s.heap.update T (Obj.mapFields (·.setIfInBounds 3 Value.none)) }) hfr (hl.of_keeps λb o q nf=>⟨o,nO gT dT b o q nf,rfl⟩) hf
   (λb o q=>(keep b λz=>by rw [z,hT] at q; cases q).trans (hB b o q)) hn ((keep e hTe.symm).trans he) hd (Cj.mp h1).1 c2 λh' F' up=>hQ h' F' λb o q nf=>up b o (nO gT dT b o q nf) nf
theorem fE {fl:Value} (F:Fly B l e cls d fl s.heap) (hQ:∀ h',Fly B l e cls d .none h'->s.heap.UpToSlots h'->Q () { s with heap:=h' }):wpAny M A (setFlight (.ref e) none) Q E s:=by
 obtain ⟨hB,hn,hl,oe,vs,T,oT,ts,he,hc,hd,h1,hT,hTe,gT,dT,t3,c2⟩:=F
 have z3:3 < ts.size:=(Cj.mp t3).1
 unfold setFlight
 refine Ae (Fy he hd h1 ?_)
 rw [if_pos (show (Value.ref T != Value.none)=true by simp)]
 refine Gd gT dT z3 (hQ _ ?_ λb o q nf=>⟨o.slots,nO gT dT b o q nf⟩)
 have dm:=Fw dT (·.setIfInBounds 3 Value.none)
 refine ⟨λb o q=>?_,hn,hl.of_keeps λb o q nf=>⟨o,nO gT dT b o q nf,rfl⟩,oe,vs,T,_,_,?_,hc,hd,h1,hT,hTe,Heap.get?_update_self _ gT (Obj.isFreed_of_fields dm),dm,by simp [z3],c2⟩
 · rw [By _ _ (λz:T=b=>by rw [<-z,hT] at q; cases q)]
   exact hB b o q
 · rw [By _ _ hTe]
   exact he
theorem Fly.less {fl:Value} {h:Heap} (F:Fly B (env :: outer) e cls d fl h):Fly B outer e cls d fl h:=⟨F.stays,F.new,F.frames.2.2,F.on⟩
theorem zP {oe:Obj} {vs:Array Value} (hfr:A.frames=some (env :: outer)) (hl:s.heap.FunFrames B (env :: outer)) (hf:env.frame=some L) (hB:B.StaysIn s.heap) (hn:B.get? e=none)
   (he:s.heap.get? e=some oe) (hd:oe.data=.fields vs) (h1:vs[1]?=some .none) (c2:vs[2]?=some .none) (hQ:∀ h',Fly B outer e oe.cls oe.dict .none h'->s.heap.UpToSlots h'->Q () { s with heap:=h' }):wpAny M A (leaving env (.ref e)) Q E s:=by
 unfold leaving
 exact Ae (aZO hfr hl hf hB hn he hd h1 c2 λh1 F1 u1=>fE (s:={ s with heap:=h1 }) F1 λh2 F2 u2=>hQ h2 F2.less (u1.trans u2))
theorem aZ7 (hfr:A.frames=some (env :: outer)) (hf:env.frame=some L) (F:Fly B (env :: outer) e cls d .none s.heap) (hQ:∀ h',Fly B outer e cls d .none h'->s.heap.UpToSlots h'->Q () { s with heap:=h' }):wpAny M A (leaving env (.ref e)) Q E s:=by
 unfold leaving
 exact Ae (qI hfr hf F λh1 F1 u1=>fE (s:={ s with heap:=h1 }) F1 λh2 F2 u2=>hQ h2 F2.less (u1.trans u2))
end
end L2
set_option maxHeartbeats 4000000
namespace L2
open PySem PySem.Spec PyProof.Rows
structure UnB (fs:List Addr) (H H':Hp) (h B h':Heap):Prop where
 keep:∀ b o,h.get? b=some o->H b=none->b ∉ fs->B.get? b=some o
 slot:∀ b o,h.get? b=some o->H b=none->b∈fs->∃ sl,h'.get? b=some { o with slots:=sl }
 free:∀ b o,h.get? b=some o->H b=none->H' b=none
 there:∀ b o,h.get? b=some o->b ∉ fs->∃ o',B.get? b=some o'
 tups:∀ b xs,H b=some (.tup xs)->H' b=some (.tup xs)
 frzs:∀ b o u,H b=some (.frz o u)->H' b=some (.frz o u)
 tbls:∀ b ps,H b=some (.tbl ps)->∃ more,H' b=some (.tbl (ps ++ more))
def CXr (P:Program) (w:World):CXT:=λouter H s E e s'=>
 ∃ (ea:Addr) (cls:Value) (d:Option Addr) (B:Heap) (H':Hp),e=.ref ea/\s'.os=s.os/\AllBare s'.gens/\Fly B outer ea cls d .none s'.heap/\HOk P w H' B/\UnB (frs outer) H H' s.heap B s'.heap/\E cls d H'
theorem HOk.down {P:Program} {w:World} {H:Hp} {h B:Heap} (x:HOk P w H h) (k:∀ b o u,H b=some u->h.get? b=some o->B.get? b=some o):HOk P w H B:=λa u e=>
 (x a u e).stay (λb o hb q=>by
   rcases hb with z | z
   · subst z; exact k b o u e q
   · exact k b o _ z q) (λ_ q=>q) λ_ _ q=>q
theorem ObjOk.get {P:Program} {w:World} {H:Hp} {h:Heap} {a:Addr} {o:HO} (x:ObjOk P w H h a o):∃ ob,h.get? a=some ob:=by
 cases o with
 | lst xs=>obtain ⟨_,_,_,_,e⟩:=x; exact ⟨_,e⟩
 | tup xs=>obtain ⟨_,_,_,ob,e,_⟩:=x; exact ⟨_,e⟩
 | dK kvs=>obtain ⟨_,_,_,_,ob,_,_,e,_⟩:=x; exact ⟨_,e⟩
 | dT kvs=>obtain ⟨_,_,_,_,ob,_,_,e,_⟩:=x; exact ⟨_,e⟩
 | set S n=>obtain ⟨ob,_,_,_,e,_⟩:=x; exact ⟨_,e⟩
 | ins C dx fs=>obtain ⟨_,_,_,e,_⟩:=x; exact ⟨_,e⟩
 | own y=>exact x
 | xd fs=>obtain ⟨_,⟨od,_,_,e,_⟩,_⟩:=x; exact ⟨_,e⟩
 | rng lo hi=>obtain ⟨_,_,_,e⟩:=x; exact ⟨_,e⟩
 | frz ob u=>exact ⟨_,x.1⟩
 | tbl ps=>exact ⟨_,x⟩
 | met f y=>exact ⟨_,x⟩
 | ext φ=>exact x.2.1
theorem HOk.hole {P:Program} {w:World} {H:Hp} {h:Heap} {a:Addr} (x:HOk P w H h) (e:h.get? a=none):H a=none:=by
 cases q:H a with
 | none=>rfl
 | some o=>
   obtain ⟨ob,z⟩:=(x a o q).get
   rw [e] at z
   cases z
theorem hZ {env:Env} {outer:List Env} {L b:Addr} (hf:env.frame=some L) (h1:b≠L) (h2:b ∉ frs outer):b ∉ frs (env :: outer):=λhm=>by
 obtain ⟨e,he,q⟩:=Di.mp hm
 rcases Az.mp he with z | z
 · subst z
   rw [hf] at q
   exact h1 (Bi q).symm
 · exact h2 (Di.mpr ⟨e,z,q⟩)
section
variable {P:Program} {w:World} {K:PySem.W.Frag} {mg:Str->Option Value} {base:Heap} {N:List Str} {qual:Str} {scope:Scope} {f:Addr} {cd:Value} {A:Around} {outer:List Env} {s₀:Shared} {H₀:Hp} {E:XK}
 {pins:List (Addr × Obj)} {σ:St} {H:Hp} {s:Shared}
theorem tO {ea:Addr} {oe:Obj} {vs:Array Value} (I:Inv (gW (CXr P w) P w K mg base N qual scope f cd A outer s₀ H₀ E) pins σ H s) (he:s.heap.get? ea=some oe) (hd:oe.data=.fields vs) (h1:vs[1]?=some .none) (c2:vs[2]?=some .none) (hn:H ea=none) (h0:s₀.heap.get? ea=none)
   (q:E oe.cls oe.dict H):(gW (CXr P w) P w K mg base N qual scope f cd A outer s₀ H₀ E).xe (.ref ea) s:=by
 have hfr:=I.ok.frames
 have hst:=I.stack
 have hsf:=I.stkFree
 have hbase:=I.base
 have hlo:∀ b o,s₀.heap.get? b=some o->b≠s₀.heap.objs.size:=λb o e=>Bk (Aq e)
 have nea:∀ b o,s₀.heap.get? b=some o->b≠ea:=λb o e z=>by rw [z,h0] at e; cases e
 have hid:∀ b o,s.heap.get? b=some o->b≠ea->b ∉ frs (envOfC qual scope s₀.heap.objs.size f cd :: outer)->(PySem.W.hideAll s.heap (ea :: frs (envOfC qual scope s₀.heap.objs.size f cd :: outer))).get? b=some o:=λb o e n1 n2=>
   PySem.W.hideAll_get _ e λhm=>(Az.mp hm).elim n1 n2
 refine zP (B:=PySem.W.hideAll s.heap (ea :: frs (envOfC qual scope s₀.heap.objs.size f cd :: outer))) hfr (PySem.W.funFrames_hide hst λenv he b hb=>Am _ (Di.mpr ⟨env,he,hb⟩)) rfl (λb o q=>Fv _ q)
   (PySem.W.hideAll_none _ Al) he hd h1 c2 λh2 fl up=>?_
 refine ⟨ea,_,_,_,H,rfl,I.os,I.bare,fl,I.hok.down λb o u e g=>hid b o g (λz=>by rw [z,hn] at e; cases e) λhm=>?_,⟨λb o e n hb=>?_,λb o e n hb=>?_,λb o e n=>hbase.free b o e n (by simp [gW]),λb o e hb=>?_,hbase.tups,hbase.frzs,hbase.tbls⟩,q⟩
 · rw [hsf b hm] at e
   cases e
 · exact hid b o (hbase.keep b o e n hb (by simp [gW])) (nea b o e) (hZ rfl (hlo b o e) hb)
 · obtain ⟨sl,q1⟩:=hbase.slot b o e n hb (by simp [gW])
   obtain ⟨_,o2,g2,nf⟩:=I.ok.funs.mem hb
   have e2:s₀.heap.get? b=some o2:=g2
   rw [e] at e2
   cases e2
   obtain ⟨sl2,q2⟩:=up b _ q1 nf
   exact ⟨sl2,q2⟩
 · obtain ⟨o',q1⟩:=hbase.there b o e (by simp [gW])
   exact ⟨o',hid b o' q1 (nea b o e) (hZ rfl (hlo b o e) hb)⟩
theorem nJ:nF (CXr P w) (gW (CXr P w) P w K mg base N qual scope f cd A outer s₀ H₀ E) E:=by
 intro pins σ H s e s' I h
 obtain ⟨ea,cls,d,B,H',rfl,os,bare,fl,hok,un,q⟩:=h
 have hbase:=I.base
 have hlo:∀ b o,s₀.heap.get? b=some o->b≠s₀.heap.objs.size:=λb o e=>Bk (Aq e)
 refine aZ7 I.ok.frames rfl fl λh2 fl2 up=>?_
 have ns:∀ b o,s₀.heap.get? b=some o->b ∉ frs outer->b ∉ frs (envOfC qual scope s₀.heap.objs.size f cd :: outer):=λb o e hb=>hZ rfl (hlo b o e) hb
 have ins:∀ b,b∈frs outer->b∈frs (envOfC qual scope s₀.heap.objs.size f cd :: outer):=λb hb=>by
   obtain ⟨e,he,q⟩:=Di.mp hb
   exact Di.mpr ⟨e,Am _ he,q⟩
 refine ⟨ea,cls,d,B,H',rfl,os.trans I.os,bare,fl2,hok,⟨λb o e n hb=>?_,λb o e n hb=>?_,λb o e n=>?_,λb o e hb=>?_,λb xs e=>un.tups b xs (hbase.tups b xs e),λb o u e=>un.frzs b o u (hbase.frzs b o u e),λb ps e=>?_⟩,q⟩
 · exact un.keep b o (hbase.keep b o e n hb (by simp [gW])) (hbase.free b o e n (by simp [gW])) (ns b o e hb)
 · obtain ⟨sl,q1⟩:=hbase.slot b o e n hb (by simp [gW])
   obtain ⟨sl1,q2⟩:=un.slot b _ q1 (hbase.free b o e n (by simp [gW])) (ins b hb)
   obtain ⟨_,o2,g2,nf⟩:=I.ok.funs.mem hb
   have e2:s₀.heap.get? b=some o2:=g2
   rw [e] at e2
   cases e2
   obtain ⟨sl2,q3⟩:=up b _ q2 nf
   exact ⟨sl2,q3⟩
 · obtain ⟨o',q1⟩:=hbase.there b o e (by simp [gW])
   exact un.free b o' q1 (hbase.free b o e n (by simp [gW]))
 · obtain ⟨o',q1⟩:=hbase.there b o e (by simp [gW])
   exact un.there b o' q1 (ns b o e hb)
 · obtain ⟨m1,e1⟩:=hbase.tbls b ps e
   obtain ⟨m2,e2⟩:=un.tbls b _ e1
   exact ⟨m1 ++ m2,by rw [e2,Array.append_assoc]⟩
end
theorem bJI {K:PySem.W.Frag} {h:Heap} {C:Addr} {bmB:List Value} {newId:String} (X:K.In h) (q:PySem.W.excIn K C bmB newId=true) :
   ∃ bm N nm qn bs hd sn sub ab col dd k0 k1 k2 k3 k5 mN,h.get? C=some (excClassObj nm qn C N bs bm hd sn sub ab col dd k0 k1 k2 k3 k5 newId)/\h.Ns N mN/\mN "__init__"=none/\OwnTail h bmB bm:=by
 unfold PySem.W.excIn at q
 split at q
 · rename_i dd c sl ho
   split at q
   · rename_i C1 bm k0 k1 k2 k3 n k5 hm hs
     obtain ⟨⟨⟨⟨⟨q1,q2⟩,q3⟩,q4⟩,q5⟩,q6⟩:((((C1=C/\n=newId)/\c.hasDel=false)/\PySem.W.tailIn K bmB bm=true)/\PySem.W.nsOkIn K c.ns=true)/\PySem.W.nsIn K c.ns "__init__"=some none:=by
       simpa only [Bool.and_eq_true,beq_iff_eq,Bool.not_eq_true'] using q
     subst q1 q2
     obtain ⟨nm,bs,mro,ns,qn,hd,sn,sub,ab,col,del⟩:=c
     dsimp only at hm q3 q5 q6
     subst hm q3
     obtain rfl:sl=#[k0,k1,k2,k3,some (.builtin n),k5]:=by
       obtain ⟨l⟩:=sl
       have hs':l=_:=hs
       rw [hs']
     exact ⟨bm,ns,nm,qn,bs,hd,sn,sub,ab,col,dd,k0,k1,k2,k3,k5,_,X _ _ ho,.of_isNs (PySem.W.isNs_of_in X q5),PySem.W.nsMap_none_of_in X q5 q6,PySem.W.tail_of_in X q4⟩
   · cases q
 · cases q
def cJF (X:Cx) (E:XK):Prop:=∀ (pins:List (Addr × Obj)) (σ:St) (H:Hp) (s:Shared) (ea:Addr) (oe:Obj) (vs:Array Value),Inv X pins σ H s->s.heap.get? ea=some oe->oe.data=.fields vs->vs[1]?=some .none->vs[2]?=some .none->H ea=none->X.s₀.heap.get? ea=none->
 E oe.cls oe.dict H->X.xe (.ref ea) s
theorem oM {P:Program} {w:World} {K:PySem.W.Frag} {mg:Str->Option Value} {base:Heap} {N:List Str} {qual:Str} {scope:Scope} {f:Addr} {cd:Value} {A:Around} {outer:List Env} {s₀:Shared} {H₀:Hp} {E:XK} :
   cJF (gW (CXr P w) P w K mg base N qual scope f cd A outer s₀ H₀ E) E:=λ_ _ _ _ _ _ _ I he hd h1 c2 hn h0 q=>tO I he hd h1 c2 hn h0 q
section
variable {X:Cx} {E:XK} {x:Str} {C:Addr} {bmB:List Value} {B newId initId:String} {e:Expr} {es:List Expr} {ta:TA} {np cpos pos:Pos}
def bQ7 (C:Addr) (E:XK) (ta:TA):TS:=λ_ σ H=>ta σ H λvs H1=>vs.length<=sizeLine/\E (.ref C) none H1
theorem bQZ (hR:cJF X E) (hex:X.ex=[]) (hc:X.calm=true) (hg:Gl X x) (hm:X.mg x=some (.ref C)) (hx:PySem.W.excIn X.K C bmB newId=true) (FB:ExcBaseFacts B newId initId bmB) (ha:PA X (e :: es) ta)
   (hd:(x == ("__debug__" : Str))=false:=by decide) (he:starEach (e :: es) X.env=(false,eval e X.env) :: starEach es X.env:=by rfl) (hpl:(backTo cpos (starEach es X.env)).any (·.1)=false:=by rfl) :
   PS X (.Raise (some (.Call (.Name x np) (e :: es) [] cpos)) none pos) (bQ7 C E ta):=by
 intro pins s σ H D I h
 obtain ⟨bm,N,nm,q,bs,hdct,sn,sub,ab,col,dd,k0,k1,k2,k3,k5,mN,hC,hN,hni,T⟩:=bJI I.ok.mod.kin hx
 refine wpAny_Raise_call_subT (C:=C) (N:=N) (bm:=bm) (nm:=nm) (q:=q) (bs:=bs) (hdct:=hdct) (sn:=sn) (sub:=sub) (ab:=ab) (col:=col) (dd:=dd) (k0:=k0) (k1:=k1) (k2:=k2) (k3:=k3) (k5:=k5)
   FB (mN:=mN) (T.hasType FB.hasBase) (I.ok.hd hc) (by rw [he]; show (false || (backTo cpos (starEach es X.env)).any (·.1))=false; rw [hpl]; rfl) hni (gX I hg hm ⟨rfl,?_⟩ hd)
 have h1:=ha cpos pins s σ H _ I h
 rw [he] at h1 ⊢
 refine Calls.evalArgs_plain (thn h1 λus s2 ⟨vs,H2,I2,r,q2⟩=>⟨rfl,?_,I2.bk _ _ hC,hN.keeps I2.bk,T.keeps I2.bk,λh' ea hx=>?_⟩)
 · show us.length<=sizeLine
   rw [<-r.length]
   exact q2.1
 · obtain ⟨t,g,_,_⟩:=hx.there
   refine hR pins σ H2 { s2 with heap:=h' } ea _ _ (I2.kept (t':=s2.toks) hx.keeps) g rfl rfl rfl (I2.hok.hole hx.new) ?_ q2.2
   cases z:X.s₀.heap.get? ea with
   | none=>rfl
   | some o=>
     obtain ⟨o',z'⟩:=I2.base.there ea o z (by rw [hex]; simp)
     rw [hx.new] at z'
     cases z'
end
abbrev Cx.tr (X:Cx) (pins:List (Addr × Obj)) (xe:Value->Shared->Prop):Cx:={ X with pn:=X.pn ++ pins,xe:=xe }
abbrev Cx.hnd (X:Cx) (pins:List (Addr × Obj)) (ea:Addr):Cx:={ X with A:=X.A.mark (some (.ref ea)),calm:=false,pn:=X.pn ++ pins,xe:=λ_ _=>False }
section
variable {X:Cx} {pins pins':List (Addr × Obj)} {σ:St} {H:Hp} {s:Shared} {xe:Value->Shared->Prop} {ea:Addr}
theorem Inv.tr (I:Inv X pins σ H s) (xe:Value->Shared->Prop):Inv (X.tr pins xe) [] σ H s :=
 ⟨⟨I.ok.mod,I.ok.kind,I.ok.glob,I.ok.blt,I.ok.above,I.ok.inj,I.ok.has,I.ok.cab,I.ok.hd,I.ok.frames,I.ok.stk,I.ok.exf,I.ok.bs,I.ok.bsz,I.ok.noex,I.ok.exfs,I.ok.funs,I.ok.frf⟩,I.os,I.bare,I.base,I.loc,I.cell,I.free,I.freeC,
   λp hp=>I.pin p (by rwa [Bm] at hp),I.hok,I.len⟩
theorem Inv.untr (I:Inv (X.tr pins xe) pins' σ H s):Inv X pins σ H s :=
 ⟨⟨I.ok.mod,I.ok.kind,I.ok.glob,I.ok.blt,I.ok.above,I.ok.inj,I.ok.has,I.ok.cab,I.ok.hd,I.ok.frames,I.ok.stk,I.ok.exf,I.ok.bs,I.ok.bsz,I.ok.noex,I.ok.exfs,I.ok.funs,I.ok.frf⟩,I.os,I.bare,I.base,I.loc,I.cell,I.free,I.freeC,
   λp hp=>I.pin p (Bt _ hp),I.hok,I.len⟩
theorem Inv.hnd (I:Inv X pins σ H s) (ea:Addr):Inv (X.hnd pins ea) [] σ H s :=
 ⟨⟨I.ok.mod,I.ok.kind,I.ok.glob,I.ok.blt,I.ok.above,I.ok.inj,I.ok.has,I.ok.cab,(λz=>nomatch z),I.ok.frames,I.ok.stk,I.ok.exf,I.ok.bs,I.ok.bsz,I.ok.noex,I.ok.exfs,I.ok.funs,I.ok.frf⟩,I.os,I.bare,I.base,I.loc,I.cell,I.free,I.freeC,
   λp hp=>I.pin p (by rwa [Bm] at hp),I.hok,I.len⟩
theorem Inv.unhnd (I:Inv (X.hnd pins ea) pins' σ H s) (ok:X.Ok):Inv X pins σ H s :=
 ⟨ok,I.os,I.bare,I.base,I.loc,I.cell,I.free,I.freeC,λp hp=>I.pin p (Bt _ hp),I.hok,I.len⟩
structure Fre (X:Cx) (pins:List (Addr × Obj)) (a:Addr):Prop where
 s0:X.s₀.heap.get? a=none
 loc:a≠X.env.locals
 cell:∀ x c,X.env.cells.lookup x=some c->c≠a
 pin:∀ p∈X.pn ++ pins,p.1≠a
theorem Inv.adopt {a:Addr} {o:HO} (I:Inv X pins σ H s) (f:Fre X pins a) (hn:H a=none) (new:ObjOk X.prog X.w (upd H a o) s.heap a o):Inv X pins σ (upd H a o) s:=by
 have ne:∀ b u,H b=some u->b≠a:=λb u e=>bJ e hn
 refine ⟨I.ok,I.os,I.bare,⟨I.base.keep,I.base.slot,λb u e n hx=>?_,I.base.there,λb xs e=>?_,λb u v e=>?_,λb ps e=>?_⟩,I.loc,I.cell,by rw [aK f.loc.symm]; exact I.free,λx c e=>by rw [aK (f.cell x c e)]; exact I.freeC x c e,λp hp=>?_,λb u e=>?_,I.len⟩
 · rw [aK (λz=>by rw [z,f.s0] at e; cases e)]
   exact I.base.free b u e n hx
 · have q:=I.base.tups b xs e
   rw [aK (ne b _ q)]; exact q
 · have q:=I.base.frzs b u v e
   rw [aK (ne b _ q)]; exact q
 · obtain ⟨m,q⟩:=I.base.tbls b ps e
   exact ⟨m,by rw [aK (ne b _ q)]; exact q⟩
 · obtain ⟨h1,h2,h3⟩:=I.pin p hp
   exact ⟨h1,by rw [aK (f.pin p hp)]; exact h2,h3⟩
 · by_cases hb:b=a
   · subst hb
     rw [aE] at e
     cases e
     exact new
   · rw [aK hb] at e
     exact (I.hok b u e).stay (λc v _ q=>q) (λc q=>by rw [aK (ne c _ q)]; exact q) λc xs q=>by rw [aK (ne c _ q)]; exact q
theorem Inv.unname {i:Nat} {n:Str} {h':Heap} {m:Str->Option Value} {v:Option Value} {t:Nat} (I:Inv X pins σ H s) (hN:X.N.Nodup) (hi:X.N[i]?=some n) (hm:s.heap.Ns X.env.locals m) (hl:X.env.scope.names.lookup n=some .local)
   (hn:h'.Ns X.env.locals (λx=>if x=n then v else m x)) (sb:Heap.SameBut X.env.locals s.heap h'):Inv X pins (σ.set i none) H { s with heap:=h',toks:=t }:=by
 have k:∀ b o,b≠X.env.locals->s.heap.get? b=some o->h'.get? b=some o:=λb o hb e=>(sb.2 b hb).trans e
 have nl:∀ b o,X.s₀.heap.get? b=some o->b≠X.env.locals:=λb o e=>Bk (Bb (Aq e) I.ok.above)
 have there:∀ b o,s.heap.get? b=some o->∃ o',h'.get? b=some o':=λb o e=>by
   by_cases hb:b=X.env.locals
   · obtain ⟨o',_,_,q,_⟩:=hn
     exact ⟨o',by rw [hb]; exact q⟩
   · exact ⟨o,k b o hb e⟩
 obtain ⟨m1,hm1,hl1⟩:=id I.loc
 refine ⟨I.ok,I.os,I.bare,⟨λb o e n hb hx=>k b o (nl b o e) (I.base.keep b o e n hb hx),λb o e n hb hx=>?_,I.base.free,λb o e hx=>?_,I.base.tups,I.base.frzs,I.base.tbls⟩,⟨_,hn,λj y u e1 e2 e3=>?_⟩,λx c e=>?_,I.free,I.freeC,λp hp=>?_,λb u e=>?_,by rw [Ef]; exact I.len⟩
 · obtain ⟨sl,q⟩:=I.base.slot b o e n hb hx
   exact ⟨sl,k b _ (nl b o e) q⟩
 · obtain ⟨o',q⟩:=I.base.there b o e hx
   exact there b o' q
 · have hji:j≠i:=λz=>by
     subst z
     rw [Da (by rw [I.len]; exact (Ad.mp hi).1)] at e2
     cases e2
   rw [Cv (Ne.symm hji)] at e2
   have hyn:y≠n:=λz=>hji (qD hN e1 (by rw [z]; exact hi))
   obtain ⟨u',r,look⟩:=hl1 j y u e1 e2 e3
   have em:m1=m:=by
     obtain ⟨o1,es1,ep1,g1,d1,_,f1⟩:=hm1
     obtain ⟨o2,es2,ep2,g2,d2,_,f2⟩:=hm
     rw [g1] at g2; cases g2
     rw [d1] at d2; cases d2
     funext z
     rw [<-f1 z,f2 z]
   refine ⟨u',r,?_⟩
   rcases look with ⟨z1,z2⟩ | ⟨z1,c,z2,o,z3,z4⟩
   · exact .inl ⟨z1,by show (if y=n then v else m y)=_; rw [if_neg hyn,<-em]; exact z2⟩
   · exact .inr ⟨z1,c,z2,o,k c o (I.cne y c z2) z3,z4⟩
 · obtain ⟨v',o,z1,z2⟩:=I.cell x c e
   exact ⟨v',o,k c o (I.cne x c e) z1,z2⟩
 · obtain ⟨h1,h2,h3,h4⟩:=I.pin p hp
   exact ⟨k _ _ h3 h1,h2,h3,h4⟩
 · refine (I.hok b u e).stay (λc o hc q=>k c o (λz=>?_) q) (λ_ q=>q) λ_ _ q=>q
   have fr:=I.free
   rcases hc with z1 | z1
   · rw [<-z1,z,fr] at e; cases e
   · rw [z,fr] at z1; cases z1
end
def qW (ea:Addr) (cls:Value) (d:Option Addr):HO:=.ext λh=>∃ oe vs,h.get? ea=some oe/\oe.cls=cls/\oe.dict=d/\oe.data=.fields vs
theorem Fly.obj {P:Program} {w:World} {B:Heap} {l:List Env} {ea:Addr} {cls fl:Value} {d:Option Addr} {h:Heap} {H:Hp} (F:Fly B l ea cls d fl h):ObjOk P w H h ea (qW ea cls d):=by
 obtain ⟨oe,vs,T,oT,ts,he,hc,hd,_⟩:=F.on
 exact ⟨⟨oe,vs,he,hc.1,hc.2,hd⟩,⟨oe,he⟩,λh1 h2 ⟨o,ws,g,q⟩ k=>⟨o,ws,k o g,q⟩⟩
def XS (X:Cx) (pins:List (Addr × Obj)) (R:Value->Option Addr->St->Hp->Prop):Value->Shared->Prop:=λe s1=>
 ∃ ea cls d B σ1 H1,e=.ref ea/\Fly B X.stack ea cls d .none s1.heap/\Fre X pins ea/\H1 ea=none/\(∀ h2,B.StaysIn h2->s1.heap.UpToSlots h2->Inv X pins σ1 H1 { s1 with heap:=h2 })/\R cls d σ1 H1
def bJB (CX:CXT) (X:Cx) (Es:St->XK):Prop:=∀ (pins:List (Addr × Obj)) (σ:St) (H:Hp) (s:Shared) (e:Value) (s':Shared),Inv X pins σ H s->CX X.stack H s (Es σ) e s'->X.xe e s'
theorem qJ {X:Cx} {pins:List (Addr × Obj)} {R:Value->Option Addr->St->Hp->Prop} (hex:X.ex=[]):bJB (CXr X.prog X.w) (X.tr pins (XS X pins R)) (λσ cls d H1=>R cls d σ H1):=by
 intro pins' σ H s e s1 I' h
 obtain ⟨ea,cls,d,B,H1,rfl,os,bare,F,hok,un,q⟩:=h
 have I:Inv X pins σ H s:=I'.untr
 have F:Fly B X.stack ea cls d .none s1.heap:=F
 have un:UnB (frs X.stack) H H1 s.heap B s1.heap:=un
 have nfs:ea ∉ frs X.stack:=λhm=>by
   obtain ⟨_,o,g,nf⟩:=F.frames.mem hm
   obtain ⟨oe,vs,T,oT,ts,he,hc,hd,_⟩:=F.on
   rw [g] at he; cases he
   exact nf vs hd
 have ne:∀ b o,s.heap.get? b=some o->b≠ea:=λb o g z=>by
   subst z
   obtain ⟨o',g'⟩:=un.there b o g nfs
   rw [F.new] at g'
   cases g'
 refine ⟨ea,cls,d,B,σ,H1,rfl,F,⟨?_,?_,λx c z=>?_,λp hp=>?_⟩,hok.hole F.new,λh2 st up=>?_,q⟩
 · cases z:X.s₀.heap.get? ea with
   | none=>rfl
   | some o=>
     obtain ⟨o',z'⟩:=I.base.there ea o z (by rw [hex]; simp)
     exact absurd rfl (ne ea o' z')
 · obtain ⟨m,⟨o,_,_,g,_⟩,_⟩:=I.loc
   exact (ne _ o g).symm
 · obtain ⟨v,o,g,_⟩:=I.cell x c z
   exact ne c o g
 · exact ne p.1 p.2 (I.pin p hp).1
 · have slot:∀ b o,s.heap.get? b=some o->b∈frs X.stack->∃ sl,h2.get? b=some { o with slots:=sl }:=λb o g hb=>by
     obtain ⟨sl,g1⟩:=un.slot b o g (I.stkFree b hb) hb
     obtain ⟨_,o2,g2,nf⟩:=I.stack.mem hb
     rw [g] at g2; cases g2
     obtain ⟨sl2,g3⟩:=up b _ g1 nf
     exact ⟨sl2,g3⟩
   refine I.call' (s':={ s1 with heap:=h2 }) (ch:=[]) os ⟨λb o g n hb _=>st b o (un.keep b o g n hb),λb o g n hb _=>slot b o g hb,λb o g n _=>un.free b o g n,λb o g _=>?_,un.tups,un.frzs,un.tbls⟩ (hok.kept λb o g=>st b o g) bare λb hb=>absurd hb (by simp)
   by_cases hb:b∈frs X.stack
   · obtain ⟨sl,g1⟩:=slot b o g hb
     exact ⟨_,g1⟩
   · obtain ⟨o',g1⟩:=un.there b o g hb
     exact ⟨o',st b o' g1⟩
section
variable {X:Cx} {CX:CXT} {k:Nat} {f:Addr} {fd:FuncData} {ps:List Str} {sp:Sp} {Es:St->XK} {x:Str} {p pos:Pos} {e:Expr} {es:List Expr} {t:TA}
def yI (sp:Sp) (Es:St->XK) (t:TA):TE:=λσ H Q=>t σ H λvs H1=>sp vs H1 Q (Es σ)
theorem bX0 (F:FnOk X.prog X.w X.K X.mg X.base CX k f fd ps sp) (hr:Room k X.A) (hg:Gl X x) (hm:X.mg x=some (.ref f)) (hk:PySem.W.keepIn X.K (.ref f)=true) (hb:Binds X.K fd ps []) (hx:bJB CX X Es) (ha:PA X (e :: es) t)
   (hdb:(x == ("__debug__" : Str))=false:=by decide) (he:starEach (e :: es) X.env=(false,eval e X.env) :: starEach es X.env:=by rfl) (hpl:(backTo pos (starEach es X.env)).any (·.1)=false:=by rfl) :
   PE X (.Call (.Name x p) (e :: es) [] pos) (yI sp Es t):=by
 intro pins s σ H Q I h
 refine Ea (gX I hg hm ?_ hdb)
 refine PySem.W.callWith_K (h₀:=X.base) I.ok.mod.kin hk (thn (ha pos pins s σ H _ I h) λus s1 ⟨vs,H1,I1,r,q⟩=>⟨I1.kIn,?_⟩) he hpl
 have hl:us.length=ps.length:=by rw [<-r.length]; exact F.len _ _ _ _ q
 have hb1:=hb s1 us I1.kIn (by rw [Bm]; exact hl)
 rw [Bm] at hb1
 refine Ge (Fj (F.run X.A X.stack s1 H1 ⟨us,[]⟩ us vs Q (Es σ) hr I1.env0 hb1 r q) λrs s' hq=>?_)
 cases rs with
 | error e=>exact hx pins σ H1 s1 e s' I1 hq
 | ok fl=>
   cases fl with
   | ret u=>exact I1.after hq
   | next=>exact False.elim hq
   | brk=>exact False.elim hq
   | cont=>exact False.elim hq
end
def dXY (K:PySem.W.Frag) (C:Addr) (i:Nat) (mk:(Value->Option Addr->St->Hp->Prop)->TS) (ts:TS):TS:=λD σ H=>
 mk (λcls d σ1 H1=>PySem.W.exmOne K cls (.ref C)=some true/\∀ ea,H1 ea=none->
   ts { nx:=λσ2 H2=>D.nx (σ2.set i none) H2,rt:=D.rt,bk:=λσ2 H2=>D.bk (σ2.set i none) H2,ct:=λσ2 H2=>D.ct (σ2.set i none) H2 } (σ1.set i (some (.ref ea))) (upd H1 ea (qW ea cls d))) D σ H
section
variable {X:Cx} {pins:List (Addr × Obj)}
theorem SP.untr {xe:Value->Shared->Prop} {D:Ends} {f:Flow} {s':Shared} (h:SP (X.tr pins xe) [] D f s'):SP X pins D f s':=by
 cases f with
 | next=>obtain ⟨σ',H',I,q⟩:=h; exact ⟨σ',H',I.untr,q⟩
 | brk=>obtain ⟨σ',H',I,q⟩:=h; exact ⟨σ',H',I.untr,q⟩
 | cont=>obtain ⟨σ',H',I,q⟩:=h; exact ⟨σ',H',I.untr,q⟩
 | ret u=>obtain ⟨v,σ',H',I,r,q⟩:=h; exact ⟨v,σ',H',I.untr,r,q⟩
theorem cJU {body suite:List Stmt} {b0:Stmt} {x n:Str} {np hp pos:Pos} {i:Nat} {C:Addr} {mk:(Value->Option Addr->St->Hp->Prop)->TS} {ts:TS} (hstk:X.stack=X.env :: X.outer) (hfm:X.env.frame=some X.env.locals) (hex:X.ex=[])
   (hN:X.N.Nodup) (hi:X.N[i]?=some n) (hl:X.env.scope.names.lookup n=some .local) (hg:Gl X x) (hm:X.mg x=some (.ref C)) (hb:∀ pins R,PSs (X.tr pins (XS X pins R)) body (mk R)) (hs:∀ pins ea,PSs (X.hnd pins ea) (b0 :: suite) ts)
   (hd:(x == ("__debug__" : Str))=false:=by decide):PS X (.Try body [.ExceptHandler (some (.Name x np)) (some n) (b0 :: suite) hp] [] [] pos) (dXY X.K C i mk ts):=by
 intro pins s σ H D I h
 have hfr:X.A.frames=some (X.env :: X.outer):=by rw [<-hstk]; exact I.ok.frames
 have hcls:(X.env.scope.kind == .class || (X.env.scope.kind == .module && X.env.locals != X.env.globals))=false:=by rw [I.ok.kind]; rfl
 refine wpAny_Try_except (Cc (hb pins _ [] s σ H D (I.tr _) h) (λf s1 q=>?_) λe s1 q=>?_)
 · cases f with
   | next=>
     obtain ⟨σ',H',I',q⟩:=q.untr
     exact bI pins s1 σ' H' D I' q
   | brk=>exact q.untr
   | cont=>exact q.untr
   | ret u=>exact q.untr
 · obtain ⟨ea,cls,d,B,σ1,H1,rfl,F,fre,hn,inv,hx,r⟩:=q
   rw [hstk] at F
   refine qI hfr hfm F λh2 F2 u2=>fE (s:={ s1 with heap:=h2 }) F2 λh3 F3 u3=>?_
   have I3:=inv h3 F3.stays (u2.trans u3)
   refine wpAny_handleBy_cons (codeAny_handlers_test (gX (I3.hnd ea) hg hm ?_ hd)) (by intro q; cases q)
   obtain ⟨oe,vs,T,oT,tts,he,hc,_⟩:=id F3.on
   refine PySem.W.exm_one I3.kIn (hc.1 ▸ (PySem.W.Looks.ld he).andThen .now) hx _ _ _ _ (λ_ _ q=>q) ?_
   refine codeAny_handlers_suite_as (fE (s:={ s1 with heap:=h3 }) F3 λh4 F4 u4=>?_)
   have I4:=(inv h4 F4.stays ((u2.trans u3).trans u4)).adopt (o:=qW ea cls d) fre hn F4.obj
   refine oZ I4 hN hi (.inl hl) (v:=.ref ea) rfl (λs5 I5=>?_) (.inr hl)
   refine Cc (hs pins ea [] s5 _ _ _ (I5.hnd ea) (r ea hn)) (λf s6 q=>?_) λ_ _ z=>z.elim
   have go:∀ {σ2:St} {H2:Hp} {Q:Unit->Shared->Prop} {E:Value->Shared->Prop},Inv (X.hnd pins ea) [] σ2 H2 s6->(∀ s7,Inv X pins (σ2.set i none) H2 s7->Q () s7)->
       wpAny (model X.prog X.w) X.A (do bindName X.env n .none; unbindBehindTheSuite X.env n hp) Q E s6:=fun {σ2 H2 Q E} I6 k=>by
     have I6':=I6.unhnd I.ok
     obtain ⟨m,hm6,_⟩:=id I6'.loc
     exact wpAny_nameGoes_keeps hl hm6 hcls λh7 v hn7 sb=>k _ (I6'.unname hN hi hm6 hl hn7 sb)
   cases f with
   | next=>
     obtain ⟨σ2,H2,I6,q⟩:=q
     exact go I6 λs7 I7=>⟨_,H2,I7,q⟩
   | brk=>
     obtain ⟨σ2,H2,I6,q⟩:=q
     exact go I6 λs7 I7=>⟨_,H2,I7,q⟩
   | cont=>
     obtain ⟨σ2,H2,I6,q⟩:=q
     exact go I6 λs7 I7=>⟨_,H2,I7,q⟩
   | ret u=>
     obtain ⟨v,σ2,H2,I6,rv,q⟩:=q
     exact go I6 λs7 I7=>⟨v,_,H2,I7,rv,q⟩
theorem SP.unhnd {ea:Addr} {D:Ends} {f:Flow} {s':Shared} (ok:X.Ok) (h:SP (X.hnd pins ea) [] D f s'):SP X pins D f s':=by
 cases f with
 | next=>obtain ⟨σ',H',I,q⟩:=h; exact ⟨σ',H',I.unhnd ok,q⟩
 | brk=>obtain ⟨σ',H',I,q⟩:=h; exact ⟨σ',H',I.unhnd ok,q⟩
 | cont=>obtain ⟨σ',H',I,q⟩:=h; exact ⟨σ',H',I.unhnd ok,q⟩
 | ret u=>obtain ⟨v,σ',H',I,r,q⟩:=h; exact ⟨v,σ',H',I.unhnd ok,r,q⟩
def cZL (K:PySem.W.Frag) (C:Addr) (mk:(Value->Option Addr->St->Hp->Prop)->TS) (ts:TS):TS:=λD σ H=>mk (λcls d σ1 H1=>PySem.W.exmOne K cls (.ref C)=some true/\ts D σ1 H1) D σ H
theorem cXY {body suite:List Stmt} {b0:Stmt} {x:Str} {np hp pos:Pos} {C:Addr} {mk:(Value->Option Addr->St->Hp->Prop)->TS} {ts:TS} (hstk:X.stack=X.env :: X.outer) (hfm:X.env.frame=some X.env.locals) (hex:X.ex=[])
   (hg:Gl X x) (hm:X.mg x=some (.ref C)) (hb:∀ pins R,PSs (X.tr pins (XS X pins R)) body (mk R)) (hs:∀ pins ea,PSs (X.hnd pins ea) (b0 :: suite) ts)
   (hd:(x == ("__debug__" : Str))=false:=by decide):PS X (.Try body [.ExceptHandler (some (.Name x np)) none (b0 :: suite) hp] [] [] pos) (cZL X.K C mk ts):=by
 intro pins s σ H D I h
 have hfr:X.A.frames=some (X.env :: X.outer):=by rw [<-hstk]; exact I.ok.frames
 refine wpAny_Try_except (Cc (hb pins _ [] s σ H D (I.tr _) h) (λf s1 q=>?_) λe s1 q=>?_)
 · cases f with
   | next=>
     obtain ⟨σ',H',I',q⟩:=q.untr
     exact bI pins s1 σ' H' D I' q
   | brk=>exact q.untr
   | cont=>exact q.untr
   | ret u=>exact q.untr
 · obtain ⟨ea,cls,d,B,σ1,H1,rfl,F,fre,hn,inv,hx,r⟩:=q
   rw [hstk] at F
   refine qI hfr hfm F λh2 F2 u2=>fE (s:={ s1 with heap:=h2 }) F2 λh3 F3 u3=>?_
   have I3:=inv h3 F3.stays (u2.trans u3)
   refine wpAny_handleBy_cons (codeAny_handlers_test (gX (I3.hnd ea) hg hm ?_ hd)) (by intro q; cases q)
   obtain ⟨oe,vs,T,oT,tts,he,hc,_⟩:=id F3.on
   refine PySem.W.exm_one I3.kIn (hc.1 ▸ (PySem.W.Looks.ld he).andThen .now) hx _ _ _ _ (λ_ _ q=>q) ?_
   refine codeAny_handlers_suite (fE (s:={ s1 with heap:=h3 }) F3 λh4 F4 u4=>?_)
   have I4:=inv h4 F4.stays ((u2.trans u3).trans u4)
   exact Cc (hs pins ea [] _ _ _ _ (I4.hnd ea) r) (λf s6 q=>q.unhnd I.ok) λ_ _ z=>z.elim
theorem cJG {K:PySem.W.Frag} {C:Addr} {mk:(Value->Option Addr->St->Hp->Prop)->TS} {ts:TS} {D:Ends} {σ:St} {H:Hp} (h:mk (λcls d σ1 H1=>PySem.W.exmOne K cls (.ref C)=some true/\ts D σ1 H1) D σ H):cZL K C mk ts D σ H:=h
end
end L2
set_option maxHeartbeats 4000000
namespace L2
open PySem PySem.Spec PyProof.Rows PySem.W
structure ExK (K:Frag) (D:Addr):Prop where
 cls:hasDictIn K D=true
 ga:findIn K (.ref D) "__getattribute__"=some (some (.builtin "BaseException.__getattribute__"))
 gh:findIn K (.ref D) "__getattr__"=some none
 ca:findIn K (.ref D) "__class__"=some (some (.builtin "object.__class__"))
 cg:specialIn K (.builtin "object.__class__") "__get__"=some (some (.builtin "getset_descriptor.__get__"))
 ct:takesIn K (.builtin "object.__class__")=some true
 mo:mroIn K D (.type "object")=some true
 mb:PySem.W.subIn K (.ref D) (.type "BaseException")=some true
section
variable {prog:Program} {w:World} {A:Around} {E:Value->Shared->Prop} {s:Shared} {K:Frag} {x D:Addr} {ox:Obj} {od:Option Obj}
theorem aZE {M:Model} {nm:Value} {Q:Unit->Shared->Prop} (Z:ExK K D) (X:K.In s.heap) (I:InstAt s.heap x ox D od) (hq:Q () s):wpAny M A (checkBuiltinCall "BaseException.__getattribute__" ⟨[.ref x,nm],[]⟩) Q E s:=by
 have hk:builtinKind "BaseException.__getattribute__"=some .slot:=by decide +kernel
 have hs:splitId "BaseException.__getattribute__"=some ("BaseException", "__getattribute__"):=by decide +kernel
 have L0:=I.type (M:=M)
 have L1:=looks_subIn (M:=M) X Z.mb
 have ha:=F.args_bexc_ga (.ref x) nm
 simp only [checkBuiltinCall,hk,hs]
 refine Ae ((L0.andThen L1).at ?_)
 rw [if_neg (show ¬ ((!true)=true) by decide)]
 exact wpAny_of_eq ha hq
end
section
variable {K:PySem.W.Frag} {H:Hp} {Q:VK} {ea D tp:Addr} {c:V} {cs:List V} {cv:Value} {cvs:List Value} {b:Bool}
theorem cQQ {C:Addr} {E:XK} {ta:TA} {D:Ends} {σ:St} (h:ta σ H λvs H1=>vs.length<=sizeLine/\E (.ref C) none H1):bQ7 C E ta D σ H:=h
theorem cXQ {sp:Sp} {Es:St->XK} {t:TA} {σ:St} (h:t σ H λvs H1=>sp vs H1 Q (Es σ)):yI sp Es t σ H Q:=h
end
def uG (P:Program) (w:World) (K:PySem.W.Frag) (mg:Str->Option Value) (base:Heap) (k:Nat) (x:Str) (ps:List Str) (sp:Sp):Prop :=
 ∃ (f:Addr) (fd:FuncData),FnOk P w K mg base (CXr P w) k f fd ps sp/\mg x=some (.ref f)/\PySem.W.keepIn K (.ref f)=true/\Binds K fd ps []
section
variable {X:Cx} {k k':Nat} {ps:List Str} {sp:Sp} {x:Str} {p pos:Pos} {e:Expr} {es:List Expr} {t:TA} {E:XK} {Es:St->XK}
theorem oP (c:uG X.prog X.w X.K X.mg X.base k x ps sp) (hx:nF (CXr X.prog X.w) X E) (hr:Room k' X.A) (hk:k<=k') (hg:Gl X x)
   (ha:PA X (e :: es) t) (hdb:(x == ("__debug__" : Str))=false:=by decide) (he:starEach (e :: es) X.env=(false,eval e X.env) :: starEach es X.env:=by rfl) (hpl:(backTo pos (starEach es X.env)).any (·.1)=false:=by rfl) :
   PE X (.Call (.Name x p) (e :: es) [] pos) (aXH sp [] E t):=by
 obtain ⟨f,fd,F,hm,hk',hb⟩:=c
 exact aQL F (hr.mono hk) hg hm hk' hb .nil hx ha hdb he hpl
theorem aXL (c:uG X.prog X.w X.K X.mg X.base k x ps sp) (hx:bJB (CXr X.prog X.w) X Es) (hr:Room k' X.A) (hk:k<=k') (hg:Gl X x)
   (ha:PA X (e :: es) t) (hdb:(x == ("__debug__" : Str))=false:=by decide) (he:starEach (e :: es) X.env=(false,eval e X.env) :: starEach es X.env:=by rfl) (hpl:(backTo pos (starEach es X.env)).any (·.1)=false:=by rfl) :
   PE X (.Call (.Name x p) (e :: es) [] pos) (yI sp Es t):=by
 obtain ⟨f,fd,F,hm,hk',hb⟩:=c
 exact bX0 F (hr.mono hk) hg hm hk' hb hx ha hdb he hpl
theorem aZ6:nF (CXr X.prog X.w) X E0:=λ_ _ _ _ _ _ _ h=>by
 obtain ⟨_,_,_,_,_,_,_,_,_,_,_,z⟩:=h
 exact z.elim
theorem PS.nox {st:Stmt} {t:TS} (h:PS X.nox st t):PS X st t:=λpins s σ H D I hw=>
 Cc (h pins s σ H D (I.wish _) hw) (λ_ _ q=>q.unwish) λ_ _ z=>False.elim z
end
section
variable {P:Program} {w:World} {K:PySem.W.Frag} {mg:Str->Option Value} {base:Heap}
theorem Fun.okX {x qual:Str} {st:Stmt} {f:Addr} {fd:FuncData} {N ps:List Str} {k:Nat} {sp:Sp} (F:Fun K x qual st f fd) (S:FnScope N ps (aG st)) (len:∀ vs H Q E,sp vs H Q E->vs.length=ps.length)
   (hbody:∀ (cdv:Value) (A:Around) (outer:List Env) (s:Shared) (H:Hp) (vs:List V) (Q:VK) (E:XK),Room k (A.deeper (envOfC qual (aG st) s.heap.objs.size f cdv))->sp vs H Q E->
     ∃ t,PSs (gW (CXr P w) P w K mg base N qual (aG st) f cdv A outer s H E) (aQ st) t/\t { nx:=λ_ H'=>Q .non H',rt:=Q } (lU N vs) H):FnOk P w K mg base (CXr P w) (k + 1) f fd ps sp:=by
 obtain ⟨oc,od,kV,doc,pm,an,cdv,ct,osl,rfl,lk,hcd⟩:=F.ex
 exact cX1 lk hcd S len λA outer s H vs Q E hr hsp=>hbody cdv A outer s H vs Q E hr hsp
end
theorem dZ3 {K:PySem.W.Frag} {C:Addr} {i:Nat} {mk:(Value->Option Addr->St->Hp->Prop)->TS} {ts:TS} {D:Ends} {σ:St} {H:Hp}
   (h:mk (λcls d σ1 H1=>PySem.W.exmOne K cls (.ref C)=some true/\∀ ea,H1 ea=none->ts { nx:=λσ2 H2=>D.nx (σ2.set i none) H2,rt:=D.rt,bk:=λσ2 H2=>D.bk (σ2.set i none) H2,ct:=λσ2 H2=>D.ct (σ2.set i none) H2 } (σ1.set i (some (.ref ea))) (upd H1 ea (qW ea cls d))) D σ H):dXY K C i mk ts D σ H:=h
end L2
set_option maxHeartbeats 4000000
namespace L2
open PySem PySem.Spec PyProof.Rows
def Itz (K:PySem.W.Frag) (a b:Addr):It :=
 ⟨λi H=>∃ xs ys x y,SqL K H a xs/\SqL K H b ys/\xs[i]?=some x/\ys[i]?=some y,λi H v H'=>∃ p x y,H p=none/\v=.ref p/\H'=upd H p (.tup [x,y])/\(∀ xs,SqL K H a xs->xs[i]?=some x)/\(∀ ys,SqL K H b ys->ys[i]?=some y),
   λi H=>∃ xs ys,SqL K H a xs/\SqL K H b ys/\(xs.length<=i\/ys.length<=i)⟩
structure ZipOf (z TI TO i1 i2:Addr):Prop where
 d1:TI≠z
 d2:TO≠z
 d3:i1≠z
 d4:i2≠z
 d5:TI≠TO
 d6:TI≠i1
 d7:TI≠i2
 d8:TO≠i1
 d9:TO≠i2
 d0:i1≠i2
theorem jR {h:Heap} {a b:Addr} {o u:Obj} (ha:h.get? a=some o) (hb:h.get? b=some u) {S T:String} (hs:o.cls=.type S) (ht:u.cls=.type T) (n:S≠T):a≠b:=λz=>by
 subst z
 rw [ha] at hb; cases hb
 rw [hs] at ht; injection ht with ht; exact n ht
theorem rQ {h:Heap} {z TI TO i1 i2 a b:Addr} {f0 p q:Value} {k1 k2:Nat} {xs ys:Array Value} (D:ZipOf z TI TO i1 i2) (hz:IsZip h z TI TO f0) (hO:IsPair h TO p q) (h1:h.IsListIter i1 a k1) (h2:h.IsListIter i2 b k2) (ha:h.IsList a xs) (hb:h.IsList b ys):ZipApart z TI TO i1 i2 a b:=by
 obtain ⟨o1,g1,c1,_⟩:=h1
 obtain ⟨o2,g2,c2,_⟩:=h2
 obtain ⟨oa,ga,ca,_⟩:=ha
 obtain ⟨ob,gb,cb,_⟩:=hb
 exact ⟨D.d1,D.d2,D.d3,D.d4,D.d5,D.d6,D.d7,D.d8,D.d9,D.d0,jR ga hz ca rfl (by decide),jR ga hO ca rfl (by decide),jR ga g1 ca c1 (by decide),jR ga g2 ca c2 (by decide),jR gb hz cb rfl (by decide),jR gb hO cb rfl (by decide),jR gb g1 cb c1 (by decide),jR gb g2 cb c2 (by decide)⟩
theorem aJ6 {P:Program} {w:World} {K:PySem.W.Frag} {elts:List Expr} {x1:Nat} {tp:Pos} (a b z TI TO i1 i2:Addr) (D:ZipOf z TI TO i1 i2) :
   Turn P w K (.Tuple elts x1 tp) (Itz K a b) [z,TI,TO,i1,i2] z (λi h=>IsZip h z TI TO .none/\IsPair h TI (.ref i1) (.ref i2)/\(∃ p q,IsPair h TO p q)/\h.IsListIter i1 a i/\h.IsListIter i2 b i) where
 mem:=by simp
 obj:=λi h st c hc=>by
   obtain ⟨hz,hI,⟨p,q,hO⟩,⟨o1,g1,_,e1⟩,o2,g2,_,e2⟩:=st
   simp only [List.mem_cons,List.not_mem_nil,or_false] at hc
   rcases hc with z | z | z | z | z <;> subst z
   · exact ⟨_,hz,λv z=>by cases z⟩
   · exact ⟨_,hI,λv z=>by cases z⟩
   · exact ⟨_,hO,λv z=>by cases z⟩
   · exact ⟨o1,g1,λv z=>by rw [e1] at z; cases z⟩
   · exact ⟨o2,g2,λv z=>by rw [e2] at z; cases z⟩
 keep:=λi h h' st kk=>by
   obtain ⟨hz,hI,⟨p,q,hO⟩,g1,g2⟩:=st
   exact ⟨kk z (by simp) _ hz,kk TI (by simp) _ hI,⟨p,q,kk TO (by simp) _ hO⟩,g1.at λo e=>kk i1 (by simp) o e,g2.at λo e=>kk i2 (by simp) o e⟩
 item:=by
   intro X hP hw hK hc i pins s σ H E I hf st hg
   subst hP hw hK
   obtain ⟨xs,ys,x,y,qa,qb,hx,hy⟩:=hg
   obtain ⟨us,ra,pa,_⟩:=I.list qa
   obtain ⟨vs,rb,pb,_⟩:=I.list qb
   obtain ⟨u,hu,ru⟩:=ra.get hx
   obtain ⟨v,hv,rv⟩:=rb.get hy
   obtain ⟨hz,hI,⟨p,q,hO⟩,g1,g2⟩:=st
   have D2:=rQ D hz hO g1 g2 pa.isList pb.isList
   have fr:∀ c o,s.heap.get? c=some o->s.heap.objs.size≠c:=λc o e=>Gj (Aq e)
   refine wpAny_pyNext_zip_item D2 hz hI hO g1 g2 pa.isList pb.isList (x:=u) (y:=v) (by simpa using hu) (by simpa using hv) λh1 a1 a2 a3 a4 a5 a6 kk=>?_
   refine ⟨_,rfl,wpAny_letOwnedTupleGo_zip a1 λh2 z2 sb=>?_⟩
   have up:∀ c o,c≠z->h1.get? c=some o->h2.get? c=some o:=λc o n e=>(sb.2 c n).trans e
   have I2:Inv X pins σ (upd H s.heap.objs.size (.tup [x,y])) { s with heap:=h2 }:=by
     refine I.turnLaid (t':=s.toks) (ch:=[z,TI,TO,i1,i2]) hf (λc o n e=>?_) (Ag _) ⟨bU (by show 2<=_; omega),[u,v],.cons ru (.cons rv .nil),_,up _ _ (fr z _ hz) a5,rfl,_,rfl⟩
     simp only [List.mem_cons,List.not_mem_nil,or_false,not_or] at n
     exact up c o n.1 (kk c o n.1 n.2.2.1 n.2.2.2.1 n.2.2.2.2 e)
   refine ⟨.ref s.heap.objs.size,_,I2,rfl,⟨_,x,y,I.hok.fresh (Ag _),rfl,rfl,λzs hq=>by rw [I.list_inj hq qa]; exact hx,λzs hq=>by rw [I.list_inj hq qb]; exact hy⟩,
     ⟨z2,up _ _ D.d1 (kk _ _ D.d1 D.d5 D.d6 D.d7 hI),⟨_,_,up _ _ D.d2 a2⟩,a3.at λo e=>up _ o D.d3 e,a4.at λo e=>up _ o D.d4 e⟩,λc hc=>?_⟩
   have hn:=(hf c hc).1
   rw [aK]
   · exact hn
   · obtain ⟨o1,e1,_⟩:=g1
     obtain ⟨o2,e2,_⟩:=g2
     simp only [List.mem_cons,List.not_mem_nil,or_false] at hc
     rcases hc with z | z | z | z | z <;> subst z
     · exact (fr _ _ hz).symm
     · exact (fr _ _ hI).symm
     · exact (fr _ _ hO).symm
     · exact (fr _ _ e1).symm
     · exact (fr _ _ e2).symm
 done:=by
   intro X hP hw hK hc i pins s σ H E I hf st hg
   subst hP hw hK
   obtain ⟨xs,ys,qa,qb,hl⟩:=hg
   obtain ⟨us,ra,pa,_⟩:=I.list qa
   obtain ⟨vs,rb,pb,_⟩:=I.list qb
   have e1:=ra.length
   have e2:=rb.length
   obtain ⟨hz,hI,⟨p,q,hO⟩,g1,g2⟩:=st
   refine wpAny_pyNext_zip_end (I.ok.hd hc) (rQ D hz hO g1 g2 pa.isList pb.isList) hz hI hO g1 g2 pa.isList pb.isList ?_ λh' kk=>⟨rfl,?_⟩
   · rcases hl with z | z
     · exact .inl (by simp; omega)
     · exact .inr (by simp; omega)
   · refine I.turnAll (t':=s.toks) (ch:=[z,TI,TO,i1,i2]) hf λc o n e=>?_
     simp only [List.mem_cons,List.not_mem_nil,or_false,not_or] at n
     exact kk c o n.1 n.2.2.1 n.2.2.2.1 n.2.2.2.2 e
 self:=λ_ _ _ _ _ st h=>wpAny_pyIter_zip st.1 h
theorem bQC:bootBuiltins "zip"=some (.type "zip"):=by decide +kernel
section
variable {X:Cx} {l1 l2:Expr} {ta:TA} {elts:List Expr} {x1:Nat} {tp p pos:Pos}
def bQ8 (R:Addr->Addr->Hp->Prop):List V->Hp->Prop:=λvs H=>match vs with | [.ref i,.ref j]=>R i j H | _=>False
theorem bJN {R:Addr->Addr->Hp->Prop} {vs:List V} {H:Hp} (q:bQ8 R vs H):∃ i j,vs=[.ref i,.ref j]/\R i j H:=by
 unfold bQ8 at q
 split at q
 · exact ⟨_,_,rfl,q⟩
 · exact q.elim
def dXU (K:PySem.W.Frag) (ta:TA):TI:=λσ H R=>ta σ H (bQ8 λa b H1=>onL (rdL H1 a) (onL (rdL H1 b) (R (Itz K a b) H1)))
theorem cJ9 (hg:Gl X "zip") (hm:X.mg "zip"=none) (ha:PA X [l1,l2] ta) (hs:starEach [l1,l2] X.env=[(false,eval l1 X.env),(false,eval l2 X.env)]:=by rfl) (hs2:starEach [l2] X.env=[(false,eval l2 X.env)]:=by rfl) :
   PI X (.Tuple elts x1 tp) (.Call (.Name "zip" p) [l1,l2] [] pos) (dXU X.K ta):=by
 intro pins s σ H R I h
 refine Call_ (iT I hg hm bQC (Ct (thn (ha pos pins s σ H _ I h) λus s1 ⟨vs,H1,I1,r1,q1⟩=>?_) (by rw [hs,hs2]) (by rw [hs2]; rfl)))
 obtain ⟨a,b,rfl,q⟩:=bJN q1
 obtain ⟨u,u2,rfl,ru,ru2⟩:=rX r1
 cases ru
 cases ru2
 unfold onL at q
 split at q
 · rename_i xs ex
   split at q
   · rename_i ys ey
     obtain ⟨us,ra,pa,_⟩:=I1.list (bD ex)
     obtain ⟨vs,rb,pb,_⟩:=I1.list (bD ey)
     refine call_zip_2 pa.isList pb.isList λh' hz hI hO g1 g2 hsz hk=>?_
     refine wpAny_pyIter_zip (s:={ s1 with heap:=h' }) hz ⟨_,[s1.heap.objs.size + 4,s1.heap.objs.size + 2,s1.heap.objs.size + 3,s1.heap.objs.size,s1.heap.objs.size + 1],_,_,H1,rfl,I1.kept (t':=s1.toks) hk,
       aJ6 a b _ _ _ _ _ ⟨by simp,by simp,by simp,by simp,by simp,by simp,by simp,by simp,by simp,by simp⟩,⟨hz,hI,⟨_,_,hO⟩,g1,g2⟩,λc hc=>?_,q⟩
     have z:s1.heap.objs.size<=c:=by
       simp only [List.mem_cons,List.not_mem_nil,or_false] at hc
       rcases hc with z | z | z | z | z <;> (rw [z]; first | exact Ag _ | exact Nat.le_add_right _ _)
     exact I1.fpOk z (I1.hok.fresh z)
   · exact q.elim
 · exact q.elim
end
section
variable {K:PySem.W.Frag} {a b:Addr} {xs ys:List V} {g:TG} {tb:TS} {D:Ends} {σ:St} {H:Hp}
theorem dQL (Pv:Nat->St->Hp->Prop) (h0:Pv 0 σ H) (hl:∀ i σ H,i<=xs.length->i<=ys.length->Pv i σ H->rdL H a=some xs/\rdL H b=some ys)
   (hs:∀ i x y σ H p,xs[i]?=some x->ys[i]?=some y->Pv i σ H->H p=none->g (.ref p) σ (upd H p (.tup [x,y])) λσ2 H2=>tb { D with nx:=Pv (i + 1),ct:=Pv (i + 1),bk:=D.nx } σ2 H2)
   (hd:∀ σ H,Pv (min xs.length ys.length) σ H->D.nx σ H):qE (Itz K a b) g tb D σ H:=by
 refine ⟨λi m σ H=>m=min xs.length ys.length - i/\i<=min xs.length ys.length/\Pv i σ H,⟨min xs.length ys.length,by simp,Nat.zero_le _,h0⟩,?_⟩
 rintro i m σ H ⟨rfl,hi,p⟩
 obtain ⟨hr1,hr2⟩:=hl i σ H (by omega) (by omega) p
 by_cases hlt:i < min xs.length ys.length
 · refine .inr ⟨⟨xs,ys,xs[i]'(by omega),ys[i]'(by omega),bD hr1,bD hr2,Aa _,Aa _⟩,Pv (i + 1),λσ' H' p'=>⟨min xs.length ys.length - (i + 1),by omega,rfl,hlt,p'⟩,λx H' y=>?_⟩
   obtain ⟨q,x1,y1,hq,rfl,rfl,hx,hy⟩:=y
   exact hs i x1 y1 σ H q (hx xs (bD hr1)) (hy ys (bD hr2)) p hq
 · have e:i=min xs.length ys.length:=by omega
   subst e
   exact .inl ⟨⟨xs,ys,bD hr1,bD hr2,by omega⟩,hd σ H p⟩
theorem dXK {ta:TA} {R:It->Hp->Prop} (h:ta σ H (bQ8 λa b H1=>onL (rdL H1 a) (onL (rdL H1 b) (R (Itz K a b) H1)))):dXU K ta σ H R:=h
theorem dQA {R:Addr->Addr->Hp->Prop} (h:R a b H):bQ8 R [.ref a,.ref b] H:=h
end
end L2
set_option maxHeartbeats 4000000
namespace L2
open PySem PySem.Spec PyProof.Rows
section
variable {X:Cx} {o e:Expr} {es:List Expr} {to:TE} {t:TA} {name:Str} {apos cpos:Pos} {T id:String} {r:V->List V->Hp->VK->Prop}
def bZA (T:String) (r:V->List V->Hp->VK->Prop) (to:TE):TE:=λσ H Q=>to σ H λx H1=>vM T x H1 (r x [] H1 Q)
theorem bXO (pa:PlainAttrs T) (slot:Slot T name id) (hty:typeOf (.builtin id)=pure (.type "method_descriptor")) (hm:MtR X id r) (ho:PE X o to)
   (hbase:attributeBase o name X.env (eval o X.env)=eval o X.env:=by rfl) (hline:(apos.endLine == cpos.line)=true:=by rfl):PE X (.Call (.Attribute o name apos) [] [] cpos) (bZA T r to):=by
 intro pins s σ H Q I h
 refine wpAny_Call_method0_late hbase hline (thn (ho pins s σ H _ I h) λv s1 ⟨x,H1,I1,r1,q⟩=>?_)
 obtain ⟨ty,q1⟩:=wU (K:=X.K) q
 obtain ⟨h1,h2⟩:=bQU I1 r1 ty
 exact ⟨T,id,pa,slot,hty,h1,h2,Er rfl (PySem.evalArgs_none (hm pins s1 σ H1 x [] v [] Q I1 r1 .nil q1))⟩
def cQ5:V->List V->Hp->VK->Prop:=λx vs H Q=>match x,vs with
 | .ref l,[.ref b]=>(match fZ H l,fZ H b with | some xs,some zs=>xs.length + zs.length<=sizeLine/\Q .non (upd H l (.lst (xs ++ zs))) | _,_=>False)
 | _,_=>False
theorem wB:MtR X "list.extend" cQ5:=MtR.imp (r:=aQW) aJQ λ_ _ _ _ q=>by
 unfold cQ5 at q
 split at q
 · split at q
   · exact ⟨_,_,_,_,rfl,rfl,iO (by assumption),iO (by assumption),q.1,q.2⟩
   · exact q.elim
 · exact q.elim
def eQS:V->List V->Hp->VK->Prop:=λx vs H Q=>match x,vs with
 | .ref l,[]=>(match fZ H l with | some xs=>(match xs[xs.length - 1]? with | some y=>Q y (upd H l (.lst xs.dropLast)) | none=>False) | none=>False)
 | .ref l,[.int i]=>(match fZ H l with | some xs=>(-(2 ^ 63)<=i/\i < 2 ^ 63)/\(match seqIndex? i xs.length with | some k=>(match xs[k]? with | some y=>Q y (upd H l (.lst (xs.eraseIdx k))) | none=>False) | none=>False) | none=>False)
 | _,_=>False
def eQU:V->List V->Hp->VK->Prop:=λx vs H Q=>match x,vs with
 | .ref l,[]=>(match fZ H l with | some xs=>Q .non (upd H l (.lst xs.reverse)) | none=>False)
 | _,_=>False
def tT:V->List V->Hp->VK->Prop:=λx vs H Q=>match x,vs with
 | .ref l,[]=>(match fZ H l with | some _=>Q .non (upd H l (.lst [])) | none=>False)
 | _,_=>False
theorem cXX:MtR X "list.clear" tT:=MtR.imp (r:=aJ8) bQ1 λ_ _ _ _ q=>by
 unfold tT at q
 split at q
 · split at q
   · exact ⟨_,_,rfl,rfl,iO (by assumption),q⟩
   · exact q.elim
 · exact q.elim
end
section
variable {σ:St} {H:Hp} {Q:VK} {l b:Addr} {xs zs:List V} {y:V} {i:Int} {k:Nat} {to:TE} {T:String} {r:V->List V->Hp->VK->Prop}
theorem cQZ (h:to σ H λx H1=>vM T x H1 (r x [] H1 Q)):bZA T r to σ H Q:=h
theorem cX3 (e:fZ H l=some xs) (e':fZ H b=some zs) (c:xs.length + zs.length<=sizeLine) (h:Q .non (upd H l (.lst (xs ++ zs)))):cQ5 (.ref l) [.ref b] H Q:=by unfold cQ5; simp only [e,e']; exact ⟨c,h⟩
theorem bJS (e:fZ H l=some xs) (h:Q .non (upd H l (.lst []))):tT (.ref l) [] H Q:=by unfold tT; simp only [e]; exact h
end
end L2
set_option maxHeartbeats 4000000
namespace L2
open PySem PySem.Spec PyProof.Rows
theorem aQ7 {H:Hp} {p:Addr} {xs:List V} (h:H p=some (.lst xs)):tyN (.ref p) H=some "list" := by unfold tyN; simp only [h]
theorem cQO {H:Hp} {p:Addr} {xs:List V} (h:H p=some (.tup xs)):tyN (.ref p) H=some "tuple" := by unfold tyN; simp only [h]
theorem bZD {H:Hp} {p:Addr} {kvs:List (Key × V)} (h:H p=some (.dK kvs)):tyN (.ref p) H=some "dict" := by unfold tyN; simp only [h]
theorem aQE {t u:TS} {D:Ends} {σ:St} {H:Hp} (Pj:St->Hp->Prop) (hj:∀ σ' H',Pj σ' H'->u D σ' H') (h:∀ N:St->Hp->Prop,(∀ σ' H',Pj σ' H'->N σ' H')->t { D with nx:=N } σ H):dQ9 t u D σ H:=h (u D) hj
theorem none_of {H H':Hp} {r:Addr} (s:Same H H') (h:H' r=none):H r=none:=by
 cases e:H r with
 | none=>rfl
 | some o=>rw [s _ _ e] at h; cases h
theorem aW {H H':Hp} {p:Addr} {o:HO} (hp:H p=none) (s:Same H H'):Same H (upd H' p o):=λb u q=>by rw [aK (bJ q hp)]; exact s b u q
section
variable {g:TG} {tests:TT} {te:TE} {σ0:St} {Q:VK} {H1:Hp}
theorem gQ {J:It} {n:Nat} (R:Addr->Nat->List V->Hp->Prop) (hl:n < sizeLine) (h0:∀ D,H1 D=none->R D 0 [] (upd H1 D (.lst [])))
   (hgo:∀ D i ys Hc,H1 D=none->R D i ys Hc->i < n->J.go i Hc) (hst:∀ D ys Hc,H1 D=none->R D n ys Hc->J.stop n Hc)
   (hs:∀ D i ys Hc x H' (A:VK) (B:Hp->Prop),H1 D=none->i < n->R D i ys Hc->Hc D=some (.lst ys)->J.yld i Hc x H'->
     (∀ y H4,H4 D=some (.lst ys)->R D (i + 1) (ys ++ [y]) (upd H4 D (.lst (ys ++ [y])))->A y H4)->(∀ H3,H3 D=some (.lst ys)->R D (i + 1) ys H3->B H3)->
     g x σ0 H' λσ2 H2=>Wk σ0 σ2/\tests σ2 H2 λb H3=>if b=true then te σ2 H3 A else B H3)
   (fin:∀ D ys Hc,H1 D=none->R D n ys Hc->Hc D=some (.lst ys)->ys.length<=n->Q (.ref D) Hc):eF g tests te σ0 Q J H1:=by
 intro D hD
 refine ⟨λi m Hc=>m=n - i/\i<=n/\∃ ys,ys.length<=i/\Hc D=some (.lst ys)/\R D i ys Hc,⟨n,by simp,Nat.zero_le _,[],Nat.le_refl _,aE,h0 D hD⟩,?_⟩
 rintro i m Hc ⟨rfl,hi,ys,hy,hDc,r⟩
 by_cases hlt:i < n
 · refine .inr ⟨hgo D i ys Hc hD r hlt,λx H' y=>hs D i ys Hc x H' _ _ hD hlt r hDc y (λz H4 e r4=>?_) (λH3 e r3=>?_)⟩
   · exact ⟨ys,e,by omega,n - (i + 1),by omega,rfl,hlt,ys ++ [z],by rw [Aj]; show ys.length + 1<=_; omega,aE,r4⟩
   · exact ⟨n - (i + 1),by omega,rfl,hlt,ys,by omega,e,r3⟩
 · have e:i=n:=by omega
   subst e
   exact .inl ⟨hst D ys Hc hD r,fin D ys Hc hD r hDc hy⟩
def Tups (H1 Hc:Hp) (ps:List Addr) (fs:List (List V)):Prop:=ps.length=fs.length/\∀ (j:Nat) p t,ps[j]?=some p->fs[j]?=some t->H1 p=none/\Hc p=some (.tup t)
theorem Tups.keep {H1 Hc Hd:Hp} {ps:List Addr} {fs:List (List V)} (t:Tups H1 Hc ps fs) (s:Same Hc Hd):Tups H1 Hd ps fs:=⟨t.1,λj p u hp hu=>⟨(t.2 j p u hp hu).1,s _ _ (t.2 j p u hp hu).2⟩⟩
theorem Tups.older {H0 H1 Hc:Hp} {ps:List Addr} {fs:List (List V)} (t:Tups H1 Hc ps fs) (s:Same H0 H1):Tups H0 Hc ps fs:=⟨t.1,λj p u hp hu=>⟨none_of s (t.2 j p u hp hu).1,(t.2 j p u hp hu).2⟩⟩
theorem Tups.put {H1 Hc:Hp} {ps:List Addr} {fs:List (List V)} {D:Addr} {ys zs:List V} (t:Tups H1 Hc ps fs) (h:Hc D=some (.lst ys)):Tups H1 (upd Hc D (.lst zs)) ps fs:=⟨t.1,λj p u hp hu=>by
 obtain ⟨a,b⟩:=t.2 j p u hp hu
 refine ⟨a,?_⟩
 rw [aK λz=>by rw [z,h] at b; cases b]
 exact b⟩
theorem Tups.app {H1 Hc:Hp} {ps qs:List Addr} {fs gs:List (List V)} (t:Tups H1 Hc ps fs) (u:Tups H1 Hc qs gs):Tups H1 Hc (ps ++ qs) (fs ++ gs):=by
 refine ⟨by rw [Aj,Aj,t.1,u.1],λj p v hp hv=>?_⟩
 by_cases h:j < ps.length
 · rw [Ap h] at hp
   rw [Ap (by rw [<-t.1]; exact h)] at hv
   exact t.2 j p v hp hv
 · rw [Av (by omega)] at hp
   rw [Av (by rw [<-t.1]; omega),<-t.1] at hv
   exact u.2 _ p v hp hv
theorem Tups.nil {H1 Hc:Hp}:Tups H1 Hc [] []:=⟨rfl,λj p u hp=>by cases hp⟩
theorem Tups.one {H1 Hc:Hp} {p:Addr} {t:List V} (a:H1 p=none) (b:Hc p=some (.tup t)):Tups H1 Hc [p] [t]:=⟨rfl,λj q u hq hu=>by
 cases j with
 | zero=>cases hq; cases hu; exact ⟨a,b⟩
 | succ j=>cases hq⟩
theorem aZ1 {n:Nat} {lo:Int} (f:Nat->List V) (hl:n < sizeLine)
   (hs:∀ (i:Nat) Hc (A:VK) (B:Hp->Prop),i < n->Same H1 Hc->(∀ p Hd,Hc p=none->Same Hc Hd->Hd p=some (.tup (f i))->A (.ref p) Hd)->
     g (.int (lo + i)) σ0 Hc λσ2 H2=>Wk σ0 σ2/\tests σ2 H2 λb H3=>if b=true then te σ2 H3 A else B H3)
   (fin:∀ D Hd ps,H1 D=none->Same H1 Hd->Hd D=some (.lst (ps.map V.ref))->ps.length=n->Tups H1 Hd ps ((List.range n).map f)->Q (.ref D) Hd):eF g tests te σ0 Q (Itr lo n) H1:=by
 refine gQ (n:=n) (λD i ys Hc=>Same H1 Hc/\∃ ps,ys=ps.map V.ref/\ps.length=i/\Tups H1 Hc ps ((List.range i).map f)) hl (λD hD=>⟨aF hD _,[],rfl,rfl,.nil⟩) (λD i ys Hc _ r h=>h) (λD ys Hc _ r=>Ag n) ?_ ?_
 · rintro D i ys Hc x H' A B hD hi ⟨sm,ps,rfl,hn,tp⟩ hDc ⟨rfl,rfl⟩ ha hb
   refine hs i H' A B hi sm (λp Hd hp sd hd=>?_)
   refine ha _ _ (sd _ _ hDc) ⟨aW hD (sm.trans sd),ps ++ [p],by rw [Ak]; rfl,by rw [Aj,hn]; rfl,?_⟩
   rw [Ce,Ak]
   exact ((tp.keep sd).app (.one (none_of sm hp) hd)).put (sd _ _ hDc)
 · rintro D ys Hc hD ⟨sm,ps,rfl,hn,tp⟩ hDc _
   exact fin D Hc ps hD sm hDc hn tp
end
end L2
set_option maxHeartbeats 4000000
namespace L2
open PySem PySem.Spec PyProof.Rows
def bXN (lo c:Int) (n:Nat):It:=⟨λi _=>i < n,λi H x H'=>H'=H/\x=.int (lo + (i:Int) * c),λi _=>n<=i⟩
theorem xF {P:Program} {w:World} {K:PySem.W.Frag} {tg:Expr} (it:Addr) (lo c:Int) (n:Nat):Turn P w K tg (bXN lo c n) [it] it (λi h=>IsRangeIter h it (lo + (i:Nat) * c) ((n:Int) - (i:Nat)) c) where
 mem:=by simp
 obj:=λi h st b hb=>by
   have e:b=it:=by simpa using hb
   subst e
   exact ⟨_,st,λv z=>by
     have z':Data.fields _=Data.cell v:=z
     cases z'⟩
 keep:=λi h h' st k=>k it (by simp) _ st
 item:=by
   intro X hP hw hK hc i pins s σ H E I hf st hg
   subst hP hw hK
   obtain ⟨f0,f1,f2,f3,f4,f5⟩:=hf it (by simp)
   have W:=Walks.range (prog:=X.prog) (w:=X.w) (I.ok.hd hc) it lo c n
   refine W.item i s _ _ hg st λv h' tk hv st' kk=>?_
   obtain ⟨t,rfl⟩:=hv
   have I1:Inv X pins σ H { s with heap:=h',toks:=tk }:=I.turned (λb o hb e=>kk b o (by simpa using hb) e) f0 f1 f3 f4 f5
   exact ⟨_,rfl,pZ (s:={ s with heap:=h',toks:=tk }) (n := "range_iterator") st' rfl rfl (by decide) ⟨.int (lo + i * c),H,I1,⟨t,rfl⟩,⟨rfl,rfl⟩,st',λb hb=>(hf b hb).1⟩⟩
 done:=by
   intro X hP hw hK hc i pins s σ H E I hf st hg
   subst hP hw hK
   obtain ⟨f0,f1,f2,f3,f4,f5⟩:=hf it (by simp)
   exact wpAny_pyNext_range_end (I.ok.hd hc) st (by have:n<=i:=hg; omega) λh' eb=>⟨rfl,I.turned (t':=s.toks) (λb o hb e=>eb b o hb e) f0 f1 f3 f4 f5⟩
 self:=λ_ _ _ _ _ st h=>wpAny_pyIter_rangeiter st h
def qR (lo hi c:Int):Nat:=(if lo < hi then (hi - lo - 1) / c + 1 else 0).toNat
theorem cQJ {lo hi c:Int} {i:Nat} (hc:0 < c) (h:i < qR lo hi c):lo + (i:Int) * c < hi:=by
 unfold qR at h
 by_cases hl:lo < hi
 · rw [if_pos hl] at h
   have h0:0<=(hi - lo - 1) / c:=Int.ediv_nonneg (by omega) (by omega)
   have h1:(i:Int)<=(hi - lo - 1) / c:=by omega
   have h2:(i:Int) * c<=(hi - lo - 1) / c * c:=Int.mul_le_mul_of_nonneg_right h1 (by omega)
   have h3:(hi - lo - 1) / c * c<=hi - lo - 1:=Int.ediv_mul_le _ (by omega)
   omega
 · rw [if_neg hl] at h
   exact absurd h (by simp)
theorem dJS {lo hi c:Int} (hc:0 < c):Builtin.Range.rangeSize lo hi c=((qR lo hi c:Nat):Int):=by
 unfold Builtin.Range.rangeSize qR
 rw [if_pos hc]
 by_cases hl:lo < hi
 · rw [if_pos hl]
   have h0:0<=(hi - lo - 1) / c:=Int.ediv_nonneg (by omega) (by omega)
   omega
 · rw [if_neg hl]
   rfl
section
variable {X:Cx} {tg a b c:Expr} {p pos:Pos}
def bXW (R:Int->Int->Int->Hp->Prop):List V->Hp->Prop:=λvs H=>match vs with | [.int i,.int j,.int k]=>R i j k H | _=>False
theorem bJW {R:Int->Int->Int->Hp->Prop} {vs:List V} {H:Hp} (q:bXW R vs H):∃ i j k,vs=[.int i,.int j,.int k]/\R i j k H:=by
 unfold bXW at q
 split at q
 · exact ⟨_,_,_,rfl,q⟩
 · exact q.elim
def cZM (ta:TA):TI:=λσ H R=>ta σ H (bXW λi j k H1=>(-1000000<=i/\i<=1000000/\-1000000<=j/\j<=1000000/\0 < k/\k<=1000)/\R (bXN i k (qR i j k)) H1)
theorem dQ8 {lo hi c:Int} (h1:-1000000<=lo) (h2:lo<=1000000) (h3:-1000000<=hi) (h4:hi<=1000000) (h5:0 < c) (h6:c<=1000):Builtin.Range.small lo hi c=true:=by
 have hs:Builtin.Range.rangeSize lo hi c=(if lo < hi then (hi - lo - 1) / c + 1 else 0):=by unfold Builtin.Range.rangeSize; rw [if_pos h5]
 unfold Builtin.Range.small
 rw [hs]
 have hd:(hi - lo - 1) / c<=(if lo < hi then hi - lo - 1 else (hi - lo - 1) / c):=by
   split
   · exact Int.ediv_le_self _ (by omega)
   · exact Fz _
 simp only [Builtin.Range.rangeFitsLong,Bool.and_eq_true,Bool.or_eq_true,decide_eq_true_eq,beq_iff_eq]
 split <;> rename_i hl
 · rw [if_pos hl] at hd
   have hd0:0<=(hi - lo - 1) / c:=Int.ediv_nonneg (by omega) (by omega)
   have hm:((hi - lo - 1) / c) * c<=hi - lo - 1:=Int.ediv_mul_le _ (by omega)
   have hm2:((hi - lo - 1) / c + 1) * c<=hi - lo - 1 + c:=by rw [Int.add_mul,Int.one_mul]; omega
   have hm3:0<=((hi - lo - 1) / c + 1) * c:=Int.mul_nonneg (by omega) (by omega)
   refine ⟨by omega,.inr ?_⟩
   rw [Au (by omega),Au (by omega)]
   rfl
 · exact ⟨by omega,.inl rfl⟩
theorem aJX {pins:List (Addr × Obj)} {σ:St} {H:Hp} {s:Shared} {R:It->Hp->Prop} {E:Value->Shared->Prop} {lo hi c:Int} {t u v:Tok} {tk:Nat} (I:Inv X pins σ H s) (h1:-1000000<=lo) (h2:lo<=1000000) (h3:-1000000<=hi) (h4:hi<=1000000) (h5:0 < c) (h6:c<=1000)
   (q:R (bXN lo c (qR lo hi c)) H):wpAny (model X.prog X.w) X.A (pyIter (.ref s.heap.objs.size)) (PIE X pins σ tg R) E { s with heap:=s.heap.push { cls:=.type "range",data:=.fields #[.int lo t,.int hi u,.int c v] },toks:=tk }:=by
 refine wpAny_pyIter_range (IsRange.new ..) (dQ8 h1 h2 h3 h4 h5 h6) ?_
 have I1:Inv X pins σ H { s with heap:=s.heap.push { cls:=.type "range",data:=.fields #[.int lo t,.int hi u,.int c v] },toks:=tk }:=I.kept λb o e=>Af _ e
 refine ⟨(s.heap.push { cls:=.type "range",data:=.fields #[.int lo t,.int hi u,.int c v] }).objs.size,[(s.heap.push { cls:=.type "range",data:=.fields #[.int lo t,.int hi u,.int c v] }).objs.size],_,_,H,rfl,
   I1.kept (t':=tk) λb o e=>Af _ e,xF _ lo c (qR lo hi c),?_,λb hb=>?_,q⟩
 · have e1:lo + ((0:Nat):Int) * c=lo:=by simp
   have e2:((qR lo hi c:Nat):Int) - ((0:Nat):Int)=Builtin.Range.rangeSize lo hi c:=by rw [dJS h5]; simp
   show IsRangeIter _ _ (lo + ((0:Nat):Int) * c) (((qR lo hi c:Nat):Int) - ((0:Nat):Int)) c
   rw [e1,e2]
   exact Ax _ rfl
 · have e:b=(s.heap.push { cls:=.type "range",data:=.fields #[.int lo t,.int hi u,.int c v] }).objs.size:=by simpa using hb
   subst e
   exact I1.fpOk (Ag _) (I1.hok.fresh (Ag _))
theorem aJD {ta:TA} (hg:Gl X "range") (hm:X.mg "range"=none) (ha:PA X [a,b,c] ta) (hs:starEach [a,b,c] X.env=[(false,eval a X.env),(false,eval b X.env),(false,eval c X.env)]:=by rfl) (hs2:starEach [b,c] X.env=[(false,eval b X.env),(false,eval c X.env)]:=by rfl) :
   PI X tg (.Call (.Name "range" p) [a,b,c] [] pos) (cZM ta):=by
 intro pins s σ H R I h
 refine Call_ (iT I hg hm boot_range (Ct (thn (ha pos pins s σ H _ I h) λus s1 ⟨vs,H1,I1,r1,q1⟩=>?_) (by rw [hs,hs2]) (by rw [hs2]; rfl)))
 obtain ⟨i,j,k,e,⟨b1,b2,b3,b4,b5,b6⟩,q⟩:=bJW q1
 subst e
 cases r1 with
 | cons r rr=>
   cases rr with
   | cons r' rr=>
     cases rr with
     | cons r'' rr=>
       cases rr
       obtain ⟨t,rfl⟩:=r
       obtain ⟨t',rfl⟩:=r'
       obtain ⟨t'',rfl⟩:=r''
       exact call_range_3 (by omega) (aJX I1 b1 b2 b3 b4 b5 b6 q) (Or.inl (PyProof.noPylong_small (by omega)))
end
section
variable {K:PySem.W.Frag} {c:Addr} {xs:List V} {lo st:Int} {n:Nat} {g:TG} {tb:TS} {D:Ends} {σ:St} {H:Hp} {tA:TA} {R:It->Hp->Prop} {i j k:Int}
theorem aZH (Pv:Nat->St->Hp->Prop) (h0:Pv 0 σ H)
   (hs:∀ i σ H,i < n->Pv i σ H->g (.int (lo + (i:Int) * st)) σ H λσ2 H2=>tb { D with nx:=Pv (i + 1),ct:=Pv (i + 1),bk:=D.nx } σ2 H2) (hd:∀ σ H,Pv n σ H->D.nx σ H):qE (bXN lo st n) g tb D σ H:=by
 refine ⟨λi m σ H=>m=n - i/\i<=n/\Pv i σ H,⟨n,by simp,Nat.zero_le _,h0⟩,?_⟩
 rintro i m σ H ⟨rfl,hi,p⟩
 by_cases hlt:i < n
 · refine .inr ⟨hlt,Pv (i + 1),λσ' H' p'=>⟨n - (i + 1),by omega,rfl,hlt,p'⟩,λx H' y=>?_⟩
   obtain ⟨e,y⟩:=y
   subst e y
   exact hs i σ _ hlt p
 · have e:i=n:=by omega
   subst e
   exact .inl ⟨Ag _,hd σ H p⟩
theorem bJY (h:tA σ H (bXW λi j k H1=>(-1000000<=i/\i<=1000000/\-1000000<=j/\j<=1000000/\0 < k/\k<=1000)/\R (bXN i k (qR i j k)) H1)):cZM tA σ H R:=h
theorem cJ5 {R:Int->Int->Int->Hp->Prop} (h:R i j k H):bXW R [.int i,.int j,.int k] H:=h
end
def Alk (H:Hp):Nat->V->V->Prop
 | 0,x,y=>x=y/\bV x=true
 | n + 1,x,y=>(x=y/\bV x=true)\/∃ p q xs ys,x=.ref p/\y=.ref q/\((rdL H p=some xs/\rdL H q=some ys)\/(lC H p=some xs/\lC H q=some ys))/\xs.length=ys.length/\∀ (j:Nat) x' y',xs[j]?=some x'->ys[j]?=some y'->Alk H n x' y'
theorem Alk.flat {H:Hp} {n:Nat} {x:V} (h:bV x=true):Alk H n x x:=by
 cases n with
 | zero=>exact ⟨rfl,h⟩
 | succ n=>exact .inl ⟨rfl,h⟩
theorem Alk.lst {H:Hp} {n:Nat} {p q:Addr} {xs ys:List V} (hp:rdL H p=some xs) (hq:rdL H q=some ys) (hl:xs.length=ys.length) (h:∀ (j:Nat) x y,xs[j]?=some x->ys[j]?=some y->Alk H n x y):Alk H (n + 1) (.ref p) (.ref q):=.inr ⟨p,q,xs,ys,rfl,rfl,.inl ⟨hp,hq⟩,hl,h⟩
theorem Alk.tup {H:Hp} {n:Nat} {p q:Addr} {xs ys:List V} (hp:lC H p=some xs) (hq:lC H q=some ys) (hl:xs.length=ys.length) (h:∀ (j:Nat) x y,xs[j]?=some x->ys[j]?=some y->Alk H n x y):Alk H (n + 1) (.ref p) (.ref q):=.inr ⟨p,q,xs,ys,rfl,rfl,.inr ⟨hp,hq⟩,hl,h⟩
theorem Alk.flats {H:Hp} {n:Nat} {xs:List V} (f:xs.all bV=true):∀ (j:Nat) x y,xs[j]?=some x->xs[j]?=some y->Alk H n x y:=λj x y hx hy=>by
 rw [hx] at hy
 cases hy
 exact .flat (Dk.mp f x (Ai hx))
theorem Alk.tups {H H1 H2:Hp} {n:Nat} {ps qs:List Addr} {fs:List (List V)} (tp:Tups H1 H ps fs) (tq:Tups H2 H qs fs) (f:∀ t∈fs,t.all bV=true):∀ (j:Nat) x y,(ps.map V.ref)[j]?=some x->(qs.map V.ref)[j]?=some y->Alk H (n + 1) x y:=λj x y hx hy=>by
 rw [Ah] at hx hy
 cases ep:ps[j]? with
 | none=>rw [ep] at hx; cases hx
 | some p=>
   cases eq:qs[j]? with
   | none=>rw [eq] at hy; cases hy
   | some q=>
     rw [ep] at hx
     rw [eq] at hy
     cases hx
     cases hy
     have hj:j < fs.length:=by rw [<-tp.1]; exact (Ad.mp ep).1
     have a:=(tp.2 j p fs[j] ep (Aa hj)).2
     have b:=(tq.2 j q fs[j] eq (Aa hj)).2
     exact .tup (iU a) (iU b) rfl (.flats (f _ (Ca _)))
theorem jQ {x:V} (h:bV x=true):eqV x x=true:=by
 cases x <;> first | rfl | (simp [eqV]; done) | (cases h; done)
section
variable {X:Cx}
end
def Lsts (H1 Hc:Hp) (ps:List Addr) (fs:List (List V)):Prop:=ps.length=fs.length/\∀ (j:Nat) p t,ps[j]?=some p->fs[j]?=some t->H1 p=none/\Hc p=some (.lst t)
theorem Lsts.keep {H1 Hc Hd:Hp} {ps:List Addr} {fs:List (List V)} (t:Lsts H1 Hc ps fs) (s:Same Hc Hd):Lsts H1 Hd ps fs:=⟨t.1,λj p u hp hu=>⟨(t.2 j p u hp hu).1,s _ _ (t.2 j p u hp hu).2⟩⟩
theorem Lsts.older {H0 H1 Hc:Hp} {ps:List Addr} {fs:List (List V)} (t:Lsts H1 Hc ps fs) (s:Same H0 H1):Lsts H0 Hc ps fs:=⟨t.1,λj p u hp hu=>⟨none_of s (t.2 j p u hp hu).1,(t.2 j p u hp hu).2⟩⟩
theorem Lsts.put {H1 Hc:Hp} {ps:List Addr} {fs:List (List V)} {D:Addr} {o:HO} (t:Lsts H1 Hc ps fs) (h:∀ p∈ps,p≠D):Lsts H1 (upd Hc D o) ps fs:=⟨t.1,λj p u hp hu=>by
 obtain ⟨a,b⟩:=t.2 j p u hp hu
 refine ⟨a,?_⟩
 rw [aK (h p (Ai hp))]
 exact b⟩
theorem Lsts.snoc {H1 Hc:Hp} {ps:List Addr} {fs:List (List V)} {q:Addr} {g:List V} (t:Lsts H1 Hc ps fs) (a:H1 q=none) (b:Hc q=some (.lst g)):Lsts H1 Hc (ps ++ [q]) (fs ++ [g]):=by
 refine ⟨by rw [Aj,Aj,t.1]; rfl,λj p v hp hv=>?_⟩
 by_cases h:j < ps.length
 · rw [Ap h] at hp
   rw [Ap (by rw [<-t.1]; exact h)] at hv
   exact t.2 j p v hp hv
 · rw [Av (by omega)] at hp
   rw [Av (by rw [<-t.1]; omega),<-t.1] at hv
   cases e:j - ps.length with
   | zero=>rw [e] at hp hv; cases hp; cases hv; exact ⟨a,b⟩
   | succ n=>rw [e] at hp; cases hp
theorem Lsts.nil {H1 Hc:Hp}:Lsts H1 Hc [] []:=⟨rfl,λj p u hp=>by cases hp⟩
theorem Lsts.mem {H1 Hc:Hp} {ps:List Addr} {fs:List (List V)} (t:Lsts H1 Hc ps fs) {p:Addr} (hp:p∈ps):∃ g∈fs,H1 p=none/\Hc p=some (.lst g):=by
 obtain ⟨j,hj⟩:=Ed.mp hp
 have hl:j < fs.length:=by rw [<-t.1]; exact (Ad.mp hj).1
 exact ⟨fs[j],Ca _,t.2 j p _ hj (Aa hl)⟩
section
variable {X:Cx}
end
end L2
set_option maxHeartbeats 4000000
namespace L2
open PySem PySem.Spec PyProof.Rows
section
variable {κ:Type} [DecidableEq κ]
def bX (kvs:List (κ × V)) (k:κ):Option V:=(kvs.find? λkv=>decide (kv.1=k)).map (·.2)
def dJ (kvs:List (κ × V)) (k:κ) (v:V):List (κ × V) :=
 if (kvs.any λkv=>decide (kv.1=k))=true then kvs.map (λkv=>if kv.1=k then (kv.1,v) else kv) else kvs ++ [(k,v)]
def cZD (kvs:List (κ × V)) (k:κ):List (κ × V):=kvs.filter λkv=>decide (kv.1≠k)
theorem cB {p:κ × V} {r:List (κ × V)} {k:κ} (e:p.1=k):bX (p :: r) k=some p.2:=by simp [bX,List.find?_cons,e]
theorem bY {p:κ × V} {r:List (κ × V)} {k:κ} (e:¬ p.1=k):bX (p :: r) k=bX r k:=by simp [bX,List.find?_cons,e]
theorem dW (k:κ):∀ kvs:List (κ × V),(kvs.any λkv=>decide (kv.1=k))=(bX kvs k).isSome
 | []=>rfl
 | p :: r=>by
   rw [Gi]
   by_cases e:p.1=k
   · simp only [cB e,decide_eq_true e,Bool.true_or,Option.isSome_some]
   · rw [bY e,Aw e,Ft]; exact dW k r
theorem wM (k j:κ) (y:V):∀ kvs:List (κ × V),bX (kvs.map λkv=>if kv.1=k then (kv.1,y) else kv) j=(bX kvs j).map λx=>if j=k then y else x
 | []=>rfl
 | p :: r=>by
   have ih:=wM k j y r
   rw [Ar]
   by_cases h:p.1=k
   · rw [if_pos h]
     by_cases e:p.1=j
     · rw [cB (p:=(p.1,y)) e,cB e,Eg,if_pos (e.symm.trans h)]
     · rw [bY (p:=(p.1,y)) e,bY e,ih]
   · rw [if_neg h]
     by_cases e:p.1=j
     · rw [cB (p:=p) e,cB e,Eg,if_neg (λz=>h (e.trans z))]
     · rw [bY (p:=p) e,bY e,ih]
theorem tF (k j:κ) (y:V):∀ kvs:List (κ × V),bX kvs k=none->bX (kvs ++ [(k,y)]) j=if j=k then some y else bX kvs j
 | [],_=>by
   by_cases e:k=j
   · rw [if_pos e.symm]; exact cB (p:=(k,y)) e
   · rw [if_neg (λz=>e z.symm)]; exact bY (p:=(k,y)) e
 | p :: r,hn=>by
   rw [List.cons_append]
   have hk:¬ p.1=k:=λz=>by rw [cB z] at hn; cases hn
   rw [bY hk] at hn
   have ih:=tF k j y r hn
   by_cases e:p.1=j
   · rw [cB e,cB e,if_neg (λz=>hk (e.trans z))]
   · rw [bY e,bY e,ih]
theorem bZ3 (kvs:List (κ × V)) (k j:κ) (y:V):bX (dJ kvs k y) j=if j=k then some y else bX kvs j:=by
 unfold dJ
 by_cases a:(kvs.any λkv=>decide (kv.1=k))=true
 · rw [if_pos a,wM]
   rw [dW] at a
   by_cases e:j=k
   · obtain ⟨x,hx⟩:=Ek.mp a
     rw [if_pos e,e,hx,Eg,if_pos rfl]
   · rw [if_neg e]
     cases bX kvs j with
     | none=>rfl
     | some x=>rw [Eg,if_neg e]
 · rw [if_neg a]
   refine tF k j y kvs ?_
   rw [dW] at a
   cases q:bX kvs k with
   | none=>rfl
   | some x=>rw [q] at a; exact (a rfl).elim
theorem cR (kvs:List (κ × V)) (k:κ) (v:V):(dJ kvs k v).length<=kvs.length + 1:=by
 unfold dJ
 split
 · rw [Ab]; omega
 · rw [Aj,Be,List.length_nil]; omega
theorem jT {kvs:List (κ × V)} {k:κ} (v:V) (h:bX kvs k=none):dJ kvs k v=kvs ++ [(k,v)]:=by
 unfold dJ
 rw [dW,h]
 exact if_neg (by decide)
theorem RelO.isSome_eq {o:Option V} {u:Option Value} (r:RelO o u):o.isSome=u.isSome:=by
 cases o with
 | none=>cases u with
   | none=>rfl
   | some _=>exact (show False from r).elim
 | some _=>cases u with
   | none=>exact (show False from r).elim
   | some _=>rfl
theorem RelO.getD {o:Option V} {u:Option Value} {d:V} {d':Value} (r:RelO o u) (rd:RelV d d'):RelV (o.getD d) (u.getD d'):=by
 cases o with
 | none=>cases u with
   | none=>exact rd
   | some _=>exact (show False from r).elim
 | some _=>cases u with
   | none=>exact (show False from r).elim
   | some _=>exact r
theorem KV.val {kvs:List (κ × V)} {vs:List (κ × Value)} (r:KV kvs vs) (k:κ):RelO (bX kvs k) (valueAt vs k):=by
 unfold KV at r
 induction r with
 | nil=>exact True.intro
 | @cons p q ps qs h t ih=>
   obtain ⟨h1,h2⟩:=h
   by_cases e:p.1=k
   · have e':q.1=k:=h1.symm.trans e
     have b:valueAt (q :: qs) k=some q.2:=by simp [valueAt,List.find?_cons,e']
     rw [cB e,b]; exact h2
   · have e':¬ q.1=k:=λz=>e (h1.trans z)
     have b:valueAt (q :: qs) k=valueAt qs k:=by simp [valueAt,List.find?_cons,e']
     rw [bY e,b]; exact ih
theorem KV.any {kvs:List (κ × V)} {vs:List (κ × Value)} (r:KV kvs vs) (k:κ):(kvs.any λkv=>decide (kv.1=k))=vs.any λkv=>decide (kv.1=k):=by
 unfold KV at r
 induction r with
 | nil=>rfl
 | cons h t ih=>rw [Gi,Gi,ih,h.1]
theorem KV.repl {kvs:List (κ × V)} {vs:List (κ × Value)} (r:KV kvs vs) (k:κ) {y:V} {u:Value} (ry:RelV y u) :
   KV (kvs.map λkv=>if kv.1=k then (kv.1,y) else kv) (vs.map λkv=>if kv.1=k then (kv.1,u) else kv):=by
 unfold KV at r ⊢
 induction r with
 | nil=>exact .nil
 | @cons p q ps qs h t ih=>
   rw [Ar,Ar]
   refine .cons ?_ ih
   obtain ⟨h1,h2⟩:=h
   by_cases e:p.1=k
   · rw [if_pos e,if_pos (h1.symm.trans e)]; exact ⟨h1,ry⟩
   · rw [if_neg e,if_neg (λz=>e (h1.trans z))]; exact ⟨h1,h2⟩
theorem KV.put {kvs:List (κ × V)} {vs:List (κ × Value)} (r:KV kvs vs) (k:κ) {y:V} {u:Value} (ry:RelV y u):KV (dJ kvs k y) (stored vs k u):=by
 unfold dJ stored
 rw [r.any k]
 by_cases e:(vs.any λkv=>decide (kv.1=k))=true
 · rw [if_pos e,if_pos e]; exact r.repl k ry
 · rw [if_neg e,if_neg e]; exact Paired.snoc r ⟨rfl,ry⟩
theorem KV.drop {kvs:List (κ × V)} {vs:List (κ × Value)} (r:KV kvs vs) (k:κ):KV (cZD kvs k) (without vs k):=by
 unfold KV at r ⊢
 unfold cZD without
 induction r with
 | nil=>exact .nil
 | @cons p q ps qs h t ih=>
   obtain ⟨h1,h2⟩:=h
   rw [Ep,Ep]
   by_cases e:p.1=k
   · have a:¬ decide (p.1≠k)=true:=by simp [e]
     have b:¬ decide (q.1≠k)=true:=by simp [h1.symm.trans e]
     rw [if_neg a,if_neg b]; exact ih
   · have e':¬ q.1=k:=λz=>e (h1.trans z)
     have a:decide (p.1≠k)=true:=by simp [e]
     have b:decide (q.1≠k)=true:=by simp [e']
     rw [if_pos a,if_pos b]; exact .cons ⟨h1,h2⟩ ih
theorem KV.keys {kvs:List (κ × V)} {vs:List (κ × Value)} (r:KV kvs vs):kvs.map (·.1)=vs.map (·.1):=by
 unfold KV at r
 induction r with
 | nil=>rfl
 | cons h t ih=>rw [Ar,Ar,ih,h.1]
theorem KV.length {kvs:List (κ × V)} {vs:List (κ × Value)} (r:KV kvs vs):kvs.length=vs.length:=Paired.length r
end
theorem pA {P:Program} {w:World} {k:Key} {u:Value} (r:RelV (kV k) u):(bB P w).is k u=true:=by
 cases k with
 | inl i=>obtain ⟨t,e⟩:=(show ∃ t,u=Value.int i t from r); subst e; exact xW P w i t
 | inr x=>obtain ⟨t,e⟩:=(show ∃ t,u=Value.str x t from r); subst e; exact xX P w x t
theorem sG {P:Program} {w:World}:∀ {ks:List Key} {us:List Value},Vals (ks.map kV) us->ItemsAre (bB P w) ks us
 | [],_,r=>by rw [Gk] at r; cases r; exact .nil
 | k :: ks,_,r=>by
   rw [Ar] at r
   cases r with
   | cons h t=>exact .cons (pA h) (sG t)
abbrev KT (H:Hp):List (List Key × V)->List (List Key × Addr × Value)->Prop:=Paired λp q=>p.1=q.1/\H q.2.1=some (.tup (p.1.map kV))/\RelV p.2 q.2.2
theorem KT.val {H:Hp} {kvs:List (List Key × V)} {xs:List (List Key × Addr × Value)} (r:KT H kvs xs) (k:List Key):RelO (bX kvs k) ((atKey xs k).map (·.2)):=by
 induction r with
 | nil=>exact True.intro
 | @cons p q ps qs h t ih=>
   obtain ⟨h1,_,h2⟩:=h
   by_cases e:p.1=k
   · have e':q.1=k:=h1.symm.trans e
     have b:atKey (q :: qs) k=some q.2:=by simp [atKey,List.find?_cons,e']
     rw [cB e,b]; exact h2
   · have e':¬ q.1=k:=λz=>e (h1.trans z)
     have b:atKey (q :: qs) k=atKey qs k:=by simp [atKey,List.find?_cons,e']
     rw [bY e,b]; exact ih
theorem KT.repl {H:Hp} {kvs:List (List Key × V)} {xs:List (List Key × Addr × Value)} (r:KT H kvs xs) (k:List Key) {y:V} {u:Value} (ry:RelV y u) :
   KT H (kvs.map λkv=>if kv.1=k then (kv.1,y) else kv) (xs.map (putAt k u)):=by
 induction r with
 | nil=>exact .nil
 | @cons p q ps qs h t ih=>
   rw [Ar,Ar]
   refine .cons ?_ ih
   obtain ⟨h1,h2,h3⟩:=h
   unfold putAt
   by_cases e:p.1=k
   · rw [if_pos e,if_pos (h1.symm.trans e)]; exact ⟨h1,h2,ry⟩
   · rw [if_neg e,if_neg (λz=>e (h1.trans z))]; exact ⟨h1,h2,h3⟩
theorem KT.put {H:Hp} {kvs:List (List Key × V)} {xs:List (List Key × Addr × Value)} (r:KT H kvs xs) (k:List Key) {b:Addr} {y:V} {u:Value} (hb:H b=some (.tup (k.map kV))) (ry:RelV y u) :
   KT H (dJ kvs k y) (storedH xs k b u):=by
 have e:(kvs.any λkv=>decide (kv.1=k))=(atKey xs k).isSome:=by
   rw [dW,(r.val k).isSome_eq,Option.isSome_map]
 unfold dJ storedH
 rw [e]
 by_cases q:(atKey xs k).isSome=true
 · rw [if_pos q,if_pos q]; exact r.repl k ry
 · rw [if_neg q,if_neg q]; exact Paired.snoc r ⟨rfl,hb,ry⟩
theorem KT.keeps {H H':Hp} {kvs:List (List Key × V)} {xs:List (List Key × Addr × Value)} (r:KT H kvs xs) (ht:∀ b ys,H b=some (.tup ys)->H' b=some (.tup ys)):KT H' kvs xs :=
 Paired.mapP r λ_ _ z=>⟨z.1,ht _ _ z.2.1,z.2.2⟩
section
variable {P:Program} {w:World} {H:Hp} {h:Heap} {a:Addr}
theorem cZZ {u:HO} (ok:HOk P w H h) (e:Rd H a u):ObjOk P w H h a u:=e.ok ok
theorem gY {kvs:List (Key × V)} (ok:HOk P w H h) (e:Rd H a (.dK kvs)):kvs.length<=sizeLine/\(a == sysModules)=false/\∃ vs,KV kvs vs/\h.DictOf (bB P w) a vs :=
 show ObjOk P w H h a (.dK kvs) from cZZ ok e
theorem bZN {kvs:List (Key × V)} (ok:HOk P w H h) (e:H a=some (.dK kvs)):kvs.length<=sizeLine/\(a == sysModules)=false/\∃ vs,KV kvs vs/\h.DictOf (bB P w) a vs:=gY ok (.inl e)
theorem lB {ks:List Key} (ok:HOk P w H h) (e:H a=some (.tup (ks.map kV))):(tupleKind (bB P w)).is h ks a:=by
 obtain ⟨_,its,r,o,h1,h2,n,h3⟩:=(show ObjOk P w H h a (.tup (ks.map kV)) from ok a _ e)
 exact ⟨o,its.toArray,n,h1,h2,h3,by simpa using sG r⟩
theorem nS {kvs:List (List Key × V)} (ok:HOk P w H h) (e:Rd H a (.dT kvs)):kvs.length<=sizeLine/\(a == sysModules)=false/\
   ∃ xs,KT H kvs xs/\h.DictOfH (tupleKind (bB P w)) a xs:=by
 obtain ⟨z,y,xs,r,o,es,ep,h1,h2,h3,h4,h5⟩:=(show ObjOk P w H h a (.dT kvs) from cZZ ok e)
 refine ⟨z,y,xs,r,o,es,ep,h1,h2,h3,h4,λx hx=>?_,h5⟩
 have all:∀ {l:List (List Key × V)} {m:List (List Key × Addr × Value)},KT H l m->∀ x∈m,(tupleKind (bB P w)).is h x.1 x.2.1:=by
   intro l m q
   induction q with
   | nil=>intro x hx; exact nomatch hx
   | @cons p q ps qs hq t ih=>
     intro x hx
     rcases Az.mp hx with e | hx
     · subst e
       exact lB ok (by rw [<-hq.1]; exact hq.2.1)
     · exact ih x hx
 exact all r x hx
theorem cX2 {kvs:List (List Key × V)} (ok:HOk P w H h) (e:H a=some (.dT kvs)):kvs.length<=sizeLine/\(a == sysModules)=false/\
   ∃ xs,KT H kvs xs/\h.DictOfH (tupleKind (bB P w)) a xs:=nS ok (.inl e)
end
def DGet (H:Hp) (a:Addr) (y:V) (r:Option V):Prop :=
 (∃ kvs k,Rd H a (.dK kvs)/\y=kV k/\r=bX kvs k)\/∃ kvs k b,Rd H a (.dT kvs)/\y=.ref b/\H b=some (.tup (k.map kV))/\r=bX kvs k
def DPut (H:Hp) (a:Addr) (y v:V) (H':Hp):Prop :=
 (∃ kvs k,H a=some (.dK kvs)/\y=kV k/\kvs.length < sizeLine/\H'=upd H a (.dK (dJ kvs k v)))\/
 ∃ kvs k b,H a=some (.dT kvs)/\y=.ref b/\H b=some (.tup (k.map kV))/\kvs.length < sizeLine/\H'=upd H a (.dT (dJ kvs k v))
theorem DGet.k {H:Hp} {a:Addr} {kvs:List (Key × V)} {k:Key} (e:H a=some (.dK kvs)):DGet H a (kV k) (bX kvs k):=.inl ⟨kvs,k,.inl e,rfl,rfl⟩
theorem DGet.t {H:Hp} {a b:Addr} {kvs:List (List Key × V)} {k:List Key} (e:H a=some (.dT kvs)) (eb:H b=some (.tup (k.map kV))):DGet H a (.ref b) (bX kvs k):=.inr ⟨kvs,k,b,.inl e,rfl,eb,rfl⟩
theorem DPut.k {H:Hp} {a:Addr} {kvs:List (Key × V)} {k:Key} {v:V} (e:H a=some (.dK kvs)) (hl:kvs.length < sizeLine):DPut H a (kV k) v (upd H a (.dK (dJ kvs k v))):=.inl ⟨kvs,k,e,rfl,hl,rfl⟩
theorem DPut.t {H:Hp} {a b:Addr} {kvs:List (List Key × V)} {k:List Key} {v:V} (e:H a=some (.dT kvs)) (eb:H b=some (.tup (k.map kV))) (hl:kvs.length < sizeLine) :
   DPut H a (.ref b) v (upd H a (.dT (dJ kvs k v))):=.inr ⟨kvs,k,b,e,rfl,eb,hl,rfl⟩
section
variable {X:Cx} {pins:List (Addr × Obj)} {σ:St} {H:Hp} {s:Shared} {a:Addr} {y v:V} {u r:Value} {o:Option V} {A:Around} {E:Value->Shared->Prop}
theorem Inv.big (I:Inv X pins σ H s):sysModules < s.heap.objs.size:=by
 have h:mainGlobals < s.heap.objs.size:=(I.mod.glob.keeps I.bk).lt
 exact Nat.lt_trans (by decide) h
theorem aJK {Q:Value->Shared->Prop} (hu:A.units + 1 < cLine) (I:Inv X pins σ H s) (g:DGet H a y (some v)) (ry:RelV y u) (h:∀ w' s',Inv X pins σ H s'->RelV v w'->Q w' s') :
   wpAny (model X.prog X.w) A (getItem (.ref a) u) Q E s:=by
 rcases g with ⟨kvs,k,e,ey,l⟩ | ⟨kvs,k,b,e,ey,eb,l⟩
 · subst ey
   obtain ⟨z,hd,vs,rel,dd⟩:=gY I.hok e
   obtain ⟨w',hw,rw'⟩:=RelO.some_of (v:=v) (o:=valueAt vs k) (by rw [l]; exact rel.val k)
   exact wpAny_getItem_of (pA ry) dd.mapOf hw (h w' _ (I.tok _) rw')
 · subst ey
   cases (show u=Value.ref b from ry)
   obtain ⟨z,hd,xs,rel,dd⟩:=nS I.hok e
   obtain ⟨w',hw,rw'⟩:=RelO.some_of (v:=v) (o:=(atKey xs k).map (·.2)) (by rw [l]; exact rel.val k)
   obtain ⟨p,hp,hp2⟩:=Option.map_eq_some_iff.mp hw
   refine wpAny_getItem_heap (Eb hu) (lB I.hok eb) dd hp ?_
   rw [hp2]
   exact h w' _ (I.tok _) rw'
theorem dX6 {Q:Value->Shared->Prop} (hu:A.units + 1 < cLine) (I:Inv X pins σ H s) (g:DGet H a y o) (ry:RelV y u) (h:∀ s',Inv X pins σ H s'->Q (.bool o.isSome) s') :
   wpAny (model X.prog X.w) A (compareOp .In u (.ref a)) Q E s:=by
 rcases g with ⟨kvs,k,e,ey,l⟩ | ⟨kvs,k,b,e,ey,eb,l⟩
 · subst ey
   obtain ⟨z,hd,vs,rel,dd⟩:=gY I.hok e
   refine wpAny_in_of (pA ry) hd dd.mapOf ?_
   rw [<-(rel.val k).isSome_eq,<-l]
   exact h _ (I.tok _)
 · subst ey
   cases (show u=Value.ref b from ry)
   obtain ⟨z,hd,xs,rel,dd⟩:=nS I.hok e
   refine wpAny_in_heap (Eb hu) (lB I.hok eb) hd dd ?_
   have q:=(rel.val k).isSome_eq
   rw [Option.isSome_map] at q
   rw [<-q,<-l]
   exact h _ (I.tok _)
theorem bJT {Q:Value->Shared->Prop} (hu:A.units + 1 < cLine) (I:Inv X pins σ H s) (g:DGet H a y o) (ry:RelV y u) (h:∀ s',Inv X pins σ H s'->Q (.bool (!o.isSome)) s') :
   wpAny (model X.prog X.w) A (compareOp .NotIn u (.ref a)) Q E s:=by
 rcases g with ⟨kvs,k,e,ey,l⟩ | ⟨kvs,k,b,e,ey,eb,l⟩
 · subst ey
   obtain ⟨z,hd,vs,rel,dd⟩:=gY I.hok e
   refine wpAny_notIn_of (pA ry) hd dd.mapOf ?_
   rw [<-(rel.val k).isSome_eq,<-l]
   exact h _ (I.tok _)
 · subst ey
   cases (show u=Value.ref b from ry)
   obtain ⟨z,hd,xs,rel,dd⟩:=nS I.hok e
   refine wpAny_notIn_heap (Eb hu) (lB I.hok eb) hd dd ?_
   have q:=(rel.val k).isSome_eq
   rw [Option.isSome_map] at q
   rw [<-q,<-l]
   exact h _ (I.tok _)
theorem tS {h':Heap} {t':Nat} {ob:HO} (I:Inv X pins σ H s) (mu:Mut (H a)) (hs:Heap.SameBut a s.heap h') (he:∃ q,h'.get? a=some q) (new:ObjOk X.prog X.w (upd H a ob) h' a ob) :
   Inv X pins σ (upd H a ob) { s with heap:=h',toks:=t' } :=
 I.write (x:=a) (e:=a) mu (.inl rfl) (λb q hb z=>(hs.2 b hb).trans z) he new
theorem zK {P:Program} {w:World} {H':Hp} {h':Heap} {kvs:List (Key × V)} {vs:List (Key × Value)} (z:kvs.length<=sizeLine) (hd:(a == sysModules)=false) (rel:KV kvs vs) (dd:h'.DictOf (bB P w) a vs) :
   ObjOk P w H' h' a (.dK kvs):=⟨z,hd,vs,rel,dd⟩
theorem aJN {H':Hp} {Q:Unit->Shared->Prop} (hu:A.units + 1 < cLine) (I:Inv X pins σ H s) (g:DPut H a y v H') (ry:RelV y u) (rv:RelV v r) (h:∀ s',Inv X pins σ H' s'->Q () s') :
   wpAny (model X.prog X.w) A (setItem (.ref a) u r) Q E s:=by
 rcases g with ⟨kvs,k,e,ey,l,eH⟩ | ⟨kvs,k,b,e,ey,eb,l,eH⟩
 · subst ey eH
   obtain ⟨z,hd,vs,rel,dd⟩:=bZN I.hok e
   have hz:vs.length<=sizeLine:=by rw [<-rel.length]; exact z
   have hl:(dJ kvs k v).length<=sizeLine:=by have:=cR kvs k v; omega
   refine wpAny_setItem_pairs (hsz:=hz) (pA ry) dd λh' dd' hs=>h _ ?_
   have he:∃ q,h'.get? a=some q:=let ⟨q,_,_,hq,_⟩:=dd'; ⟨q,hq⟩
   exact tS I (by rw [e]; exact True.intro) hs he (zK hl hd (rel.put k rv) dd')
 · subst ey eH
   cases (show u=Value.ref b from ry)
   obtain ⟨z,hd,xs,rel,dd⟩:=cX2 I.hok e
   have hz:xs.length<=sizeLine:=by rw [<-Paired.length rel]; exact z
   have hl:(dJ kvs k v).length<=sizeLine:=by have:=cR kvs k v; omega
   refine wpAny_setItem_heap (hsz:=hz) (Eb hu) (lB I.hok eb) dd λh' dd' hs=>h _ ?_
   obtain ⟨q,es,ep,hq,h2,h3,h4,_,h5⟩:=dd'
   refine tS I (by rw [e]; exact True.intro) hs ⟨q,hq⟩ ⟨hl,hd,_,(rel.put k eb rv).keeps λc ys ec=>?_,q,es,ep,hq,h2,h3,h4,h5⟩
   rw [aK (dZ7 ec e (λz=>nomatch z))]
   exact ec
end
section
variable {X:Cx} {pins:List (Addr × Obj)} {σ:St} {H:Hp} {s:Shared} {a:Addr} {kvs:List (Key × V)} {k:Key} {u:Value} {A:Around} {E:Value->Shared->Prop}
theorem bJL {Q:Value->Shared->Prop} (I:Inv X pins σ H s) (e:H a=some (.dK kvs)) (h:∀ s',Inv X pins σ (upd H a (.dK [])) s'->Q .none s'):wpAny (model X.prog X.w) A (call (.builtin "dict.clear") [.ref a]) Q E s:=by
 obtain ⟨z,hd,vs,rel,dd⟩:=bZN I.hok e
 refine Fk PySem.F.slot_dict_clear dd.typeIs PySem.F.entry_dict_clear (PySem.F.args_dict_clear_1 _) (meets_dict_clear (bB X.prog X.w) a) ⟨vs,dd,by rw [<-rel.length]; exact z,λh' dd' hs=>h _ ?_⟩
 have he:∃ q,h'.get? a=some q:=let ⟨q,_,_,hq,_⟩:=dd'; ⟨q,hq⟩
 exact tS (t':=s.toks) I (by rw [e]; exact True.intro) hs he (zK (Ck _) hd .nil dd')
end
def dZA (i:Expr):Prop:=∀ ov iv,subscripted i false ov iv=operate [ov,iv] (getItem ov iv)
theorem cQ1 {prog:Program} {w:World} {A:Around} {E:Value->Shared->Prop} {s:Shared} {env:Env} {value slice:Expr} {pos:Pos} {T id:String} {Q:Value->Shared->Prop}
   (hl:typeLookup (.type T) "__getitem__"=pure (some (.builtin id))) (hs:dZA slice)
   (h:wpAny (model prog w) A (eval value env) (λo s₁=>wpAny (model prog w) A (eval slice env) (λi s₂=>s₂.TypeIs o T/\wpAny (model prog w) A (getItem o i) Q E s₂) E s₁) E s) :
   wpAny (model prog w) A (eval (.Subscript value slice pos) env) Q E s:=by
 refine Subscript_ (Cc h (λo s₁ h₁=>Cc h₁ (λi s₂ h₂=>?_) λ_ _ x=>x) λ_ _ x=>x)
 obtain ⟨hT,h₂⟩:=h₂
 unfold subscriptTail
 refine Ae ?_
 rw [getitemInPython_of_ne hT.not_modules]
 refine Ae (wpAny_specialOf hT hl ?_)
 have fin:wpAny (model prog w) A (subscripted slice false o i) (λr s₃=>wpAny (model prog w) A (letTemporaryGo value o r >>= λ_=>pure r) Q E s₃) E s₂:=by
   rw [hs o i]
   exact wpAny_operating (Cc h₂ (λr s₃ h₃=>Ae (wpAny_letTemporaryGo (An h₃))) λ_ _ x=>x)
 first
   | exact An (Ae fin)
   | exact Ae (An (Ae fin))
   | exact Ae fin
theorem xI {X:Cx} {pins:List (Addr × Obj)} {σ:St} {H:Hp} {s:Shared} {a:Addr} {y:V} {o:Option V} (I:Inv X pins σ H s) (g:DGet H a y o):s.TypeIs (.ref a) "dict" := by
 rcases g with ⟨kvs,k,e,_,_⟩ | ⟨kvs,k,b,e,_,_,_⟩
 · obtain ⟨_,_,vs,_,dd⟩:=gY I.hok e
   exact dd.typeIs
 · obtain ⟨_,_,xs,_,dd⟩:=nS I.hok e
   exact dd.typeIs
def cZW (td ty:TE):TE:=λσ H Q=>td σ H λx H1=>ty σ H1 λy H2=>∃ a v,x=.ref a/\DGet H2 a y (some v)/\Q v H2
def cX6 (td ty tv:TE):TS:=λD σ H=>tv σ H λv H1=>td σ H1 λx H2=>ty σ H2 λy H3=>∃ a H4,x=.ref a/\DPut H3 a y v H4/\D.nx σ H4
section
variable {X:Cx} {o i e value:Expr} {pos pos' tpos:Pos} {td ty tv:TE}
theorem fM (hu:X.A.units + 1 < cLine) (ho:PE X o td) (hi:PE X i ty) (hs:dZA i):PE X (.Subscript o i pos) (cZW td ty):=by
 intro pins s σ H Q I h
 refine cQ1 PySem.F.slot_dict_getitem.lookup hs (thn (ho pins s σ H _ I h) λu s1 ⟨x,H1,I1,rx,q1⟩=>thn (hi pins s1 σ H1 _ I1 q1) λiv s2 ⟨y,H2,I2,ry,a,v,ex,g,q2⟩=>?_)
 subst ex
 obtain rfl:u=Value.ref a:=rx
 exact ⟨xI I2 g,aJK hu I2 g ry λw' s3 I3 rw'=>⟨v,H2,I3,rw',q2⟩⟩
theorem dM (hu:X.A.units + 1 < cLine) (ho:PE X o td) (hi:PE X i ty) (hv:PE X value tv) (hs:swapsWith value (some (.Subscript o i pos')) pos.line X.env=pure false) :
   PS X (.Assign [.Subscript o i pos'] value pos) (cX6 td ty tv):=by
 intro pins s σ H D I h
 refine wpAny_Assign_Subscript (thn (hv pins s σ H _ I h) λr s1 ⟨v,H1,I1,rv,q1⟩=>thn (ho pins s1 σ H1 _ I1 q1) λu s2 ⟨x,H2,I2,rx,q2⟩=>thn (hi pins s2 σ H2 _ I2 q2) λiv s3 ⟨y,H3,I3,ry,a,H4,ex,g,q3⟩=>?_) hs
 subst ex
 obtain rfl:u=Value.ref a:=rx
 exact aJN hu I3 g ry rv λs4 I4=>⟨σ,H4,I4,q3⟩
end
theorem bXC {P:Program} {w:World} {H:Hp} (h:Heap) (hb:sysModules < h.objs.size):ObjOk P w H (h.push { cls:=.type "dict",data:=.dict #[] }) h.objs.size (.dK []) :=
 ⟨Ck _,Dy.mpr (Ne.symm (Bk hb)),[],.nil,Heap.DictOf.new h⟩
theorem bQ4 {P:Program} {w:World} {H:Hp} (h:Heap) (hb:sysModules < h.objs.size):ObjOk P w H (h.push { cls:=.type "dict",data:=.dict #[] }) h.objs.size (.dT []) :=
 ⟨Ck _,Dy.mpr (Ne.symm (Bk hb)),[],.nil,_,#[],0,Ax _ rfl,⟨rfl,rfl,rfl⟩,rfl,rfl,List.nodup_nil⟩
def aJ5:TE:=λ_ H Q=>∀ p,H p=none->Q (.ref p) (upd H p (.dK []))
def bXH:TE:=λ_ H Q=>∀ p,H p=none->Q (.ref p) (upd H p (.dT []))
section
variable {X:Cx} {pos:Pos}
theorem lR:PE X (.Dict [] [] pos) aJ5:=λpins s σ H Q I h=>
 wpAny_Dict_empty ⟨.ref s.heap.objs.size,_,I.laid (a:=s.heap.objs.size) (o:=.dK []) (t':=s.toks) (λ_ _ q=>Af _ q) (Ag _) (bXC s.heap I.big),rfl,h _ (I.hok.fresh (Ag _))⟩
theorem wK:PE X (.Dict [] [] pos) bXH:=λpins s σ H Q I h=>
 wpAny_Dict_empty ⟨.ref s.heap.objs.size,_,I.laid (a:=s.heap.objs.size) (o:=.dT []) (t':=s.toks) (λ_ _ q=>Af _ q) (Ag _) (bQ4 s.heap I.big),rfl,h _ (I.hok.fresh (Ag _))⟩
end
def IsD (H:Hp) (a:Addr):Prop:=(∃ kvs,Rd H a (.dK kvs))\/∃ kvs,Rd H a (.dT kvs)
theorem bXM {X:Cx} {pins:List (Addr × Obj)} {σ:St} {H:Hp} {s:Shared} {a:Addr} (I:Inv X pins σ H s) (d:IsD H a) :
   s.TypeIs (.ref a) "dict"/\(∀ b,Value.ref a=.ref b->∃ ob,s.heap.get? b=some ob/\ob.dict=none)/\(a == sysModules)=false:=by
 rcases d with ⟨kvs,e⟩ | ⟨kvs,e⟩
 · obtain ⟨_,hd,vs,_,dd⟩:=gY I.hok e
   refine ⟨dd.typeIs,λb q=>?_,hd⟩
   cases q
   obtain ⟨ob,_,_,h1,h2,_⟩:=dd
   exact ⟨ob,h1,h2.2.1⟩
 · obtain ⟨_,hd,xs,_,dd⟩:=nS I.hok e
   refine ⟨dd.typeIs,λb q=>?_,hd⟩
   cases q
   obtain ⟨ob,_,_,h1,h2,_⟩:=dd
   exact ⟨ob,h1,h2.2.1⟩
section
variable {X:Cx} {pins:List (Addr × Obj)} {σ:St} {H:Hp} {s:Shared} {a:Addr} {y d:V} {u r:Value} {o:Option V} {A:Around} {E:Value->Shared->Prop}
theorem dXM {Q:Value->Shared->Prop} (hu:A.units + 1 < cLine) (I:Inv X pins σ H s) (g:DGet H a y o) (ry:RelV y u) (h:∀ w' s',Inv X pins σ H s'->RelV (o.getD .non) w'->Q w' s') :
   wpAny (model X.prog X.w) A (call (.builtin "dict.get") [.ref a,u]) Q E s:=by
 rcases g with ⟨kvs,k,e,ey,l⟩ | ⟨kvs,k,b,e,ey,eb,l⟩
 · subst ey
   obtain ⟨z,hd,vs,rel,dd⟩:=gY I.hok e
   refine Fk Bw dd.typeIs Et (PySem.F.args_dict_get_2 _ _) (meets_dict_get (bB X.prog X.w) a (pA ry) hd) ⟨_,dd.mapOf,h _ _ (I.tok _) ?_⟩
   rw [l]
   exact (rel.val k).getD rfl
 · subst ey
   cases (show u=Value.ref b from ry)
   obtain ⟨z,hd,xs,rel,dd⟩:=nS I.hok e
   refine Fk Bw dd.typeIs Et (PySem.F.args_dict_get_2 _ _) (meetsH_dict_get (tupleKind (bB X.prog X.w)) a b hd) ⟨Eb hu,k,xs,lB I.hok eb,dd,h _ _ (I.tok _) ?_⟩
   rw [l]
   exact (rel.val k).getD rfl
theorem cJR {Q:Value->Shared->Prop} (hu:A.units + 1 < cLine) (I:Inv X pins σ H s) (g:DGet H a y o) (ry:RelV y u) (rd:RelV d r) (h:∀ w' s',Inv X pins σ H s'->RelV (o.getD d) w'->Q w' s') :
   wpAny (model X.prog X.w) A (call (.builtin "dict.get") [.ref a,u,r]) Q E s:=by
 rcases g with ⟨kvs,k,e,ey,l⟩ | ⟨kvs,k,b,e,ey,eb,l⟩
 · subst ey
   obtain ⟨z,hd,vs,rel,dd⟩:=gY I.hok e
   refine Fk Bw dd.typeIs Et (PySem.F.args_dict_get_3 _ _ _) (meets_dict_get_default (bB X.prog X.w) a (pA ry) hd r) ⟨_,dd.mapOf,h _ _ (I.tok _) ?_⟩
   rw [l]
   exact (rel.val k).getD rd
 · subst ey
   cases (show u=Value.ref b from ry)
   obtain ⟨z,hd,xs,rel,dd⟩:=nS I.hok e
   refine Fk Bw dd.typeIs Et (PySem.F.args_dict_get_3 _ _ _) (meetsH_dict_get_default (tupleKind (bB X.prog X.w)) a b hd r) ⟨Eb hu,k,xs,lB I.hok eb,dd,h _ _ (I.tok _) ?_⟩
   rw [l]
   exact (rel.val k).getD rd
end
section
variable {X:Cx} {o e f:Expr} {apos cpos:Pos} {td ty tx:TE}
end
section
variable {X:Cx} {pins:List (Addr × Obj)} {σ:St} {H:Hp} {s:Shared} {a:Addr} {kvs:List (Key × V)} {A:Around} {E:Value->Shared->Prop}
theorem bZE {Q:Value->Shared->Prop} (I:Inv X pins σ H s) (e:Rd H a (.dK kvs)) (h:∀ p s',H p=none->Inv X pins σ (upd H p (.dK kvs)) s'->Q (.ref p) s'):wpAny (model X.prog X.w) A (call (.type "dict") [.ref a]) Q E s:=by
 obtain ⟨z,hd,vs,rel,dd⟩:=gY I.hok e
 refine kt_call_dict hd dd (by rw [<-rel.length]; exact z) λh' dd' hs=>?_
 refine h _ _ (I.hok.fresh (Ag _)) (I.laid (a:=s.heap.objs.size) (o:=.dK kvs) (t':=s.toks) (λb q hq=>?_) (Ag _) (zK z (Dy.mpr (Ne.symm (Bk I.big))) rel dd'))
 exact (hs.2 b (Bk (Aq hq))).trans (Af _ hq)
end
section
variable {X:Cx} {pins:List (Addr × Obj)} {σ:St} {H:Hp} {s:Shared} {a:Addr} {y:V} {u:Value} {A:Around} {E:Value->Shared->Prop}
end
end L2
set_option maxHeartbeats 4000000
namespace L2
open PySem PySem.Spec PyProof.Rows
section
variable {X:Cx} {pins:List (Addr × Obj)} {σ:St} {H:Hp} {s:Shared}
theorem Inv.re {H':Hp} (I:Inv X pins σ H s) (hn:∀ b,H b=none->H' b=none) (tups:∀ b xs,X.H₀ b=some (.tup xs)->H' b=some (.tup xs)) (frzs:∀ b o u,X.H₀ b=some (.frz o u)->H' b=some (.frz o u))
   (tbls:∀ b ps,X.H₀ b=some (.tbl ps)->∃ more,H' b=some (.tbl (ps ++ more))) (hok:HOk X.prog X.w H' s.heap):Inv X pins σ H' s :=
 ⟨I.ok,I.os,I.bare,⟨I.base.keep,I.base.slot,λb o e n hx=>hn b (I.base.free b o e n hx),I.base.there,tups,frzs,tbls⟩,I.loc,I.cell,hn _ I.free,λx c e=>hn c (I.freeC x c e),λp hp=>by
   obtain ⟨a,b,c,d,e⟩:=I.pin p hp
   exact ⟨a,hn _ b,c,d,e⟩,hok,I.len⟩
def dZ6:HO->Bool
 | .dK _=>true
 | .dT _=>true
 | _=>false
theorem Inv.freeze {a:Addr} {u:HO} {o:Obj} (I:Inv X pins σ H s) (ha:H a=some u) (hu:dZ6 u=true) (ho:s.heap.get? a=some o):Inv X pins σ (upd H a (.frz o u)) s:=by
 have ne:∀ c v,H c=some v->dZ6 v=false->c≠a:=λc v q n z=>by rw [z,ha] at q; cases q; rw [n] at hu; cases hu
 have own:∀ c y,H c=some (.own y)->upd H a (.frz o u) c=some (.own y):=λc y q=>by rw [aK (ne c _ q rfl)]; exact q
 have tup:∀ c xs,H c=some (.tup xs)->upd H a (.frz o u) c=some (.tup xs):=λc xs q=>by rw [aK (ne c _ q rfl)]; exact q
 refine I.re (λb q=>by rw [aK (λz=>by rw [z,ha] at q; cases q)]; exact q) (λb xs q=>tup b xs (I.base.tups b xs q)) (λb o' v q=>?_) (λb ps q=>?_) (λb v q=>?_)
 · have:=I.base.frzs b o' v q
   rw [aK (ne b _ this rfl)]
   exact this
 · obtain ⟨m,e⟩:=I.base.tbls b ps q
   exact ⟨m,by rw [aK (ne b _ e rfl)]; exact e⟩
 · by_cases hb:b=a
   · subst hb
     rw [aE] at q
     cases q
     exact (show s.heap.get? b=some o/\ObjOk X.prog X.w (upd H b (.frz o u)) s.heap b u from ⟨ho,(I.hok b _ ha).stay (λ_ _ _ q=>q) (λc=>own c b) tup⟩)
   · rw [aK hb] at q
     exact (I.hok b v q).stay (λ_ _ _ q=>q) (λc=>own c b) tup
def unf (Hs H:Hp):Hp:=λb=>match H b with
 | some (.frz o u)=>(match Hs b with | some (.frz _ _)=>some (.frz o u) | _=>some u)
 | x=>x
theorem dR {Hs H:Hp} {b:Addr} {u:HO} (h:H b=some u) (n:∀ o v,u≠.frz o v):unf Hs H b=some u:=by
 unfold unf
 rw [h]
 cases u <;> first | rfl | exact absurd rfl (n _ _)
theorem wN {Hs H:Hp} {b:Addr} (h:H b=none):unf Hs H b=none:=by unfold unf; rw [h]
theorem oH {Hs H:Hp} {b:Addr} {o:Obj} {u:HO} (h:H b=some (.frz o u)) (n:∀ o v,Hs b≠some (.frz o v)):unf Hs H b=some u:=by
 unfold unf
 rw [h]
 dsimp only
 split
 · rename_i e
   exact absurd e (n _ _)
 · rfl
theorem kL {Hs H:Hp} {b:Addr} {o o':Obj} {u u':HO} (h:H b=some (.frz o u)) (n:Hs b=some (.frz o' u')):unf Hs H b=some (.frz o u):=by
 unfold unf
 rw [h]
 dsimp only
 rw [n]
theorem Inv.unfreeze {Hs:Hp} (I:Inv X pins σ H s) (h0:∀ b o u,X.H₀ b=some (.frz o u)->Hs b=some (.frz o u)):Inv X pins σ (unf Hs H) s:=by
 have own:∀ c y,H c=some (.own y)->unf Hs H c=some (.own y):=λc y q=>dR q λ_ _ z=>by cases z
 have tup:∀ c xs,H c=some (.tup xs)->unf Hs H c=some (.tup xs):=λc xs q=>dR q λ_ _ z=>by cases z
 refine I.re (λb q=>wN q) (λb xs q=>tup b xs (I.base.tups b xs q)) (λb o u q=>kL (I.base.frzs b o u q) (h0 b o u q)) (λb ps q=>?_) (λb u q=>?_)
 · obtain ⟨m,e⟩:=I.base.tbls b ps q
   exact ⟨m,dR e λ_ _ z=>by cases z⟩
 · cases e:H b with
   | none=>rw [wN e] at q; cases q
   | some v=>
     have ok:=I.hok b v e
     by_cases hf:∃ o v',v=.frz o v'
     · obtain ⟨o,v',rfl⟩:=hf
       have ok2:s.heap.get? b=some o/\ObjOk X.prog X.w H s.heap b v':=ok
       by_cases hs:∃ o' u',Hs b=some (.frz o' u')
       · obtain ⟨o',u',hs⟩:=hs
         rw [kL e hs] at q
         cases q
         exact ok.stay (λ_ _ _ q=>q) (λc=>own c b) tup
       · rw [oH e λo v z=>hs ⟨o,v,z⟩] at q
         cases q
         exact ok2.2.stay (λ_ _ _ q=>q) (λc=>own c b) tup
     · rw [dR e λo v' z=>hf ⟨o,v',z⟩] at q
       cases q
       exact ok.stay (λ_ _ _ q=>q) (λc=>own c b) tup
def aX3 (Hs:Hp) (D:Ends):Ends:=⟨λσ H=>D.nx σ (unf Hs H),λv H=>D.rt v (unf Hs H),λσ H=>D.bk σ (unf Hs H),λσ H=>D.ct σ (unf Hs H)⟩
end
section
variable {X:Cx} {e:Expr} {st:Stmt}
def dJF (t:TE):TE:=λσ H Q=>t σ H λv H'=>Q v (unf H H')
def cZN (t:TS):TS:=λD σ H=>t (aX3 H D) σ H
theorem bX1 {t:TE} (h:PE X e t):PE X e (dJF t):=λpins s σ H Q I q=>thn (h pins s σ H _ I q) λv s' ⟨x,H',I',r,q'⟩=>⟨x,unf H H',I'.unfreeze λb o u e=>I.base.frzs b o u e,r,q'⟩
theorem tP {t:TS} (h:PS X st t):PS X st (cZN t):=λpins s σ H D I q=>thn (h pins s σ H _ I q) λf s' q'=>by
 cases f with
 | next=>obtain ⟨σ',H',I',r⟩:=q'; exact ⟨σ',unf H H',I'.unfreeze λb o u e=>I.base.frzs b o u e,r⟩
 | brk=>obtain ⟨σ',H',I',r⟩:=q'; exact ⟨σ',unf H H',I'.unfreeze λb o u e=>I.base.frzs b o u e,r⟩
 | cont=>obtain ⟨σ',H',I',r⟩:=q'; exact ⟨σ',unf H H',I'.unfreeze λb o u e=>I.base.frzs b o u e,r⟩
 | ret u=>obtain ⟨v,σ',H',I',rv,r⟩:=q'; exact ⟨v,σ',unf H H',I'.unfreeze λb o u e=>I.base.frzs b o u e,rv,r⟩
theorem dX2 {t:TE} {σ:St} {H:Hp} {Q:VK} (h:t σ H λv H'=>Q v (unf H H')):dJF t σ H Q:=h
theorem cJN {t:TS} {D:Ends} {σ:St} {H:Hp} (h:t (aX3 H D) σ H):cZN t D σ H:=h
end
theorem oX {Hs H:Hp} {a:Addr} {o:Obj} {u:HO} (ha:Hs a=some u) (hu:∀ o v,u≠.frz o v) (h:Same (upd Hs a (.frz o u)) H):Same Hs (unf Hs H):=λb v q=>by
 by_cases e:b=a
 · subst e
   rw [ha] at q
   cases q
   exact oH (h _ _ aE) λo v z=>by rw [ha] at z; cases z; exact hu _ _ rfl
 · have:=h b v (by rw [aK e]; exact q)
   by_cases hf:∃ o v',v=.frz o v'
   · obtain ⟨o',v',rfl⟩:=hf
     exact kL this q
   · exact dR this λo v' z=>hf ⟨o,v',z⟩
theorem aX2 {Hs H:Hp} (h:Same Hs H):Same Hs (unf Hs H):=λb v q=>by
 have:=h b v q
 by_cases hf:∃ o v',v=.frz o v'
 · obtain ⟨o',v',rfl⟩:=hf
   exact kL this q
 · exact dR this λo v' z=>hf ⟨o,v',z⟩
theorem pI {α β:Type} {R:α->β->Prop} {xs:List α} {ys:List β} (r:Paired R xs ys):∀ {i:Nat} {x:α},xs[i]?=some x->∃ y,ys[i]?=some y/\R x y:=by
 induction r with
 | nil=>intro i x h; cases h
 | cons h t ih=>
   intro i x hx
   cases i with
   | zero=>cases hx; exact ⟨_,rfl,h⟩
   | succ i=>exact ih (i:=i) hx
theorem bQY {P:Program} {w:World} {k:Key} {u:Value} (h:(bB P w).is k u=true):RelV (kV k) u:=by
 rcases bR h with ⟨i,t,rfl,rfl⟩ | ⟨x,t,rfl,rfl⟩
 · exact ⟨t,rfl⟩
 · exact ⟨t,rfl⟩
def Itd (a:Addr) (o:Obj) (kvs:List (Key × V)):It:=⟨λi H=>H a=some (.frz o (.dK kvs))/\i < kvs.length,λi H x H'=>H'=H/\∃ kv,kvs[i]?=some kv/\x=kV kv.1,λi H=>H a=some (.frz o (.dK kvs))/\kvs.length=i⟩
def eQE (a:Addr) (o:Obj) (kvs:List (Key × V)):It:=⟨λi H=>H a=some (.frz o (.dK kvs))/\i < kvs.length,λi H x H'=>∃ p kv,H p=none/\x=.ref p/\H'=upd H p (.tup [kV kv.1,kv.2])/\kvs[i]?=some kv,λi H=>H a=some (.frz o (.dK kvs))/\kvs.length=i⟩
theorem zE {X:Cx} {pins:List (Addr × Obj)} {σ:St} {H:Hp} {s:Shared} {a:Addr} {o:Obj} {kvs:List (Key × V)} {ep:Nat} (I:Inv X pins σ H s) (ha:H a=some (.frz o (.dK kvs))) (hep:∃ es,o.data=.dict es ep) :
   kvs.length<=sizeLine/\(a == sysModules)=false/\∃ vs,KV kvs vs/\s.heap.DictAt (bB X.prog X.w) a vs ep:=by
 have ok:s.heap.get? a=some o/\(kvs.length<=sizeLine/\(a == sysModules)=false/\∃ vs,KV kvs vs/\s.heap.DictOf (bB X.prog X.w) a vs):=I.hok a _ ha
 obtain ⟨e,z,hd,vs,rel,o',es',ep',ho',hx,hdat,r⟩:=ok
 rw [e] at ho'
 cases ho'
 obtain ⟨es,hes⟩:=hep
 have q:=hdat
 rw [hes] at q
 cases q
 exact ⟨z,hd,vs,rel,o,_,e,hx,hdat,r⟩
theorem aJS {P:Program} {w:World} {K:PySem.W.Frag} {tg:Expr} (a it:Addr) (o:Obj) (kvs:List (Key × V)) (ep:Nat) (hep:∃ es,o.data=.dict es ep):Turn P w K tg (Itd a o kvs) [it] it (λi h=>h.IsKeyIter it a i kvs.length ep) where
 mem:=by simp
 obj:=λi h st b hb=>by
   have e:b=it:=by simpa using hb
   subst e
   obtain ⟨o,e,c,d⟩:=st
   exact ⟨o,e,λv z=>by rw [d] at z; cases z⟩
 keep:=λi h h' st k=>let ⟨o,ho,r⟩:=st; ⟨o,k it (by simp) o ho,r⟩
 item:=by
   intro X hP hw hK hc i pins s σ H E I hf st hg
   subst hP hw hK
   obtain ⟨ha,hi⟩:=hg
   obtain ⟨z,hd,vs,rel,dd⟩:=zE I ha hep
   have hlv:=rel.length
   obtain ⟨f0,f1,f2,f3,f4,f5⟩:=hf it (by simp)
   obtain ⟨⟨k,v⟩,hx,hk1,_⟩:=pI rel (Aa hi)
   refine wpAny_pyNext_dict_item (knd:=bB X.prog X.w) (by rw [<-hlv]; exact st) dd hx λkey h' hk st' sb=>?_
   have I1:Inv X pins σ H { s with heap:=h' }:=I.turned (t':=s.toks) (λb o hb e=>(sb.2 b hb).trans e) f0 f1 f3 f4 f5
   obtain ⟨oi,e,c,d⟩:=id st'
   refine ⟨key,rfl,pZ (s:={ s with heap:=h' }) e c d (by decide) ⟨kV k,H,I1,bQY hk,⟨rfl,kvs[i],Aa hi,by rw [hk1]⟩,?_,λb hb=>(hf b hb).1⟩⟩
   rw [hlv]
   exact st'
 done:=by
   intro X hP hw hK hc i pins s σ H E I hf st hg
   subst hP hw hK
   obtain ⟨ha,hi⟩:=hg
   obtain ⟨z,hd,vs,rel,dd⟩:=zE I ha hep
   have hlv:=rel.length
   obtain ⟨f0,f1,f2,f3,f4,f5⟩:=hf it (by simp)
   exact wpAny_pyNext_dict_end (knd:=bB X.prog X.w) (I.ok.hd hc) (by rw [<-hlv]; exact st) dd (List.getElem?_eq_none (by omega)) λh' eb=>⟨rfl,I.turned (t':=s.toks) (λb o hb e=>eb b o hb e) f0 f1 f3 f4 f5⟩
 self:=λ_ _ _ _ _ st h=>wpAny_pyIter_keyiter st h
section
variable {X:Cx} {tg:Expr}
theorem bQ9 {pins:List (Addr × Obj)} {σ:St} {H:Hp} {s:Shared} {a:Addr} {kvs:List (Key × V)} (I:Inv X pins σ H s) (ha:H a=some (.dK kvs)):∃ o es ep,s.heap.get? a=some o/\o.data=.dict es ep:=by
 obtain ⟨_,_,vs,_,o,es,ep,ho,_,hd,_⟩:=bZN I.hok ha
 exact ⟨o,es,ep,ho,hd⟩
theorem cQ0 {pins:List (Addr × Obj)} {σ:St} {H:Hp} {s:Shared} {a:Addr} {o:Obj} {kvs:List (Key × V)} (I:Inv X pins σ H s) (ha:H a=some (.frz o (.dK kvs))):∃ ep,∃ es,o.data=.dict es ep:=by
 have ok:s.heap.get? a=some o/\(kvs.length<=sizeLine/\(a == sysModules)=false/\∃ vs,KV kvs vs/\s.heap.DictOf (bB X.prog X.w) a vs):=I.hok a _ ha
 obtain ⟨e,_,_,vs,_,o',es,ep,ho,_,hd,_⟩:=ok
 rw [e] at ho
 cases ho
 exact ⟨ep,es,hd⟩
def uJ (H:Hp) (a:Addr) (R:Obj->List (Key × V)->Hp->Prop):Prop:=(∃ kvs,H a=some (.dK kvs)/\∀ o,R o kvs (upd H a (.frz o (.dK kvs))))\/∃ o kvs,H a=some (.frz o (.dK kvs))/\R o kvs H
theorem walk_at {pins:List (Addr × Obj)} {σ:St} {H:Hp} {s:Shared} {a:Addr} {R:Obj->List (Key × V)->Hp->Prop} (I:Inv X pins σ H s) (h:uJ H a R) :
   ∃ o kvs H' ep,Inv X pins σ H' s/\H' a=some (.frz o (.dK kvs))/\(∃ es,o.data=.dict es ep)/\R o kvs H':=by
 rcases h with ⟨kvs,ha,q⟩ | ⟨o,kvs,ha,q⟩
 · obtain ⟨o,es,ep,ho,hd⟩:=bQ9 I ha
   exact ⟨o,kvs,_,ep,I.freeze ha rfl ho,aE,⟨es,hd⟩,q o⟩
 · obtain ⟨ep,es,hd⟩:=cQ0 I ha
   exact ⟨o,kvs,H,ep,I,ha,⟨es,hd⟩,q⟩
def cZV (tl:TE):TI:=λσ H R=>tl σ H (fS λa H1=>uJ H1 a λo kvs H2=>R (Itd a o kvs) H2)
theorem aXQ {l:Expr} {tl:TE} (hl:PE X l tl):PI X tg l (cZV tl):=by
 intro pins s σ H R I h
 refine thn (hl pins s σ H _ I h) λv s1 ⟨x,H1,I1,r1,q1⟩=>?_
 unfold fS at q1
 split at q1
 · cases r1
   rename_i a0 _
   obtain ⟨o,kvs,H2,ep,I2,ha,hep,q⟩:=walk_at I1 q1
   obtain ⟨z,hd,vs,rel,dd⟩:=zE I2 ha hep
   refine wpAny_pyIter_dict (knd:=bB X.prog X.w) hd dd ?_
   refine ⟨s1.heap.objs.size,[s1.heap.objs.size],_,_,H2,rfl,I2.kept (t':=s1.toks) λb o e=>Af _ e,aJS a0 _ o kvs ep hep,⟨_,Ax _ rfl,rfl,by rw [rel.length]; rfl⟩,λb hb=>?_,q⟩
   have e:b=s1.heap.objs.size:=by simpa using hb
   subst e
   exact I2.fpOk (Ag _) (I2.hok.fresh (Ag _))
 · exact q1.elim
def isD (H:Hp) (p:Addr):Bool:=match H p with
 | some (.dK _)=>true
 | some (.dT _)=>true
 | some (.frz _ (.dK _))=>true
 | some (.frz _ (.dT _))=>true
 | _=>false
theorem bX5 {H:Hp} {p:Addr} (h:isD H p=true):IsD H p:=by
 unfold isD at h
 split at h
 · exact .inl ⟨_,.inl (by assumption)⟩
 · exact .inr ⟨_,.inl (by assumption)⟩
 · exact .inl ⟨_,.inr ⟨_,by assumption⟩⟩
 · exact .inr ⟨_,.inr ⟨_,by assumption⟩⟩
 · cases h
theorem jS {H:Hp} {p:Addr} {kvs:List (Key × V)} (h:H p=some (.dK kvs)):isD H p=true:=by unfold isD; rw [h]
theorem bZT {H:Hp} {p:Addr} {o:Obj} {kvs:List (Key × V)} (h:H p=some (.frz o (.dK kvs))):isD H p=true:=by unfold isD; rw [h]
end
section
variable {a:Addr} {o:Obj} {kvs:List (Key × V)} {g:TG} {tb:TS} {D:Ends} {σ:St} {H:Hp} {R:It->Hp->Prop} {tl:TE}
theorem dZ0 (Pv:Nat->St->Hp->Prop) (h0:Pv 0 σ H) (hl:∀ i σ H,i<=kvs.length->Pv i σ H->H a=some (.frz o (.dK kvs)))
   (hs:∀ i kv σ H p,kvs[i]?=some kv->Pv i σ H->H p=none->g (.ref p) σ (upd H p (.tup [kV kv.1,kv.2])) λσ2 H2=>tb { D with nx:=Pv (i + 1),ct:=Pv (i + 1),bk:=D.nx } σ2 H2) (hd:∀ σ H,Pv kvs.length σ H->D.nx σ H):qE (eQE a o kvs) g tb D σ H:=by
 refine ⟨λi m σ H=>m=kvs.length - i/\i<=kvs.length/\Pv i σ H,⟨kvs.length,by simp,Nat.zero_le _,h0⟩,?_⟩
 rintro i m σ H ⟨rfl,hi,p⟩
 have hr:=hl i σ H hi p
 by_cases hlt:i < kvs.length
 · refine .inr ⟨⟨hr,hlt⟩,Pv (i + 1),λσ' H' p'=>⟨kvs.length - (i + 1),by omega,rfl,hlt,p'⟩,λx H' y=>?_⟩
   obtain ⟨q,kv,hq,rfl,rfl,hx⟩:=y
   exact hs i kv σ H q hx p hq
 · have e:i=kvs.length:=by omega
   subst e
   exact .inl ⟨⟨hr,rfl⟩,hd σ H p⟩
theorem bJV (Pv:Nat->St->Hp->Prop) (h0:Pv 0 σ H) (hl:∀ i σ H,i<=kvs.length->Pv i σ H->H a=some (.frz o (.dK kvs)))
   (hs:∀ i kv σ H,kvs[i]?=some kv->Pv i σ H->g (kV kv.1) σ H λσ2 H2=>tb { D with nx:=Pv (i + 1),ct:=Pv (i + 1),bk:=D.nx } σ2 H2) (hd:∀ σ H,Pv kvs.length σ H->D.nx σ H):qE (Itd a o kvs) g tb D σ H:=by
 refine ⟨λi m σ H=>m=kvs.length - i/\i<=kvs.length/\Pv i σ H,⟨kvs.length,by simp,Nat.zero_le _,h0⟩,?_⟩
 rintro i m σ H ⟨rfl,hi,p⟩
 have hr:=hl i σ H hi p
 by_cases hlt:i < kvs.length
 · refine .inr ⟨⟨hr,hlt⟩,Pv (i + 1),λσ' H' p'=>⟨kvs.length - (i + 1),by omega,rfl,hlt,p'⟩,λx H' y=>?_⟩
   obtain ⟨rfl,kv,hx,rfl⟩:=y
   exact hs i kv σ _ hx p
 · have e:i=kvs.length:=by omega
   subst e
   exact .inl ⟨⟨hr,rfl⟩,hd σ H p⟩
theorem cXK (h:tl σ H (fS λa H1=>uJ H1 a λo kvs H2=>R (Itd a o kvs) H2)):cZV tl σ H R:=h
theorem bXS {Rw:Obj->List (Key × V)->Hp->Prop} (e:H a=some (.dK kvs)) (h:∀ o,Rw o kvs (upd H a (.frz o (.dK kvs)))):uJ H a Rw:=.inl ⟨kvs,e,h⟩
end
section
variable {X:Cx} {o e:Expr} {es:List Expr} {to:TE} {t:TA} {name:Str} {apos cpos:Pos} {id:String} {r:V->List V->Hp->VK->Prop}
def bZ9 (r:V->List V->Hp->VK->Prop) (to:TE) (t:TA):TE:=λσ H Q=>to σ H (fS λp H1=>isD H1 p=true/\t σ H1 λxs H2=>r (.ref p) xs H2 Q)
def aQM (r:V->List V->Hp->VK->Prop) (to:TE):TE:=λσ H Q=>to σ H (fS λp H1=>isD H1 p=true/\r (.ref p) [] H1 Q)
theorem fR (slot:Slot "dict" name id) (hty:typeOf (.builtin id)=pure (.type "method_descriptor")) (hm:MtR X id r) (ho:PE X o to) (ha:PA X (e :: es) t)
   (hbase:attributeBase o name X.env (eval o X.env)=eval o X.env:=by rfl)
   (hfew:((backTo cpos (starEach (e :: es) X.env)).all (λx=>!x.1) && (backToKw cpos (keywordEach [] X.env)).all (λx=>x.1.isSome)
     && decide ((e :: es).length + ([]:List Keyword).length + (if ([]:List Keyword).isEmpty then 0 else 1) < 30))=true:=by rfl)
   (hline:(apos.endLine == cpos.line)=true:=by rfl) (hs:starEach (e :: es) X.env=(false,eval e X.env) :: starEach es X.env:=by rfl) (hplain:(backTo cpos (starEach es X.env)).any (·.1)=false:=by rfl) :
   PE X (.Call (.Attribute o name apos) (e :: es) [] cpos) (bZ9 r to t):=by
 intro pins s σ H Q I h
 refine wpAny_Call_method_late hbase hfew hline rfl (thn (ho pins s σ H _ I h) λv s1 ⟨x,H1,I1,r1,q⟩=>?_)
 unfold fS at q
 split at q
 · obtain ⟨hd,q1⟩:=q
   obtain ⟨h1,h2,_⟩:=bXM I1 (bX5 hd)
   cases _root_.id r1
   refine ⟨"dict",_,PySem.F.plainAttrs_dict,slot,hty,h1,h2,?_⟩
   have hA:=ha cpos pins s1 σ H1 _ I1 q1
   rw [hs] at hA ⊢
   refine Er (by show (false || (backTo cpos (starEach es X.env)).any (·.1))=false; rw [hplain] <;> rfl) (Calls.evalArgs_plain ?_)
   exact thn hA λus s2 ⟨vs,H2,I2,r2,q2⟩=>hm pins s2 σ H2 _ vs _ us Q I2 r1 r2 q2
 · exact q.elim
theorem aX1 (slot:Slot "dict" name id) (hty:typeOf (.builtin id)=pure (.type "method_descriptor")) (hm:MtR X id r) (ho:PE X o to)
   (hbase:attributeBase o name X.env (eval o X.env)=eval o X.env:=by rfl) (hline:(apos.endLine == cpos.line)=true:=by rfl):PE X (.Call (.Attribute o name apos) [] [] cpos) (aQM r to):=by
 intro pins s σ H Q I h
 refine wpAny_Call_method0_late hbase hline (thn (ho pins s σ H _ I h) λv s1 ⟨x,H1,I1,r1,q⟩=>?_)
 unfold fS at q
 split at q
 · obtain ⟨hd,q1⟩:=q
   obtain ⟨h1,h2,_⟩:=bXM I1 (bX5 hd)
   cases _root_.id r1
   exact ⟨"dict",_,PySem.F.plainAttrs_dict,slot,hty,h1,h2,Er rfl (PySem.evalArgs_none (hm pins s1 σ H1 _ [] _ [] Q I1 r1 .nil q1))⟩
 · exact q.elim
def dZX:V->List V->Hp->VK->Prop:=λx vs H Q=>∃ a y z o,x=.ref a/\vs=[y,z]/\DGet H a y o/\Q (o.getD z) H
theorem tJ (hu:X.A.units + 1 < cLine):MtR X "dict.get" dZX:=by
 intro pins s σ H x vs v us Q I rx rv h
 obtain ⟨a,y,z,ov,rfl,rfl,g,q⟩:=h
 cases rx
 obtain ⟨u,w',rfl,ru,rw'⟩:=rX rv
 exact cJR hu I g ru rw' λw1 s1 I1 r1=>⟨_,H,I1,r1,q⟩
def aQP:V->List V->Hp->VK->Prop:=λx vs H Q=>∃ a kvs,x=.ref a/\vs=[]/\H a=some (.dK kvs)/\Q .non (upd H a (.dK []))
theorem bQN:MtR X "dict.clear" aQP:=by
 intro pins s σ H x vs v us Q I rx rv h
 obtain ⟨a,kvs,rfl,rfl,ha,q⟩:=h
 cases rx
 cases rv
 exact bJL I ha λs1 I1=>⟨.non,_,I1,rfl,q⟩
def aQT:List V->Hp->VK->Prop:=λxs H Q=>∃ a kvs,xs=[.ref a]/\Rd H a (.dK kvs)/\∀ p,H p=none->Q (.ref p) (upd H p (.dK kvs))
theorem pJ:CallR X (.type "dict") aQT:=by
 intro pins s σ H xs us Q I r h
 obtain ⟨a,kvs,rfl,ha,q⟩:=h
 obtain ⟨u,rfl,ru⟩:=gR r
 cases ru
 exact bZE I ha λp s1 hp I1=>⟨.ref p,_,I1,rfl,q p hp⟩
def cJ4 (x y:V) (H:Hp) (Q:VK):Prop:=∃ a v,x=.ref a/\DGet H a y (some v)/\Q v H
def bXI (D:Ends) (σ:St) (x y v:V) (H:Hp):Prop:=∃ a H4,x=.ref a/\DPut H a y v H4/\D.nx σ H4
end
section
variable {σ:St} {H:Hp} {Q:VK} {D:Ends} {a:Addr} {kvs:List (Key × V)} {z:Str} {v w:V} {to td ty tv:TE} {t:TA} {r:V->List V->Hp->VK->Prop}
theorem cQD (h:to σ H (fS λp H1=>isD H1 p=true/\t σ H1 λxs H2=>r (.ref p) xs H2 Q)):bZ9 r to t σ H Q:=h
theorem bX9 (h:to σ H (fS λp H1=>isD H1 p=true/\r (.ref p) [] H1 Q)):aQM r to σ H Q:=h
theorem dJN {P:Prop} (e:isD H a=true) (h:P):isD H a=true/\P:=⟨e,h⟩
theorem sZ (e:Rd H a (.dK kvs)) (h:Q ((bX kvs (Sum.inr z)).getD w) H):dZX (.ref a) [.str z,w] H Q:=⟨a,.str z,w,_,rfl,rfl,.inl ⟨kvs,.inr z,e,rfl,rfl⟩,h⟩
theorem bQK (e:H a=some (.dK kvs)) (h:Q .non (upd H a (.dK []))):aQP (.ref a) [] H Q:=⟨a,kvs,rfl,rfl,e,h⟩
theorem pB (e:Rd H a (.dK kvs)) (h:∀ p,H p=none->Q (.ref p) (upd H p (.dK kvs))):aQT [.ref a] H Q:=⟨a,kvs,rfl,e,h⟩
theorem cJZ (h:∀ p,H p=none->Q (.ref p) (upd H p (.dK []))):aJ5 σ H Q:=h
theorem dZ9 (h:td σ H λx H1=>ty σ H1 λy H2=>cJ4 x y H2 Q):cZW td ty σ H Q:=h
theorem kY (e:Rd H a (.dK kvs)) (l:bX kvs (Sum.inr z)=some v) (h:Q v H):cJ4 (.ref a) (.str z) H Q:=⟨a,v,rfl,.inl ⟨kvs,.inr z,e,rfl,l.symm⟩,h⟩
theorem dQ6 (h:tv σ H λv H1=>td σ H1 λx H2=>ty σ H2 λy H3=>bXI D σ x y v H3):cX6 td ty tv D σ H:=h
theorem eZ (e:H a=some (.dK kvs)) (l:kvs.length < sizeLine) (h:D.nx σ (upd H a (.dK (dJ kvs (Sum.inr z) v)))):bXI D σ (.ref a) (.str z) v H:=⟨a,_,rfl,.inl ⟨kvs,.inr z,e,rfl,l,rfl⟩,h⟩
end
end L2
set_option maxHeartbeats 4000000
namespace L2
open PySem PySem.Spec PyProof.Rows
open PySem.AutoSeq1 (wpAny_loadPart')
open PySem.MeetsSeq PySem.MeetsSeq2 PySem.MeetsSeq3
def EqW (P:Program) (w:World) (A:Around) (s:Shared) (u v:Value):Prop:=∀ (E:Value->Shared->Prop) (Q:Bool->Shared->Prop),Q true s->wpAny (model P w) A (eqBool u v) Q E s
theorem aX7 {P:Program} {w:World} (l b:Addr) (xs ys:Array Value) (n n2:Nat) (dd dd2:Option Addr) (sl sl2:Array (Option Value)) (hsz:xs.size=ys.size) (k:Nat) :
   ∀ i:Nat,xs.size - i=k->MeetsIn P w (Builtin.«list.__eq__.loop» ⟨[.ref l,.ref b,rawInt i,rawInt 2],[]⟩)
     (λA R s=>s.heap.get? l=some ⟨.type "list",dd,.seq xs n,sl⟩/\s.heap.get? b=some ⟨.type "list",dd2,.seq ys n2,sl2⟩/\(∀ j (h1:j < xs.size) (h2:j < ys.size),EqW P w A.in1 s xs[j] ys[j])/\R (.ok (.ret (.bool true))) s):=by
 induction k with
 | zero=>
   intro i hk A R s h
   obtain ⟨hp,g,d,tk,os⟩:=s
   obtain ⟨ha,hq,he,h⟩:=h
   wp_walk using (Bv ha),(Bv hq)
   have n1:xs[((i:Nat):Int).toNat]?=none:=by simp; omega
   have n2':ys[((i:Nat):Int).toNat]?=none:=by simp; omega
   rw [n1,n2']
   wp_walk using (Bv ha),(Bv hq)
   show R (.ok (.ret (.bool (xs.size == ys.size)))) _
   rw [hsz,Gf]
   exact h
 | succ k ih=>
   intro i hk A R s h
   obtain ⟨hp,g,d,tk,os⟩:=s
   obtain ⟨ha,hq,he,h⟩:=h
   wp_walk using (Bv ha),(Bv hq)
   have l1:i < xs.size:=by omega
   have l2:i < ys.size:=by omega
   have n1:xs[((i:Nat):Int).toNat]?=some xs[i]:=by simp [l1]
   have n2':ys[((i:Nat):Int).toNat]?=some ys[i]:=by simp [l2]
   have hc:((i:Int) + 1)=((i + 1:Nat):Int):=by push_cast; rfl
   rw [n1,n2']
   refine Ae (he i l1 l2 _ _ ?_)
   wp_walk
   rw [hc]
   refine ⟨plainId_quiet plain_eq_loop _,Fu entry_eq_loop ?_⟩
   rw [Fg plain_eq_loop _]
   exact ih (i + 1) (by omega) A R _ ⟨ha,hq,he,h⟩
theorem aJP {P:Program} {w:World} (l b:Addr) (xs ys:Array Value) (n n2:Nat) (dd dd2:Option Addr) (sl sl2:Array (Option Value)) (hsz:xs.size=ys.size) (k:Nat) :
   ∀ i:Nat,xs.size - i=k->MeetsIn P w (Builtin.«list.__eq__.loop» ⟨[.ref l,.ref b,rawInt i,rawInt 3],[]⟩)
     (λA R s=>s.heap.get? l=some ⟨.type "list",dd,.seq xs n,sl⟩/\s.heap.get? b=some ⟨.type "list",dd2,.seq ys n2,sl2⟩/\(∀ j (h1:j < xs.size) (h2:j < ys.size),EqW P w A.in1 s xs[j] ys[j])/\R (.ok (.ret (.bool false))) s):=by
 induction k with
 | zero=>
   intro i hk A R s h
   obtain ⟨hp,g,d,tk,os⟩:=s
   obtain ⟨ha,hq,he,h⟩:=h
   wp_walk using (Bv ha),(Bv hq)
   have n1:xs[((i:Nat):Int).toNat]?=none:=by simp; omega
   have n2':ys[((i:Nat):Int).toNat]?=none:=by simp; omega
   rw [n1,n2']
   wp_walk using (Bv ha),(Bv hq)
   show R (.ok (.ret (.bool (xs.size != ys.size)))) _
   rw [hsz,bne_self_eq_false]
   exact h
 | succ k ih=>
   intro i hk A R s h
   obtain ⟨hp,g,d,tk,os⟩:=s
   obtain ⟨ha,hq,he,h⟩:=h
   wp_walk using (Bv ha),(Bv hq)
   have l1:i < xs.size:=by omega
   have l2:i < ys.size:=by omega
   have n1:xs[((i:Nat):Int).toNat]?=some xs[i]:=by simp [l1]
   have n2':ys[((i:Nat):Int).toNat]?=some ys[i]:=by simp [l2]
   have hc:((i:Int) + 1)=((i + 1:Nat):Int):=by push_cast; rfl
   rw [n1,n2']
   refine Ae (he i l1 l2 _ _ ?_)
   wp_walk
   rw [hc]
   refine ⟨plainId_quiet plain_eq_loop _,Fu entry_eq_loop ?_⟩
   rw [Fg plain_eq_loop _]
   exact ih (i + 1) (by omega) A R _ ⟨ha,hq,he,h⟩
section
variable {P:Program} {w:World} {A:Around} {E:Value->Shared->Prop} {s:Shared} {l b:Addr} {xs ys:Array Value}
theorem dQD {Q:Value->Shared->Prop} (hl:s.heap.IsList l xs) (hb:s.heap.IsList b ys) (hsz:xs.size=ys.size) (hu:A.units < cLine) (he:∀ j (h1:j < xs.size) (h2:j < ys.size),EqW P w A.in1 s xs[j] ys[j]) (h:Q (.bool true) s) :
   wpAny (model P w) A (richCompare .Eq (.ref l) (.ref b)) Q E s:=by
 obtain ⟨⟨cls,dd,data,sl⟩,ho,hc,n,hd⟩:=id hl
 obtain ⟨⟨cls2,dd2,data2,sl2⟩,ho2,hc2,n2,hd2⟩:=id hb
 obtain rfl:cls=.type "list" := hc
 obtain rfl:data=.seq xs n:=hd
 obtain rfl:cls2=.type "list" := hc2
 obtain rfl:data2=.seq ys n2:=hd2
 have g:MeetsIn P w (Builtin.«list.__eq__» ⟨[.ref l,.ref b],[]⟩) (λA R s=>s.heap.get? l=some ⟨.type "list",dd,.seq xs n,sl⟩/\s.heap.get? b=some ⟨.type "list",dd2,.seq ys n2,sl2⟩/\(∀ j (h1:j < xs.size) (h2:j < ys.size),EqW P w A.in1 s xs[j] ys[j])/\R (.ok (.ret (.bool true))) s):=by
   intro A R s h
   obtain ⟨hp,g,d,tk,os⟩:=s
   obtain ⟨ha,hq,he,h⟩:=h
   have f3:=AutoSeq1.sub_list_list
   have hne:¬ (xs.size != ys.size)=true:=by simp [hsz]
   wp_walk using (Bv ha),(Bv hq)
   refine ⟨plainId_quiet plain_eq_loop _,Fu entry_eq_loop ?_⟩
   rw [Fg plain_eq_loop _]
   exact aX7 l b xs ys n n2 dd dd2 sl sl2 hsz _ 0 rfl A R _ ⟨ha,hq,he,h⟩
 exact wpAny_richCompare_same_room (op:=.Eq) ⟨_,ho,rfl⟩ ⟨_,ho2,rfl⟩ PySem.F.slot_list_eq (Fk PySem.F.slot_list_eq ⟨_,ho,rfl⟩ PySem.F.entry_list_eq (PySem.F.args_list_eq_2 _ _) g ⟨ho,ho2,he,show Value.bool true≠Value.notImplemented/\Q (.bool true) s from ⟨(λx=>nomatch x),h⟩⟩) hu
theorem cZ6 {Q:Value->Shared->Prop} (hl:s.heap.IsList l xs) (hb:s.heap.IsList b ys) (hsz:xs.size=ys.size) (hu:A.units < cLine) (he:∀ j (h1:j < xs.size) (h2:j < ys.size),EqW P w A.in1 s xs[j] ys[j]) (h:Q (.bool false) s) :
   wpAny (model P w) A (richCompare .NotEq (.ref l) (.ref b)) Q E s:=by
 obtain ⟨⟨cls,dd,data,sl⟩,ho,hc,n,hd⟩:=id hl
 obtain ⟨⟨cls2,dd2,data2,sl2⟩,ho2,hc2,n2,hd2⟩:=id hb
 obtain rfl:cls=.type "list" := hc
 obtain rfl:data=.seq xs n:=hd
 obtain rfl:cls2=.type "list" := hc2
 obtain rfl:data2=.seq ys n2:=hd2
 have g:MeetsIn P w (Builtin.«list.__ne__» ⟨[.ref l,.ref b],[]⟩) (λA R s=>s.heap.get? l=some ⟨.type "list",dd,.seq xs n,sl⟩/\s.heap.get? b=some ⟨.type "list",dd2,.seq ys n2,sl2⟩/\(∀ j (h1:j < xs.size) (h2:j < ys.size),EqW P w A.in1 s xs[j] ys[j])/\R (.ok (.ret (.bool false))) s):=by
   intro A R s h
   obtain ⟨hp,g,d,tk,os⟩:=s
   obtain ⟨ha,hq,he,h⟩:=h
   have f3:=AutoSeq1.sub_list_list
   have hne:¬ (xs.size != ys.size)=true:=by simp [hsz]
   wp_walk using (Bv ha),(Bv hq)
   refine ⟨plainId_quiet plain_eq_loop _,Fu entry_eq_loop ?_⟩
   rw [Fg plain_eq_loop _]
   exact aJP l b xs ys n n2 dd dd2 sl sl2 hsz _ 0 rfl A R _ ⟨ha,hq,he,h⟩
 exact wpAny_richCompare_same_room (op:=.NotEq) ⟨_,ho,rfl⟩ ⟨_,ho2,rfl⟩ PySem.F.slot_list_ne (Fk PySem.F.slot_list_ne ⟨_,ho,rfl⟩ PySem.F.entry_list_ne (PySem.F.args_list_ne_2 _ _) g ⟨ho,ho2,he,show Value.bool false≠Value.notImplemented/\Q (.bool false) s from ⟨(λx=>nomatch x),h⟩⟩) hu
theorem EqW.same (u:Value):EqW P w A s u u:=λE Q hq=>SeqAt.EqAt.same u P w E Q hq
theorem EqW.refs (hne:l≠b) (h:∀ (E:Value->Shared->Prop) (Q:Value->Shared->Prop),Q (.bool true) s->wpAny (model P w) A (richCompare .Eq (.ref l) (.ref b)) Q E s):EqW P w A s (.ref l) (.ref b):=λE Q hq=>by
 unfold eqBool
 refine Cm (wpAny_ite_split (λhab=>absurd (by have:=eq_of_beq hab; injection this) hne) (λ_=>?_))
 exact Ae (h E _ (Fb hq))
end
def DEq (kvs kws:List (Key × V)):Prop:=kvs.length=kws.length/\∀ kv∈kvs,bV kv.2=true/\bX kws kv.1=some kv.2
theorem aXN {A:Around} {s:Shared} {kws:List (Key × V)} {ws:List (Key × Value)} (rw':KV kws ws) {kvs:List (Key × V)} {vs:List (Key × Value)} (r:KV kvs vs) (h:∀ kv∈kvs,bV kv.2=true/\bX kws kv.1=some kv.2):PySem.W.KeqHits A s ws vs true:=by
 unfold KV at r
 induction r with
 | nil=>exact .nil
 | @cons kv vv _ _ hk t ih=>
   obtain ⟨k,v⟩:=kv
   obtain ⟨k',u⟩:=vv
   obtain ⟨e,ru⟩:=hk
   cases e
   obtain ⟨f,hv⟩:=h (k,v) (Al ..)
   have ro:=rw'.val k
   rw [hv] at ro
   cases ey:valueAt ws k with
   | none=>rw [ey] at ro; exact (show False from ro).elim
   | some y=>
     rw [ey] at ro
     have eq:=mV (A:=A) (s:=s) ru (show RelV v y from ro) f f
     rw [jQ f] at eq
     exact .hit (e:=true) (b:=true) ey eq (ih λkv hkv=>h kv (Am _ hkv))
theorem cXH {X:Cx} {pins:List (Addr × Obj)} {σ:St} {H:Hp} {s:Shared} (I:Inv X pins σ H s) {A:Around} {p q:Addr} {kvs kws:List (Key × V)} (hp:Rd H p (.dK kvs)) (hq:Rd H q (.dK kws)) (d:DEq kvs kws) (hu:A.units < cLine) (E:Value->Shared->Prop) (Q:Value->Shared->Prop) :
   (Q (.bool true) s->wpAny (model X.prog X.w) A (richCompare .Eq (.ref p) (.ref q)) Q E s)/\(Q (.bool false) s->wpAny (model X.prog X.w) A (richCompare .NotEq (.ref p) (.ref q)) Q E s):=by
 obtain ⟨z1,d1,vs,r1,dd1⟩:=gY I.hok hp
 obtain ⟨z2,d2,ws,r2,dd2⟩:=gY I.hok hq
 have hl:(vs.length == ws.length)=true:=beq_iff_eq.mpr (by rw [<-r1.length,<-r2.length]; exact d.1)
 refine ⟨λh=>PySem.W.keq_eq (r:=true) d1 d2 dd1 dd2 hu (λ_=>aXN r2 r1 d.2) (by rw [hl]; exact h),λh=>PySem.W.keq_ne (r:=true) d1 d2 dd1 dd2 hu (λ_=>aXN r2 r1 d.2) (by rw [hl]; exact h)⟩
def Alw (H:Hp):Nat->V->V->Prop
 | 0,x,y=>x=y/\bV x=true
 | n + 1,x,y=>(x=y/\bV x=true)\/∃ p q,x=.ref p/\y=.ref q/\((∃ xs ys,rdL H p=some xs/\rdL H q=some ys/\xs.length=ys.length/\∀ (j:Nat) x' y',xs[j]?=some x'->ys[j]?=some y'->Alw H n x' y')\/∃ kvs kws,Rd H p (.dK kvs)/\Rd H q (.dK kws)/\DEq kvs kws)
theorem Alw.flat {H:Hp} {n:Nat} {x:V} (h:bV x=true):Alw H n x x:=by
 cases n with
 | zero=>exact ⟨rfl,h⟩
 | succ n=>exact .inl ⟨rfl,h⟩
theorem Alw.lst {H:Hp} {n:Nat} {p q:Addr} {xs ys:List V} (hp:rdL H p=some xs) (hq:rdL H q=some ys) (hl:xs.length=ys.length) (h:∀ (j:Nat) x y,xs[j]?=some x->ys[j]?=some y->Alw H n x y):Alw H (n + 1) (.ref p) (.ref q):=.inr ⟨p,q,rfl,rfl,.inl ⟨xs,ys,hp,hq,hl,h⟩⟩
theorem Alw.dic {H:Hp} {n:Nat} {p q:Addr} {kvs kws:List (Key × V)} (hp:Rd H p (.dK kvs)) (hq:Rd H q (.dK kws)) (d:DEq kvs kws):Alw H (n + 1) (.ref p) (.ref q):=.inr ⟨p,q,rfl,rfl,.inr ⟨kvs,kws,hp,hq,d⟩⟩
theorem Alw.flats {H:Hp} {n:Nat} {xs:List V} (f:xs.all bV=true):∀ (j:Nat) x y,xs[j]?=some x->xs[j]?=some y->Alw H n x y:=λj x y hx hy=>by
 rw [hx] at hy
 cases hy
 exact .flat (Dk.mp f x (Ai hx))
theorem yL {X:Cx} {pins:List (Addr × Obj)} {σ:St} {H:Hp} {s:Shared} (I:Inv X pins σ H s) {n:Nat} {A:Around} (ih:∀ x y u v,Alw H n x y->RelV x u->RelV y v->EqW X.prog X.w A.in1 s u v) {p q:Addr} (h:Alw H (n + 1) (.ref p) (.ref q)) (hu:A.units < cLine) (E:Value->Shared->Prop) (Q:Value->Shared->Prop) :
   (Q (.bool true) s->wpAny (model X.prog X.w) A (richCompare .Eq (.ref p) (.ref q)) Q E s)/\(Q (.bool false) s->wpAny (model X.prog X.w) A (richCompare .NotEq (.ref p) (.ref q)) Q E s):=by
 rcases h with ⟨_,f⟩ | ⟨p',q',e1,e2,hpq⟩
 · cases f
 · cases e1
   cases e2
   rcases hpq with ⟨xs,ys,hp,hq,hl,h⟩ | ⟨kvs,kws,hp,hq,d⟩
   · obtain ⟨its,r1,l1,_⟩:=I.list (bD hp)
     obtain ⟨its2,r2,l2,_⟩:=I.list (bD hq)
     have e1:=r1.length
     have e2:=r2.length
     have he:∀ j (h1:j < its.toArray.size) (h2:j < its2.toArray.size),EqW X.prog X.w A.in1 s its.toArray[j] its2.toArray[j]:=λj h1 h2=>by
       have h1':j < its.length:=by simpa using h1
       have h2':j < its2.length:=by simpa using h2
       obtain ⟨u',hu',ru'⟩:=r1.get (Aa (show j < xs.length by omega))
       obtain ⟨v',hv',rv'⟩:=r2.get (Aa (show j < ys.length by omega))
       rw [Aa h1'] at hu'
       rw [Aa h2'] at hv'
       cases hu'
       cases hv'
       simpa using ih _ _ _ _ (h j _ _ (List.getElem?_eq_getElem _) (List.getElem?_eq_getElem _)) ru' rv'
     have hs:its.toArray.size=its2.toArray.size:=by simp only [List.size_toArray]; omega
     exact ⟨λq=>dQD l1.isList l2.isList hs hu he q,λq=>cZ6 l1.isList l2.isList hs hu he q⟩
   · exact cXH I hp hq d hu E Q
theorem bZH {X:Cx} {pins:List (Addr × Obj)} {σ:St} {H:Hp} {s:Shared} (I:Inv X pins σ H s):∀ (n:Nat) (A:Around) (x y:V) (u v:Value),Alw H n x y->RelV x u->RelV y v->A.units + n < cLine->EqW X.prog X.w A s u v:=by
 intro n
 induction n with
 | zero=>
   intro A x y u v h ru rv hu
   obtain ⟨rfl,f⟩:=h
   have:=mV (A:=A) (s:=s) ru rv f f
   rw [jQ f] at this
   exact λE Q hq=>this X.prog X.w E Q hq
 | succ n ih=>
   intro A x y u v h ru rv hu
   rcases id h with ⟨rfl,f⟩ | ⟨p,q,rfl,rfl,hpq⟩
   · have:=mV (A:=A) (s:=s) ru rv f f
     rw [jQ f] at this
     exact λE Q hq=>this X.prog X.w E Q hq
   · cases ru
     cases rv
     by_cases e:p=q
     · subst e
       exact .same _
     exact .refs e λE Q hq=>(yL I (λx y u v hx hu' hv'=>ih A.in1 x y u v hx hu' hv' (by show A.units + 1 + n < cLine; omega)) h (by omega) E Q).1 hq
section
variable {X:Cx}
def cJ0 (neg:Bool):R2:=λx y H Q=>∃ n p q,n<=50/\x=.ref p/\y=.ref q/\Alw H (n + 1) x y/\Q (.bl (!neg)) H
theorem bXG (hu:X.A.units + 64 < cLine):OpR X (compareOp .Eq) (cJ0 false):=by
 intro pins s σ H x y v u Q I rx ry h
 obtain ⟨n,p,q,hn,rfl,rfl,al,k⟩:=h
 cases rx
 cases ry
 exact (yL I (λx y u v hx hu' hv'=>bZH I n X.A.in1 x y u v hx hu' hv' (by show X.A.units + 1 + n < cLine; omega)) al (by omega) _ _).1 ⟨.bl true,H,I,rfl,k⟩
theorem cZA (hu:X.A.units + 64 < cLine):OpR X (compareOp .NotEq) (cJ0 true):=by
 intro pins s σ H x y v u Q I rx ry h
 obtain ⟨n,p,q,hn,rfl,rfl,al,k⟩:=h
 cases rx
 cases ry
 exact (yL I (λx y u v hx hu' hv'=>bZH I n X.A.in1 x y u v hx hu' hv' (by show X.A.units + 1 + n < cLine; omega)) al (by omega) _ _).2 ⟨.bl false,H,I,rfl,k⟩
theorem tB {neg:Bool} {p q:Addr} {H:Hp} {Q:VK} (n:Nat) (al:Alw H (n + 1) (.ref p) (.ref q)) (h:Q (.bl (!neg)) H) (hn:n<=50:=by omega):cJ0 neg (.ref p) (.ref q) H Q:=⟨n,p,q,hn,rfl,rfl,al,h⟩
end
section
variable {X:Cx} {e:Expr} {te:TE} {p2 pos pu pc:Pos} {j:Nat}
end
theorem Room.u1 {k:Nat} {A:Around} (r:Room k A):A.units + 1 < cLine:=by have:=r.un; omega
section
variable {X:Cx} {pu pc:Pos} {j:Nat}
end
theorem dJD {Hs H:Hp} {D:Ends} {σ:St} (h:D.nx σ (unf Hs H)):(aX3 Hs D).nx σ H:=h
end L2
set_option maxHeartbeats 4000000
namespace L2
open PySem PySem.Spec PyProof.Rows
open PySem.AutoSeq1 (wpAny_loadPart')
section
variable {prog:Program} {w:World} {A:Around} {E:Value->Shared->Prop} {s:Shared}
end
section
variable {X:Cx}
def bJA:List V->Hp->VK->Prop:=λxs H Q=>∃ (a:Addr) (kvs:List (Key × V)) (ss:List Str),xs=[.ref a]/\Rd H a (.dK kvs)/\kvs.map (·.1)=ss.map Sum.inr/\kvs.length < 64/\∀ r (ss':List Str),H r=none->ss'.Perm ss->Q (.ref r) (upd H r (.lst (ss'.map V.str)))
theorem aX0:∀ {vs:List Value} {ss:List Str},StrsAre vs ss->Vals (ss.map V.str) vs:=by
 intro vs ss h
 induction h with
 | nil=>exact .nil
 | cons x t _ ih=>exact .cons ⟨t,rfl⟩ ih
theorem aXA:∀ {vs:List Value} {ss:List Str},vs.length=ss.length->(∀ (j:Nat) v x,vs[j]?=some v->ss[j]?=some x->∃ t,v=.str x t)->StrsAre vs ss
 | [],[],_,_=>.nil
 | v :: r,x :: y,hl,h=>by
   obtain ⟨t,e⟩:=h 0 v x rfl rfl
   subst e
   exact .cons x t (aXA (by simpa using hl) λj v' x' a b=>h (j + 1) v' x' (by simpa using a) (by simpa using b))
 | [],_ :: _,hl,_=>absurd hl (by simp)
 | _ :: _,[],hl,_=>absurd hl (by simp)
theorem dXP (hc:X.calm=true):CallR X (.builtin "sorted") bJA:=by
 intro pins s σ H xs us Q I r h
 obtain ⟨a,kvs,ss,rfl,ha,hk,h64,q⟩:=h
 obtain ⟨u,rfl,ru⟩:=gR r
 cases ru
 obtain ⟨z,hd,vs,rel,dd⟩:=gY I.hok ha
 obtain ⟨ep,hat⟩:=dd.dictAt
 have hlv:=rel.length
 refine Calls.call_function_entry kind_sorted plain_sorted entry_sorted (args_sorted1 _) ?_
 unfold Builtin.«sorted»
 refine Ae (m:=checkCount "sorted" 1 1 _) (An (Ae (PySem.W.kdu_collect (A:=X.A.in1) (PySem.W.kdl_dict (knd:=bB X.prog X.w) (kvs:=vs) (ep:=ep) hd) (I.ok.hd hc) hat (by omega) λh' tk acc hk' hacc=>?_)))
 have hl:acc.toList.length=vs.length:=by rw [Do]; exact hacc.1
 have I1:Inv X pins σ H { s with heap:=h',toks:=tk }:=I.kept hk'
 have hsl:ss.length=kvs.length:=by have:=Dq List.length hk; rw [Ab,Ab] at this; exact this.symm
 have hS:StrsAre acc.toList ss:=aXA (by omega) λj v x hv hx=>by
   obtain ⟨k,y,e1,e2⟩:=hacc.2 j v (by rw [<-Df]; exact hv)
   have hk2:(kvs.map (·.1))[j]?=some k:=by rw [rel.keys,Ah,e1]; rfl
   rw [hk,Ah,hx] at hk2
   cases hk2
   exact bQY e2
 refine Ae (wpAny_newList ?_ (by rw [hl]; omega))
 have hoL:(h'.push { cls:=.type "list",data:=.seq acc.toList.toArray }).get? h'.objs.size=some (seqObj "list" acc.toList.toArray 0):=Ax _ rfl
 refine Ae (Cm (Fl PyProof.Rows.slot_list_sort ⟨_,hoL,rfl⟩ PyProof.Rows.entry_list_sort (list_sort_treeK strKind_oneLt hoL hS.keysOf (λv1 v2 rest e=>keyKind_strs (by rw [<-e]; exact hS)) (by omega) λst' a1 a2=>⟨_,rfl,?_⟩) (PyProof.Rows.args_list_sort _)))
 obtain ⟨ss',b1,b2,_⟩:=sorted_out_str hS a1 a2
 obtain ⟨c,hcc⟩:=sortedHeap_at (vs:=acc.toList) (out:=(arrOf st').map (·.2)) hoL
 refine An ⟨_,rfl,.ref h'.objs.size,upd H h'.objs.size (.lst (ss'.map V.str)),I1.laid (a:=h'.objs.size) (o:=.lst (ss'.map V.str)) (t':=tk) (λb o e=>?_) (Ag _) ?_,rfl,q _ ss' (I1.hok.fresh (Ag _)) b2⟩
 · have hlt:=Aq e
   refine (sortedHeap_old (Bk hlt) (Aq (Af _ e))).trans (Af _ e)
 · have:=b2.length_eq
   refine ⟨by rw [Ab]; exact Nat.le_of_lt (bC (by omega)),_,c,aX0 b1,?_⟩
   rw [hcc]
def bXZ:List V->Hp->VK->Prop:=λxs H Q=>∃ (a:Addr) (kvs:List (Key × V)),xs=[.ref a]/\Rd H a (.dK kvs)/\∀ r,H r=none->Q (.ref r) (upd H r (.lst (kvs.map λkv=>kV kv.1)))
theorem uL:∀ {xs:List V} {us:List Value},us.length=xs.length->(∀ (j:Nat) x u,xs[j]?=some x->us[j]?=some u->RelV x u)->Vals xs us
 | [],[],_,_=>.nil
 | x :: r,u :: t,hl,h=>.cons (h 0 x u rfl rfl) (uL (by simpa using hl) λj x' u' a b=>h (j + 1) x' u' (by simpa using a) (by simpa using b))
 | [],_ :: _,hl,_=>absurd hl (by simp)
 | _ :: _,[],hl,_=>absurd hl (by simp)
theorem bJP (hc:X.calm=true):CallR X (.type "list") bXZ:=by
 intro pins s σ H xs us Q I r h
 obtain ⟨a,kvs,rfl,ha,q⟩:=h
 obtain ⟨u,rfl,ru⟩:=gR r
 cases ru
 obtain ⟨z,hd,vs,rel,dd⟩:=gY I.hok ha
 obtain ⟨ep,hat⟩:=dd.dictAt
 have hlv:=rel.length
 refine PySem.W.kdl_call (A:=X.A) (PySem.W.kdl_dict (knd:=bB X.prog X.w) (kvs:=vs) (ep:=ep) hd) (I.ok.hd hc) hat (by omega) λh' tk acc c hk hD hacc=>?_
 refine ⟨.ref s.heap.objs.size,_,I.laid (a:=s.heap.objs.size) (o:=.lst (kvs.map λkv=>kV kv.1)) (t':=tk) hk (Ag _) ⟨by rw [Ab]; exact z,acc.toList,c,?_,by rw [hD]⟩,rfl,q _ (I.hok.fresh (Ag _))⟩
 refine uL (by rw [Ab,Do,hacc.1]; omega) λj x u hx hu=>?_
 obtain ⟨k,y,e1,e2⟩:=hacc.2 j u (by rw [<-Df]; exact hu)
 have hk2:(kvs.map (·.1))[j]?=some k:=by rw [rel.keys,Ah,e1]; rfl
 rw [Ah] at hx hk2
 cases e3:kvs[j]? with
 | none=>rw [e3] at hx; cases hx
 | some kv=>
   rw [e3] at hx hk2
   cases hx
   cases hk2
   exact bQY e2
theorem bJM {a:Addr} {kvs:List (Key × V)} {H:Hp} {Q:VK} (ha:Rd H a (.dK kvs)) (h:∀ r,H r=none->Q (.ref r) (upd H r (.lst (kvs.map λkv=>kV kv.1)))):bXZ [.ref a] H Q:=⟨a,kvs,rfl,ha,h⟩
end
end L2
set_option maxHeartbeats 4000000
namespace L2
open PySem PySem.Spec PyProof.Rows PySem.W
section
variable {prog:Program} {w:World} {A:Around} {E:Value->Shared->Prop} {s:Shared} {K:Frag} {x D:Addr} {ox:Obj} {od:Option Obj}
theorem cXA {name:Str} {v:Value} {expr:Bool} {Q:Value->Shared->Prop} (Z:ExK K D) (X:K.In s.heap) (I:InstAt s.heap x ox D od) (hf:findObj K D od name=some (.value v)) (hh:handedIn v=true) (h:Q v { s with toks:=s.toks + 1 }) :
   wpAny (model prog w) A (getAttr (.ref x) name expr) Q E s:=by
 obtain ⟨hp,g,d,t,os⟩:=s
 have L0:=I.type (M:=model prog w)
 have L1:=looks_findIn (M:=model prog w) X Z.ga
 have L2:=looks_findIn (M:=model prog w) X Z.gh
 have L3:=looks_find (M:=model prog w) X I hf
 unfold getAttr getAttrBy
 refine Ae (wpAny_mkText (Cm (Ae (L0.at (Ae (L1.at ?_))))))
 have ne:(Value.builtin "BaseException.__getattribute__" == Value.builtin "object.__getattribute__")=false:=by decide +kernel
 have fb:=F.excAttr_ValueError.ga.bind (.ref x)
 dsimp only
 rw [ne,Bool.and_false,if_neg Ao]
 unfold getAttrByItsOwn hookBefore
 rw [if_pos (show onTheHeap (Value.ref D)=true from rfl)]
 refine Ae (L2.at (Ae (wpAny_attempt (Cm ?_))))
 unfold callGetattribute boundAndCalled
 rw [if_neg (by rw [show onTheHeap (Value.builtin "BaseException.__getattribute__")=false from rfl,Bool.and_false]; exact Ao)]
 refine Ae (wpAny_of_eq fb ?_)
 refine Ge (Eh F.excAttr_ValueError.ga.plain F.entry_bexc_ga (aZE Z X I ?_))
 unfold Builtin.«object.__getattribute__»
 refine Ae (An (Ae (An (Ae (L0.at (Ae (L3.at ?_)))))))
 refine An ?_
 exact handed_on hh h
theorem bZV {e t0:Addr} {oe:Obj} {vs:Array Value} {rest:List Value} {Q:Value->Shared->Prop} (Z:ExK K D) (X:K.In s.heap) (I:InstAt s.heap e oe D od) (hb:PySem.W.subIn K (.ref D) (.type "ValueError")=some true) (hd:oe.data=.fields vs) (h0:vs[0]?=some (.ref t0)) (hr:rest.length<=sizeLine)
   (h:Q .none { s with heap:=(s.heap.push { cls:=.type "tuple",data:=.seq rest.toArray }).update e (Obj.mapFields (·.setIfInBounds 0 (.ref s.heap.objs.size))) }) :
   wpAny (model prog w) A (call (.builtin "ValueError.__init__") (.ref e :: rest)) Q E s:=by
 have he:=I.at_
 obtain ⟨cd,hc,_⟩:=any_some Z.cls
 have FB:=Fh
 have L0:=I.type (M:=model prog w)
 have L1:=looks_subIn (M:=model prog w) X hb
 refine Ge (Eh FB.init.plain FB.initEntry ?_)
 have ck:∀ (Q:Unit->Shared->Prop) (E:Value->Shared->Prop) (B:Around),Q () s->wpAny (model prog w) B (checkBuiltinCall "ValueError.__init__" ⟨.ref e :: rest,[]⟩) Q E s:=λQ E B hq=>by
   simp only [checkBuiltinCall,FB.initKind,FB.initSplit,FB.initRow]
   refine Ae ((L0.andThen L1).at ?_)
   have hst:=FB.noStar
   have sg:∀ (a b:String) (n:Nat),Bind.check ⟨.positional, "*", "ValueError",.self,[⟨"args",.varPos,false⟩]⟩ a b n (List.map (λx=>x.fst) ({ pos:=Value.ref e :: rest }:Args).kw)=pure ():=λa b n=>check_star_args _ _ _ _ _ _
   repeat (first | wp_step)
   rw [I.cls]
   refine Ae ((looks_clsIn X hc).at (An ?_))
   repeat (first | wp_step)
   refine wpAny_onRaise ?_
   rw [sg]
   exact An hq
 refine ck _ _ _ ?_
 have hs0:0 < vs.size:=(Cj.mp h0).1
 have hg:=Af (h:=s.heap) { cls:=.type "tuple",data:=.seq rest.toArray } he
 unfold Builtin.«BaseException.__init__» newTuple Builtin.BaseException.bexcPut
 dsimp only
 rw [if_neg (by simp)]
 refine Ae (Gc (Ae (Ae (Fy hg hd h0 (Ae (Gd hg hd hs0 (wpAny_letGo (An h))))))) (by show rest.toArray.size<=sizeLine; rw [Bq]; exact hr))
def yG (K:Frag) (D:Addr):Option (List Value):=(clsIn K D).map (·.mro)
theorem xM {T dx:Addr} {name:Str} {v:Value} {h1:Heap} {m:Str->Option Value} {ns:List Str} {Q:Unit->Shared->Prop} (Z:ExK K D) (X:K.In s.heap) (I:InstAt s.heap x ox D od)
   (hs:findIn K (.ref D) "__setattr__"=some (some (.builtin "object.__setattr__"))) (hm:yG K D=some [.ref D,.ref T,.type "ValueError",.type "Exception",.type "BaseException",.type "object"]) (hna:findIn K (.ref D) name=some none)
   (hi:∀ (B:Around) (Q':Option Addr->Shared->Prop) (E':Value->Shared->Prop),Q' (some dx) { s with heap:=h1,toks:=s.toks + 1 }->wpAny (model prog w) B (instanceDict x true) Q' E' { s with toks:=s.toks + 1 })
   (hn:h1.Ns1 dx m) (hw:Within m ns) (hz:ns.length < sizeLine)
   (h:∀ h' tk',h'.Ns1 dx (λy=>if y=name then some v else m y)->Heap.SameBut dx h1 h'->Q () { s with heap:=h',toks:=tk' }) :
   wpAny (model prog w) A (setAttr (.ref x) name v) Q E s:=by
 obtain ⟨cd,hc,hd'⟩:=any_some Z.cls
 have hmr:cd.mro=[.ref D,.ref T,.type "ValueError",.type "Exception",.type "BaseException",.type "object"]:=by
   unfold yG at hm
   rw [hc] at hm
   exact Bi hm
 have SF:=PySem.F.store_ValueError
 have sub:Looks (model prog w) s.heap (isInstance (.ref x) (.type "object")) true:=I.type.andThen (looks_mroIn X Z.mo)
 have hmm:Looks (model prog w) s.heap (mroOf (.ref D)) cd.mro:=(looks_clsIn X hc).andThen .now
 have hx:=I.at_
 refine set_plain X I hs ?_
 refine Eh SF.slot.plain SF.entry (@check_slot (model prog w) _ _ { s with toks:=s.toks + 1 } "object.__setattr__" "object" "__setattr__" (.ref x) [.str name s.toks,v] [] _ SF.kind SF.split sub (SF.args (.ref x) (.str name s.toks) v) ?_)
 rw [osa_eq,refuse_eq]
 refine Ae (Ae (I.type.here (s:={ s with toks:=s.toks + 1 }) (Ae (hmm.here (s:={ s with toks:=s.toks + 1 }) ?_))))
 rw [hmr,refuseLoop_ref,refuseLoop_ref,SF.passes]
 refine An (Ae (I.type.here (s:={ s with toks:=s.toks + 1 }) (Ae ((looks_findIn X hna).here (s:={ s with toks:=s.toks + 1 }) (Ae (An ?_))))))
 show wpAny (model prog w) A.in1 (Builtin.ObjectAttr.storeInOwnDict (Value.ref x) (Value.ref D) (Value.str name s.toks) name v false) _ _ _
 unfold Builtin.ObjectAttr.storeInOwnDict
 refine Ae (An ?_)
 rw [if_neg (show ¬ ((Value.ref D == Value.type "module")=true) by simp)]
 unfold Builtin.ObjectAttr.ownDictForStores
 refine Ae (hi _ _ _ ?_)
 show wpAny (model prog w) A.in1 (Builtin.ObjectAttr.storeInDict dx (Value.str name s.toks) name v) _ _ _
 unfold Builtin.ObjectAttr.storeInDict Builtin.ObjectAttr.newKeyGuard
 refine Ae (An (Ae (wpAny_nsSet1 hn λh' hn' sb=>?_)))
 obtain ⟨oD,esD,epD,hoD,hdD,hcD⟩:=hn'.count (Within.cons name v hw)
 refine Ae (wpAny_lookBehind hoD (by rw [hdD]; exact pastItsLine_dict (Bf hcD (by rw [Be]; omega))) ?_)
 exact An (h h' _ hn' sb)
theorem bJH {T:Addr} {name:Str} {v:Value} {vs:Array Value} {Q:Unit->Shared->Prop} (Z:ExK K D) (X:K.In s.heap) (I:InstAt s.heap x ox D none) (hda:ox.data=.fields vs) (hdn:ox.dict=none)
   (hs:findIn K (.ref D) "__setattr__"=some (some (.builtin "object.__setattr__"))) (hm:yG K D=some [.ref D,.ref T,.type "ValueError",.type "Exception",.type "BaseException",.type "object"]) (hna:findIn K (.ref D) name=some none)
   (h:∀ h' tk',h'.get? x=some { ox with dict:=some s.heap.objs.size }->h'.Ns1 s.heap.objs.size (λy=>if y=name then some v else none)->(∀ b o,b≠x->s.heap.get? b=some o->h'.get? b=some o)->Q () { s with heap:=h',toks:=tk' }) :
   wpAny (model prog w) A (setAttr (.ref x) name v) Q E s:=by
 obtain ⟨cd,hc,hd'⟩:=any_some Z.cls
 have hx:=I.at_
 have hx1:(s.heap.push { cls:=.type "dict",data:=.dict #[] }).get? x=some ox:=Af _ hx
 have hxs:x≠s.heap.objs.size:=Bk (Aq hx)
 have hgd:((s.heap.push { cls:=.type "dict",data:=.dict #[] }).update x λo=>{ o with dict:=some s.heap.objs.size }).get? s.heap.objs.size=some { cls:=.type "dict",data:=.dict #[] } :=
   (Heap.get?_update_ne _ _ _ _ hxs.symm).trans (Heap.get?_push_at rfl rfl)
 have hnd:((s.heap.push { cls:=.type "dict",data:=.dict #[] }).update x λo=>{ o with dict:=some s.heap.objs.size }).Ns s.heap.objs.size (λ_=>none) :=
   ⟨_,#[],_,hgd,rfl,λe he=>absurd he (by simp),λ_=>rfl⟩
 have hxu:((s.heap.push { cls:=.type "dict",data:=.dict #[] }).update x λo=>{ o with dict:=some s.heap.objs.size }).get? x=some { ox with dict:=some s.heap.objs.size }:=by
   refine Heap.get?_update_self _ hx1 ?_
   obtain ⟨a,b,c,d⟩:=ox
   cases hda
   rfl
 refine xM Z X I hs hm hna (λB Q' E' q=>?_) (Heap.Ns1.of_empty hnd) Within.nil (by rw [List.length_nil,sizeLine_eq]; omega) λh' tk' n sb=>h h' tk' ((sb.2 x hxs).trans hxu) n λb o hb e=>
   (sb.2 b (Bk (Aq e))).trans ((Heap.get?_update_ne _ _ _ _ hb).trans (Af _ e))
 unfold instanceDict
 refine Ae (wpAny_loadPart hx ?_)
 rw [I.cls]
 refine Ae ((looks_clsIn X hc).here (s:={ s with toks:=s.toks + 1 }) ?_)
 rw [hd',hdn,hda,if_neg (show ¬ ((!true)=true) by decide)]
 dsimp only
 rw [if_neg (show ¬ ((!true || !typeHasDict (Value.ref D))=true) by simp [typeHasDict])]
 exact Ae (wpAny_alloc' (Ae (wpAny_update' hx1 (An q))))
theorem bZ0 {T dx:Addr} {name:Str} {v:Value} {m:Str->Option Value} {ns:List Str} {odx:Obj} {Q:Unit->Shared->Prop} (Z:ExK K D) (X:K.In s.heap) (I:InstAt s.heap x ox D (some odx)) (hdn:ox.dict=some dx)
   (hs:findIn K (.ref D) "__setattr__"=some (some (.builtin "object.__setattr__"))) (hm:yG K D=some [.ref D,.ref T,.type "ValueError",.type "Exception",.type "BaseException",.type "object"]) (hna:findIn K (.ref D) name=some none)
   (hn:s.heap.Ns1 dx m) (hw:Within m ns) (hz:ns.length < sizeLine)
   (h:∀ h' tk',h'.Ns1 dx (λy=>if y=name then some v else m y)->Heap.SameBut dx s.heap h'->Q () { s with heap:=h',toks:=tk' }) :
   wpAny (model prog w) A (setAttr (.ref x) name v) Q E s:=by
 obtain ⟨cd,hc,hd'⟩:=any_some Z.cls
 refine xM Z X I hs hm hna (λB Q' E' q=>?_) hn hw hz h
 unfold instanceDict
 refine Ae (wpAny_loadPart I.at_ ?_)
 rw [I.cls]
 refine Ae ((looks_clsIn X hc).here (s:={ s with toks:=s.toks + 1 }) ?_)
 rw [hd',hdn,if_neg (show ¬ ((!true)=true) by decide)]
 exact An q
end
end L2
set_option maxHeartbeats 4000000
namespace L2
open PySem PySem.Spec PyProof.Rows PySem.W
def eV (ea C:Addr) (d:Option Addr):HO:=.ext λh=>∃ oe vs t0,h.get? ea=some oe/\oe.cls=.ref C/\oe.dict=d/\oe.data=.fields vs/\vs[1]?=some .none/\vs[0]?=some (.ref t0)/\vs[2]?=some .none
def xdO (dx:Addr) (fs:List (Str × V)):HO:=.ext λh=>∃ mA,h.Ns1 dx mA/\(∀ f,RelO (fs.lookup f) (mA f))/\Within mA (fs.map (·.1))
theorem vD {P:Program} {w:World} {H:Hp} {h:Heap} {ea C:Addr} {d:Option Addr} {oe:Obj} {vs:Array Value} {t0:Addr} (g:h.get? ea=some oe) (c:oe.cls=.ref C) (di:oe.dict=d) (da:oe.data=.fields vs) (h1:vs[1]?=some .none) (h0:vs[0]?=some (.ref t0)) (c2:vs[2]?=some .none) :
   ObjOk P w H h ea (eV ea C d):=⟨⟨oe,vs,t0,g,c,di,da,h1,h0,c2⟩,⟨oe,g⟩,λ_ _ ⟨o,ws,t,g,q⟩ k=>⟨o,ws,t,k o g,q⟩⟩
theorem aJ0 {P:Program} {w:World} {H:Hp} {h:Heap} {dx:Addr} {fs:List (Str × V)} {mA:Str->Option Value} (n:h.Ns1 dx mA) (r:∀ f,RelO (fs.lookup f) (mA f)) (wi:Within mA (fs.map (·.1))):ObjOk P w H h dx (xdO dx fs):=by
 refine ⟨⟨mA,n,r,wi⟩,?_,λ_ _ ⟨m,⟨o,es,ep,g,q⟩,r⟩ k=>⟨m,⟨o,es,ep,k o g,q⟩,r⟩⟩
 obtain ⟨o,es,ep,g,_⟩:=n
 exact ⟨o,g⟩
structure XcK (K:Frag) (C T:Addr):Prop where
 ex:ExK K C
 sa:findIn K (.ref C) "__setattr__"=some (some (.builtin "object.__setattr__"))
 mro:yG K C=some [.ref C,.ref T,.type "ValueError",.type "Exception",.type "BaseException",.type "object"]
 vb:PySem.W.subIn K (.ref C) (.type "ValueError")=some true
def bQW (K:Frag) (C T:Addr):Bool:=(clsIn K C).any λc=>match c.mro with
 | [.ref a,.ref b,.type x,.type y,.type z,.type u]=>a == C && b == T && x == "ValueError" && y == "Exception" && z == "BaseException" && u == "object"
 | _=>false
theorem aQY {K:Frag} {C T:Addr} (h:bQW K C T=true):yG K C=some [.ref C,.ref T,.type "ValueError",.type "Exception",.type "BaseException",.type "object"]:=by
 obtain ⟨c,hc,h⟩:=any_some h
 unfold yG
 rw [hc]
 split at h
 · rename_i hm
   simp only [Bool.and_eq_true,beq_iff_eq] at h
   obtain ⟨⟨⟨⟨⟨rfl,rfl⟩,rfl⟩,rfl⟩,rfl⟩,rfl⟩:=h
   exact Dq some hm
 · cases h
theorem kN {P:Program} {w:World} {H:Hp} {h:Heap} {ea D:Addr} {d:Option Addr} {oe:Obj} {vs:Array Value} (hok:HOk P w H h) (g:h.get? ea=some oe) (hc:oe.cls=.ref D) (hdi:oe.dict=d) (hda:oe.data=.fields vs) (hd:∀ dx,d=some dx->∃ o,H dx=some o) :
   ∃ od,InstAt h ea oe D od:=by
 have no:notCls oe=true:=by
   obtain ⟨c,di,da,sl⟩:=oe
   cases hda
   rfl
 cases d with
 | none=>exact ⟨none,g,hc,no,by rw [hdi]; trivial⟩
 | some dx=>
   obtain ⟨o,z⟩:=hd dx rfl
   obtain ⟨ob,g2⟩:=(hok dx o z).get
   exact ⟨some ob,g,hc,no,by rw [hdi]; exact g2⟩
theorem dXI {H:Hp} {a:Addr} {o:HO} (e:H a=some o):upd H a o=H:=by
 funext b
 unfold upd
 split
 · rename_i z; rw [z,e]
 · rfl
def yN (K:Frag):List V->Hp->VK->Prop:=λvs H Q=>∃ ea rest C T d,vs=.ref ea :: rest/\rest.length<=sizeLine/\H ea=some (eV ea C d)/\(∀ dx,d=some dx->∃ o,H dx=some o)/\XcK K C T/\Q .non H
def bQJ (K:Frag) (t:TA):TE:=λσ H Q=>t σ H λvs H1=>yN K vs H1 Q
theorem cXC {X:Cx}:CallR X (.builtin "ValueError.__init__") (yN X.K):=by
 intro pins s σ H xs us Q I r h
 obtain ⟨ea,rest,C,T,d,rfl,hl,he,hd,Z,q⟩:=h
 cases r with
 | @cons _ _ _ l2 r0 rr=>
   cases r0
   obtain ⟨oe,vs,t0,g,hc,hdi,hda,h1,h0,c2⟩:=(I.hok ea _ he).1
   obtain ⟨od,hI⟩:=kN I.hok g hc hdi hda hd
   refine bZV Z.ex I.kIn hI Z.vb hda h0 (by rw [<-rr.length]; exact hl) ?_
   have g2:=Af (h:=s.heap) { cls:=.type "tuple",data:=.seq l2.toArray } g
   have hs0:0 < vs.size:=(Cj.mp h0).1
   have dm:=Fw hda (·.setIfInBounds 0 (Value.ref s.heap.objs.size))
   refine ⟨.non,H,?_,rfl,q⟩
   have I2:=I.write (x:=ea) (e:=ea) (o:=eV ea C d) (t':=s.toks) (by rw [he]; exact True.intro) (.inl rfl) (λb u hb z=>(By _ (Obj.mapFields (·.setIfInBounds 0 (Value.ref s.heap.objs.size))) (Ne.symm hb)).trans (Af _ z))
     ⟨_,Heap.get?_update_self _ g2 (Obj.isFreed_of_fields dm)⟩ (vD (Heap.get?_update_self _ g2 (Obj.isFreed_of_fields dm)) (by rw [Obj.cls_mapFields]; exact hc) (by rw [wI]; exact hdi) dm (by rw [Array.getElem?_setIfInBounds]; simp [h1]) (t0:=s.heap.objs.size) (by simp [hs0]) ((Array.getElem?_setIfInBounds_ne (by decide)).trans c2))
   rw [dXI he] at I2
   exact I2
section
variable {X:Cx} {x:Str} {T:Addr} {mc:Value} {e:Expr} {es:List Expr} {t:TA} {np apos pos:Pos}
theorem vT {pl:Sem Bool} (hg:Gl X x) (hm:X.mg x=some (.ref T)) (h1:specialIn X.K (.ref T) "__getattribute__"=some (some (.builtin "type.__getattribute__"))) (h2:readsIn X.K T mc=true)
   (h3:findCls X.K (.ref T) mc "__init__"=some (.val (.builtin "ValueError.__init__"))) (ha:PA X (e :: es) t) (hdb:(x == ("__debug__" : Str))=false:=by decide)
   (hst:starEach (e :: es) X.env=(false,eval e X.env) :: starEach es X.env:=by rfl) (hpl:(backTo pos (starEach es X.env)).any (·.1)=false:=by rfl)
   (ht:eval (.Call (.Attribute (.Name x np) "__init__" apos) (e :: es) [] pos) X.env=(do
     let ov <-eval (.Name x np) X.env
     standAt apos.atName
     let (f,first) <-holding [ov] (getMethod ov "__init__" pl)
     callWith pos f first (backTo pos (starEach (e :: es) X.env)) (backToKw pos (keywordEach [] X.env))):=by rfl) :
   PE X (.Call (.Attribute (.Name x np) "__init__" apos) (e :: es) [] pos) (bQJ X.K t):=by
 intro pins s σ H Q I h
 refine PySem.W.methodCall_KW (pl:=pl) (gX I hg hm ?_ hdb) ht
 refine method_cls I.kIn h1 (cls_value I.kIn h2 h3 rfl ?_)
 exact PyProof.Rows.callWith_builtin1 (thn (ha pos pins _ σ H _ (I.tok _) h) λus s1 ⟨vs,H1,I1,r1,q1⟩=>cXC pins s1 σ H1 vs us Q I1 r1 q1) hst hpl
end
theorem Inv.freAt {X:Cx} {pins:List (Addr × Obj)} {σ:St} {H:Hp} {s:Shared} {a:Addr} (I:Inv X pins σ H s) (h:s.heap.objs.size<=a):Fre X pins a where
 s0:=Ff (Bf I.sz h)
 loc:=λz=>absurd (Bb I.lt h) (by rw [z]; exact Dn _)
 cell:=λx c e z=>by
   obtain ⟨_,o,g,_⟩:=I.cell x c e
   exact absurd (Bb (Aq g) h) (by rw [z]; exact Dn _)
 pin:=λp hp z=>absurd (Bb (Aq (I.pin p hp).1) h) (by rw [z]; exact Dn _)
def cX7 (K:Frag) (ta tv:TE) (f:Str):TS:=λD σ H=>tv σ H λy H1=>ta σ H1 λx H2=>∃ ea C T,x=.ref ea/\XcK K C T/\findIn K (.ref C) f=some none/\
 ((H2 ea=some (eV ea C none)/\∀ dx,H2 dx=none->D.nx σ (upd (upd H2 ea (eV ea C (some dx))) dx (xdO dx [(f,y)])))\/
  (∃ dx fs,H2 ea=some (eV ea C (some dx))/\H2 dx=some (xdO dx fs)/\fs.length < 100/\D.nx σ (upd H2 dx (xdO dx ((f,y) :: fs)))))
theorem sX {f g:Str} {y:V} {fs:List (Str × V)}:List.lookup g ((f,y) :: fs)=if g=f then some y else fs.lookup g:=by
 rw [Dr]
 by_cases z:g=f
 · rw [if_pos z,z]; simp
 · rw [if_neg z]
   have:(g == f)=false:=by simpa using z
   rw [this]
theorem vG {X:Cx} {o value:Expr} {f:Str} {pos pos':Pos} {ta tv:TE} (ha:PE X o ta) (hv:PE X value tv) (hs:swapsWith value (some (.Attribute o f pos')) pos.line X.env=pure false):PS X (.Assign [.Attribute o f pos'] value pos) (cX7 X.K ta tv f):=by
 intro pins s σ H D I h
 refine plainObj_wpAny_Assign_Attribute (thn (hv pins s σ H _ I h) λu s1 ⟨y,H1,I1,ry,q⟩=>thn (ha pins s1 σ H1 _ I1 q) λov s2 ⟨x,H2,I2,rx,ea,C,T,ex,Z,hn,q2⟩=>?_) hs
 subst ex
 obtain rfl:ov=Value.ref ea:=rx
 rcases q2 with ⟨he,q3⟩ | ⟨dx,fs,he,hdx,hl,q3⟩
 · obtain ⟨oe,vs,t0,g,hc,hdi,hda,h1,h0,c2⟩:=(I2.hok ea _ he).1
   obtain ⟨od,hI⟩:=kN I2.hok g hc hdi hda (λ_ z=>nomatch z)
   have hod:od=none:=by
     have z:=hI.dict
     rw [hdi] at z
     cases od with
     | none=>rfl
     | some o=>exact z.elim
   subst hod
   refine bJH Z.ex I2.kIn hI hda hdi Z.sa Z.mro hn λh' tk' gx ns kp=>?_
   have fr:=I2.freAt (Ag _)
   have hfree:H2 s2.heap.objs.size=none:=I2.hok.fresh (Ag _)
   have ne:s2.heap.objs.size≠ea:=λz=>by rw [z,he] at hfree; cases hfree
   have I3:=I2.write (x:=ea) (e:=ea) (o:=eV ea C (some s2.heap.objs.size)) (h':=h') (t':=tk') (by rw [he]; exact True.intro) (.inl rfl) kp ⟨_,gx⟩ (vD gx hc rfl hda h1 h0 c2)
   have I4:=I3.adopt (a:=s2.heap.objs.size) (o:=xdO s2.heap.objs.size [(f,y)]) fr (by rw [aK ne]; exact hfree) (aJ0 ns (λg=>by
     rw [sX]
     split
     · exact ry
     · exact True.intro) (λg hg=>by
     by_cases z:g=f
     · rw [z]; exact As.mpr rfl
     · exact absurd (show (if g=f then some u else none)=none by rw [if_neg z]) hg))
   exact ⟨σ,_,I4,q3 _ hfree⟩
 · obtain ⟨oe,vs,t0,g,hc,hdi,hda,h1,h0,c2⟩:=(I2.hok ea _ he).1
   obtain ⟨mA,n,r,wi⟩:=(I2.hok dx _ hdx).1
   obtain ⟨od,hI⟩:=kN I2.hok g hc hdi hda (λz e=>by cases e; exact ⟨_,hdx⟩)
   have hod:∃ o,od=some o:=by
     have z:=hI.dict
     rw [hdi] at z
     cases od with
     | none=>exact z.elim
     | some o=>exact ⟨o,rfl⟩
   obtain ⟨o,rfl⟩:=hod
   refine bZ0 Z.ex I2.kIn hI hdi Z.sa Z.mro hn n wi (by rw [Ab,sizeLine_eq]; omega) λh' tk' ns sb=>?_
   have hd':∃ o,h'.get? dx=some o:=let ⟨o,_,_,e',_⟩:=ns; ⟨o,e'⟩
   have I3:=I2.write (x:=dx) (e:=dx) (o:=xdO dx ((f,y) :: fs)) (h':=h') (t':=tk') (by rw [hdx]; exact True.intro) (.inl rfl) (λb q hb z=>(sb.2 b hb).trans z) hd' (aJ0 ns (λg=>by
     rw [sX]
     split
     · exact ry
     · exact r g) (λg hg=>by
     by_cases z:g=f
     · rw [z]; exact Al
     · refine Am _ (wi g λz2=>hg ?_)
       show (if g=f then some u else mA g)=none
       rw [if_neg z]; exact z2))
   exact ⟨σ,_,I3,q3⟩
def aJ7 (K:Frag) (ta:TE) (f:Str):TE:=λσ H Q=>ta σ H λx H1=>∃ ea C dx fs v,x=.ref ea/\(H1 ea=some (qW ea (.ref C) (some dx))\/H1 ea=some (eV ea C (some dx)))/\H1 dx=some (xdO dx fs)/\ExK K C/\findIn K (.ref C) f=some none/\fs.lookup f=some v/\Q v H1
theorem bQL {v:V} {u:Value} (r:RelV v u):handedIn u=true:=by
 cases v <;> first | (obtain ⟨_,rfl⟩:=(show ∃ t,u=_ from r); rfl) | (cases r; rfl)
theorem cXG {X:Cx} {e:Expr} {f:Str} {pos:Pos} {ta:TE} (he:PE X e ta) (hb:attributeBase e f X.env (eval e X.env)=eval e X.env):PE X (.Attribute e f pos) (aJ7 X.K ta f):=by
 intro pins s σ H Q I h
 refine bJZ hb (thn (he pins s σ H _ I h) λu s1 ⟨x,H1,I1,rx,ea,C,dx,fs,v,ex,e1,e2,Z,n,l,q⟩=>?_)
 subst ex
 obtain rfl:u=Value.ref ea:=rx
 obtain ⟨oe,vs,g,hc,hdi,hda⟩:∃ oe vs,s1.heap.get? ea=some oe/\oe.cls=.ref C/\oe.dict=some dx/\oe.data=.fields vs:=by
   rcases e1 with e1 | e1
   · exact (I1.hok ea _ e1).1
   · obtain ⟨oe,vs,t0,g,hc,hdi,hda,_⟩:=(I1.hok ea _ e1).1
     exact ⟨oe,vs,g,hc,hdi,hda⟩
 obtain ⟨⟨mA,ns,r,wi⟩,_⟩:=I1.hok dx _ e2
 obtain ⟨od,hI⟩:=kN I1.hok g hc hdi hda (λz e=>by cases e; exact ⟨_,e2⟩)
 obtain ⟨o,go,lo⟩:=sY ns
 have hod:od=some o:=by
   have z:=hI.dict
   rw [hdi] at z
   cases od with
   | none=>exact z.elim
   | some o'=>
     have z:s1.heap.get? dx=some o':=z
     rw [go] at z
     exact z.symm
 subst hod
 have rl:=r f
 rw [l] at rl
 cases hu:mA f with
 | none=>rw [hu] at rl; exact rl.elim
 | some u=>
   rw [hu] at rl
   exact cXA Z I1.kIn hI (findObj_own Z.cls n rfl (by rw [lo,hu])) (bQL rl) ⟨v,H1,I1.tok _,rl,q⟩
end L2
set_option maxHeartbeats 4000000
namespace L2
open PySem PySem.Spec PyProof.Rows PySem.W
def uY (K:Frag) (C:Addr) (bmB:List Value) (newId:String):Bool :=
 match K.lookup C with
 | some ⟨.type t,_,.cls c,sl⟩=>t == "type" && !c.hasDel && nsOkIn K c.ns &&
   (match c.mro with | .ref C1 :: bm=>C1 == C && tailIn K bmB bm | _=>false) && (match sl.toList with | [_,_,_,_,some (.builtin n),_]=>n == newId | _=>false)
 | _=>false
theorem dQT {K:Frag} {h:Heap} {C:Addr} {bmB:List Value} {newId:String} (X:K.In h) (q:uY K C bmB newId=true) :
   ∃ bm N nm qn bs hd sn sub ab col dd k0 k1 k2 k3 k5,h.get? C=some (excClassObj nm qn C N bs bm hd sn sub ab col dd k0 k1 k2 k3 k5 newId)/\OwnTail h bmB bm:=by
 unfold uY at q
 split at q
 · rename_i t dd c sl ho
   simp only [Bool.and_eq_true,beq_iff_eq,Bool.not_eq_true'] at q
   obtain ⟨⟨⟨⟨rfl,q1⟩,q2⟩,q3⟩,q4⟩:=q
   split at q3
   · rename_i C1 bm hm
     obtain ⟨rfl,q5⟩:C1=C/\tailIn K bmB bm=true:=by simpa only [Bool.and_eq_true,beq_iff_eq] using q3
     split at q4
     · rename_i k0 k1 k2 k3 n k5 hs
       obtain rfl:n=newId:=by simpa using q4
       obtain ⟨nm,bs,mro,ns,qn,hd,sn,sub,ab,col,del⟩:=c
       dsimp only at hm q1 q2
       subst hm q1
       obtain ⟨l⟩:=sl
       cases (show l=_ from hs)
       exact ⟨bm,ns,nm,qn,bs,hd,sn,sub,ab,col,dd,k0,k1,k2,k3,k5,X _ _ ho,tail_of_in X q5⟩
     · cases q4
   · cases q3
 · cases q
section
variable {prog:Program} {w:World} {A:Around} {E:Value->Shared->Prop} {s:Shared} {K:Frag} {C f:Addr} {bmB:List Value} {B newId initId:String}
theorem aZ3 {rest:List Value} {Q:Fin->Shared->Prop} (FB:ExcBaseFacts B newId initId bmB) (X:K.In s.heap) (hx:uY K C bmB newId=true) (hi:findIn K (.ref C) "__init__"=some (some (.ref f))) (hf:typeIn K (.ref f)=some (.type "function")) (hr:rest.length<=sizeLine)
   (hq:∀ h' e,Heap.MadeExcOf s.heap h' e (.ref C) rest->wpAny (model prog w) A (call (.ref f) (.ref e :: rest)) (λr s'=>r=.none/\Q (.done (.ret (.ref e))) s') E { s with heap:=h' }) :
   wpAny (model prog w) A (Builtin.«type.__call__» ⟨.ref C :: rest,[]⟩) Q E s:=by
 obtain ⟨h,g,d,t,os⟩:=s
 obtain ⟨bm,N,nm,qn,bs,hd,sn,sub,ab,col,dd,k0,k1,k2,k3,k5,hC,Tl⟩:=dQT X hx
 repeat (first | with_reducible refine wpAny_madeBy_exc hC ?_ | with_reducible refine Fc hC ?_ | wp_step)
 refine codeAny_call_builtin_code (Code.quiet_builtin _ FB.quiet) (wpAny_check_new_subT FB Tl hC (codeAny_exc_new_subT FB Tl hC ?_ hr))
 show wpAny _ _ _ _ _ _
 generalize hh1:(h.push { cls:=.type "tuple",data:=.seq rest.toArray }).push { cls:=.ref C,data:=.fields #[.ref h.objs.size,.none,.none,.none,.bool false,.none] }=h1
 have kp:∀ b o,h.get? b=some o->h1.get? b=some o:=λb o e=>by rw [<-hh1]; exact Af _ (Af _ e)
 have dG:h1.get? (h.objs.size + 1)=some { cls:=.ref C,data:=.fields #[.ref h.objs.size,.none,.none,.none,.bool false,.none] }:=by rw [<-hh1]; heap_get
 have X1:=X.keeps kp
 have hC1:=kp _ _ hC
 have hcC:(Value.ref C :: bm).contains (.ref C)=true:=by simp
 unfold isInstance
 repeat (first | (with_reducible refine wpAny_isSubtype_exc hC1 ?_; rw [hcC]) | with_reducible refine Fc dG ?_ | wp_step)
 show wpAny _ _ (typeLookup (.ref C) _) _ _ _
 refine (looks_findIn X1 hi).here (s:=⟨h1,g,d,t,os⟩) (Cm (Ae ?_))
 unfold bindSpecial
 refine Ae ((looks_typeIn X1 hf).here (s:=⟨h1,g,d,t,os⟩) ?_)
 rw [if_pos (by decide)]
 refine An (Ae (Cc (hq h1 (h.objs.size + 1) ⟨kp,Ff (Nat.le_succ _),h.objs.size,dG,Ff (Ag _),?_⟩) (λr s' hr=>?_) λ_ _ z=>z))
 · rw [<-hh1]
   exact Af _ (Heap.get?_push_at rfl rfl)
 · obtain ⟨rfl,z⟩:=hr
   wp_walk
   exact z
theorem bZ8 {rest:List Value} {Q:Value->Shared->Prop} (FB:ExcBaseFacts B newId initId bmB) (X:K.In s.heap) (hx:uY K C bmB newId=true) (hi:findIn K (.ref C) "__init__"=some (some (.ref f))) (hf:typeIn K (.ref f)=some (.type "function")) (hr:rest.length<=sizeLine)
   (hq:∀ h' e,Heap.MadeExcOf s.heap h' e (.ref C) rest->wpAny (model prog w) (A.under (.builtin "type.__call__" ⟨.ref C :: rest,[]⟩)) (call (.ref f) (.ref e :: rest)) (λr s'=>r=.none/\Q (.ref e) s') E { s with heap:=h' }) :
   wpAny (model prog w) A (call (.ref C) rest) Q E s:=by
 have X0:=X
 obtain ⟨h,g,d,t,os⟩:=s
 obtain ⟨bm,N,nm,qn,bs,hd,sn,sub,ab,col,dd,k0,k1,k2,k3,k5,hC,Tl⟩:=dQT X hx
 have c1:=tc_lookup
 have c2:=tc_bind (.ref C)
 have c3:(⟨h,g,d,t,os⟩:Shared).TypeIs (.ref C) "type" := ⟨_,hC,rfl⟩
 refine Ge (codeAny_of_tree ?_)
 show wpAny _ _ (callAny (.ref C) _) _ _ _
 repeat (any_goals (first | with_reducible refine Fc hC ?_ | assumption | wp_step))
 exact ⟨rfl,codeAny_call_builtin_at (Code.quiet_builtin _ (by decide +kernel)) entry_typeCall (wpAny_check_type_call_sub hC (aZ3 FB X0 hx hi hf hr λh' e hm=>hq h' e hm))⟩
theorem aZA {env:Env} {x:Sem Value} {Q:Flow->Shared->Prop} (hh:A.handled=none)
   (h:wpAny (model prog w) A x (λv s1=>∃ e oe vs bm N nm qn bs hd sn sub ab col dd k0 k1 k2 k3 k5,v=.ref e/\s1.heap.get? C=some (excClassObj nm qn C N bs bm hd sn sub ab col dd k0 k1 k2 k3 k5 newId)/\bm.contains (.type "BaseException")=true/\
     s1.heap.get? e=some oe/\oe.cls=.ref C/\oe.data=.fields vs/\vs[1]?=some .none/\E (.ref e) s1) E s):wpAny (model prog w) A (raiseStmt env (some x) none) Q E s:=by
 unfold raiseStmt
 refine Ae (Cc h (λv s1 q=>?_) λ_ _ z=>z)
 obtain ⟨e,oe,vs,bm,N,nm,qn,bs,hd,sn,sub,ab,col,dd,k0,k1,k2,k3,k5,rfl,hC,hb,he,hc,hda,h1,hE⟩:=q
 obtain ⟨hp,g,d,tk,os⟩:=s1
 obtain ⟨oc,odi,oda,osl⟩:=oe
 dsimp only at hc hda
 subst hc hda
 have hcB:(Value.ref C :: bm).contains (.type "BaseException")=true:=by rw [List.contains_cons,hb,Bool.or_true]
 repeat (first | with_reducible refine Fc hC ?_ | with_reducible refine Fc he ?_ | (with_reducible refine wpAny_isSubtype_exc hC ?_; rw [hcB]) | wp_step)
 rw [h1]
 refine An ?_
 rw [if_neg (show ¬ ((Value.none != Value.none)=true) by decide)]
 exact An (wpAny_raiseNew_none hh hE)
end
def del (H:Hp) (a:Addr):Hp:=λb=>if b=a then none else H b
theorem dQ {H:Hp} {a b:Addr} (h:b≠a):del H a b=H b:=if_neg h
theorem wR {H:Hp} {a:Addr}:del H a a=none:=if_pos rfl
section
variable {X:Cx} {pins:List (Addr × Obj)} {σ:St} {H:Hp} {s:Shared}
theorem Inv.drop {ea:Addr} {φ:Heap->Prop} (I:Inv X pins σ H s) (e:H ea=some (.ext φ)):Inv X pins σ (del H ea) s:=by
 have ne:∀ b u,H b=some u->(∀ ψ,u≠.ext ψ)->b≠ea:=λb u q n z=>by
   rw [z,e] at q
   cases q
   exact n φ rfl
 refine I.re (λb n=>?_) (λb xs q=>?_) (λb o u q=>?_) (λb ps q=>?_) λb o q=>?_
 · unfold del
   split
   · rfl
   · exact n
 · have q1:=I.base.tups b xs q
   rw [dQ (ne b _ q1 λ_ z=>nomatch z)]
   exact q1
 · have q1:=I.base.frzs b o u q
   rw [dQ (ne b _ q1 λ_ z=>nomatch z)]
   exact q1
 · obtain ⟨m,q1⟩:=I.base.tbls b ps q
   exact ⟨m,by rw [dQ (ne b _ q1 λ_ z=>nomatch z)]; exact q1⟩
 · have hb:b≠ea:=λz=>by rw [z,wR] at q; cases q
   rw [dQ hb] at q
   exact (I.hok b o q).stay (λ_ _ _ z=>z) (λc z=>by rw [dQ (ne c _ z λ_ z=>nomatch z)]; exact z) λc xs z=>by rw [dQ (ne c _ z λ_ z=>nomatch z)]; exact z
theorem Inv.freNew {a:Addr} (I:Inv X pins σ H s) (hex:X.ex=[]) (h:s.heap.get? a=none):Fre X pins a where
 s0:=by
   cases z:X.s₀.heap.get? a with
   | none=>rfl
   | some o=>
     obtain ⟨o',z'⟩:=I.base.there a o z (by rw [hex]; simp)
     rw [h] at z'
     cases z'
 loc:=λz=>by
   obtain ⟨m,⟨o,_,_,g,_⟩,_⟩:=I.loc
   rw [<-z,h] at g
   cases g
 cell:=λx c e z=>by
   obtain ⟨_,o,g,_⟩:=I.cell x c e
   rw [z,h] at g
   cases g
 pin:=λp hp z=>by
   have g:=(I.pin p hp).1
   rw [z,h] at g
   cases g
end
def zO (P:Program) (w:World) (K:PySem.W.Frag) (mg:Str->Option Value) (base:Heap) (k:Nat) (C:Addr) (ps:List Str) (sp:Sp):Prop :=
 ∃ (f:Addr) (fd:FuncData),FnOk P w K mg base CX0 k f fd ps sp/\findIn K (.ref C) "__init__"=some (some (.ref f))/\typeIn K (.ref f)=some (.type "function")/\Binds K fd ps []
structure XmK (K:Frag) (C:Addr):Prop where
 obj:uY K C [.type "ValueError",.type "Exception",.type "BaseException",.type "object"] "ValueError.__new__"=true
 kp:keepIn K (.ref C)=true
def aXI (C:Addr) (sp:Sp) (E:XK) (ta:TA):TS:=λ_ σ H=>ta σ H λvs H1=>vs.length<=sizeLine/\∀ ea,H1 ea=none->sp (.ref ea :: vs) (upd H1 ea (eV ea C none)) (λv H2=>v=.non/\∃ d,H2 ea=some (eV ea C d)/\E (.ref C) d (del H2 ea)) E0
section
variable {X:Cx} {E:XK} {x:Str} {C:Addr} {e:Expr} {es:List Expr} {ta:TA} {np cpos pos:Pos} {k:Nat} {ps:List Str} {sp:Sp}
theorem aZU {pins:List (Addr × Obj)} {σ:St} {H1:Hp} {s1:Shared} {vs:List V} {us:List Value} {G:Addr->VK} {R:Value->Shared->Prop} (hex:X.ex=[]) (M:XmK X.K C) (c:zO X.prog X.w X.K X.mg X.base k C ps sp) (hr:Room (k + 1) X.A) (I1:Inv X pins σ H1 s1) (r:Vals vs us)
   (hl:vs.length<=sizeLine) (q:∀ ea,H1 ea=none->sp (.ref ea :: vs) (upd H1 ea (eV ea C none)) (G ea) E0)
   (hR:∀ ea H2 s2,X.s₀.heap.get? ea=none->Inv X pins σ H2 s2->(G ea) .non H2->R (.ref ea) s2) (hG:∀ ea v H2,G ea v H2->v=.non):wpAny (model X.prog X.w) X.A (call (.ref C) us) R X.xe s1:=by
 obtain ⟨f,fd,F,hi,hf,hb⟩:=c
 refine bZ8 Fh I1.kIn M.obj hi hf (by rw [<-r.length]; exact hl) λh' ea hm=>?_
 obtain ⟨t,g,_,_⟩:=hm.there
 have hole:H1 ea=none:=I1.hok.hole hm.new
 have fr:=I1.freNew hex hm.new
 have I2:=(I1.kept (t':=s1.toks) hm.keeps).adopt (o:=eV ea C none) fr hole (vD g rfl rfl rfl rfl rfl rfl)
 have r2:Vals (V.ref ea :: vs) (Value.ref ea :: us):=.cons rfl r
 have hq:=q ea hole
 have hl2:((Value.ref ea :: us) ++ []).length=ps.length:=by rw [Bm,<-r2.length]; exact F.len _ _ _ _ hq
 have hbb:=hb { s1 with heap:=h' } (Value.ref ea :: us) I2.kIn hl2
 rw [Bm] at hbb
 refine Ge (Fj (F.run _ X.stack { s1 with heap:=h' } _ ⟨Value.ref ea :: us,[]⟩ (Value.ref ea :: us) (V.ref ea :: vs) _ E0 (hr.make C us []) (I2.env0.make C us []) hbb r2 hq) λrr s' hq'=>?_)
 cases rr with
 | error e=>exact False.elim hq'
 | ok fl=>
   cases fl with
   | ret u=>
     obtain ⟨v,H',I3,rv,q3⟩:=I2.after hq'
     have ev:=hG ea v H' q3
     subst ev
     exact ⟨rv,hR ea H' s' fr.s0 I3 q3⟩
   | next=>exact False.elim hq'
   | brk=>exact False.elim hq'
   | cont=>exact False.elim hq'
theorem nH {k':Nat} (hR:cJF X E) (hex:X.ex=[]) (hc:X.calm=true) (hg:Gl X x) (hm:X.mg x=some (.ref C)) (M:XmK X.K C) (c:zO X.prog X.w X.K X.mg X.base k C ps sp) (hr:Room k' X.A) (hkk:k + 1<=k') (ha:PA X (e :: es) ta)
   (hd:(x == ("__debug__" : Str))=false:=by decide) (he:starEach (e :: es) X.env=(false,eval e X.env) :: starEach es X.env:=by rfl) (hpl:(backTo cpos (starEach es X.env)).any (·.1)=false:=by rfl) :
   PS X (.Raise (some (.Call (.Name x np) (e :: es) [] cpos)) none pos) (aXI C sp E ta):=by
 intro pins s σ H D I h
 rw [arm_exec_Raise]
 simp only [evalOpt,Option.map]
 refine Ae (Ez (aZA (C:=C) (newId := "ValueError.__new__") (I.ok.hd hc) ?_))
 refine Ae (Cc (Q:=λv s1=>∃ e oe vs bm N nm qn bs hd sn sub ab col dd k0 k1 k2 k3 k5,v=.ref e/\s1.heap.get? C=some (excClassObj nm qn C N bs bm hd sn sub ab col dd k0 k1 k2 k3 k5 "ValueError.__new__")/\bm.contains (.type "BaseException")=true/\
     s1.heap.get? e=some oe/\oe.cls=.ref C/\oe.data=.fields vs/\vs[1]?=some .none/\X.xe (.ref e) s1) ?_ (λv s3 h3=>Ae (Ez (An h3))) λ_ _ z=>z)
 refine Ea (gX I hg hm ?_ hd)
 refine PySem.W.callWith_K (h₀:=X.base) I.ok.mod.kin M.kp (thn (ha cpos pins s σ H _ I h) λus s1 ⟨vs,H1,I1,r,hl,q⟩=>⟨I1.kIn,?_⟩) he hpl
 refine aZU hex M c (hr.mono hkk) I1 r hl q (λea H' s' s0 I3 q3=>?_) λea v H2 z=>z.1
 obtain ⟨_,d,e2,q3⟩:=q3
 obtain ⟨oe,ws,t0,g2,hc2,hdi,hda,h1,h0,c2⟩:=(I3.hok ea _ e2).1
 obtain ⟨bm,N,nm,qn,bs,hdct,sn,sub,ab,col,dd,k0,k1,k2,k3,k5,hC,Tl⟩:=dQT I3.kIn M.obj
 refine ⟨ea,oe,ws,bm,N,nm,qn,bs,hdct,sn,sub,ab,col,dd,k0,k1,k2,k3,k5,rfl,hC,Tl.hasType PySem.F.excBase_ValueError.hasBase,g2,hc2,hda,h1,?_⟩
 exact hR pins σ (del H' ea) s' ea oe ws (I3.drop e2) g2 hda h1 c2 wR s0 (by rw [hc2,hdi]; exact q3)
end
def cZP (st:Stmt) (j:Nat):Stmt :=
 match st with
 | .ClassDef _ _ _ body _ _ _ _ _ _ _=>body.getD j (.Pass ⟨0,0,0,0⟩)
 | s=>s
section
variable {g:TG} {tests:TT} {te:TE} {σ0:St} {Q:VK} {H1:Hp}
end
section
variable {K:PySem.W.Frag} {H:Hp} {Q:VK} {ea C D T dx tp:Addr} {c:V} {cs:List V} {cv:Value} {cvs:List Value} {b:Bool} {d:Option Addr} {σ:St} {D':Ends} {sp:Sp} {E:XK} {ta:TA} {te tv:TE} {f:Str}
theorem cXW (h:ta σ H λvs H1=>yN K vs H1 Q):bQJ K ta σ H Q:=h
theorem bX8 (h:ta σ H λvs H1=>vs.length<=sizeLine/\∀ ea,H1 ea=none->sp (.ref ea :: vs) (upd H1 ea (eV ea C none)) (λv H2=>v=.non/\∃ d,H2 ea=some (eV ea C d)/\E (.ref C) d (del H2 ea)) E0):aXI C sp E ta D' σ H:=h
theorem cJJ (h:te σ H λx H1=>∃ ea C dx fs v,x=.ref ea/\(H1 ea=some (qW ea (.ref C) (some dx))\/H1 ea=some (eV ea C (some dx)))/\H1 dx=some (xdO dx fs)/\ExK K C/\PySem.W.findIn K (.ref C) f=some none/\fs.lookup f=some v/\Q v H1):aJ7 K te f σ H Q:=h
theorem dQC (h:tv σ H λy H1=>te σ H1 λx H2=>∃ ea C T,x=.ref ea/\XcK K C T/\PySem.W.findIn K (.ref C) f=some none/\
 ((H2 ea=some (eV ea C none)/\∀ dx,H2 dx=none->D'.nx σ (upd (upd H2 ea (eV ea C (some dx))) dx (xdO dx [(f,y)])))\/
  (∃ dx fs,H2 ea=some (eV ea C (some dx))/\H2 dx=some (xdO dx fs)/\fs.length < 100/\D'.nx σ (upd H2 dx (xdO dx ((f,y) :: fs)))))):cX7 K te tv f D' σ H:=h
end
end L2
set_option maxHeartbeats 4000000
namespace L2
open PySem PySem.Spec PyProof.Rows
section
variable {P:Program} {w:World} {K:PySem.W.Frag} {mg:Str->Option Value} {base:Heap}
end
section
variable {X:Cx} {pn:List (Addr × Obj)} {ea:Addr} {k k':Nat} {ps:List Str} {sp:Sp} {x:Str} {p pos:Pos} {e:Expr} {es:List Expr} {t:TA}
end
theorem wW {X:Cx} {K:PySem.W.Frag} {e:Expr} {f:Str} {pos:Pos} {ta:TE} (h:X.K=K) (he:PE X e ta) (hb:attributeBase e f X.env (eval e X.env)=eval e X.env):PE X (.Attribute e f pos) (aJ7 K ta f):=by
 subst h
 exact cXG he hb
end L2
set_option maxHeartbeats 4000000
namespace L2
open PySem PySem.Spec PyProof.Rows
section
variable {prog:Program} {w:World} {A:Around} {E:Value->Shared->Prop}
theorem xU {it l:Addr} {items:Array Value} (hne:l≠it):∀ (n i:Nat) (s:Shared) (Q:List Value->Shared->Prop),s.heap.IsListIter it l i->s.heap.IsList l items->i + n<=items.size->
   (∀ h',h'.IsListIter it l (i + n)->Heap.SameBut it s.heap h'->Q ((items.toList.drop i).take n) { s with heap:=h' })->wpAny (model prog w) A (draw (.ref it) n) Q E s
 | 0,i,s,Q,hit,_,_,k=>by
   refine An (M:=model prog w) ?_
   simpa using k s.heap hit (Heap.SameBut.refl ..)
 | n + 1,i,s,Q,hit,hl,hle,k=>by
   have lt:i < items.size:=by omega
   show wpAny _ _ (pyNext (.ref it) >>= _) Q E s
   refine wpAny_bind (wpAny_pyNext_list_item hit hl (x:=items[i]) (by simp [lt]) λg1 it1 sb1=>?_)
   refine Ae (Cm (xU hne n (i + 1) _ _ it1 (hl.extBut sb1.extBut hne) (by omega) λg2 it2 sb2=>An ?_))
   have e:items.toList.drop i=items[i] :: items.toList.drop (i + 1):=by simp [List.drop_eq_getElem_cons,lt]
   have z:=k g2 (by rw [show i + (n + 1)=i + 1 + n by omega]; exact it2) (sb1.trans sb2)
   rw [e,Fq] at z
   exact z
theorem yP {s:Shared} {l:Addr} {items:Array Value} {targets:List (Bool × (Value->Sem Unit))} {Q:Unit->Shared->Prop} (hh:A.handled=none) (hl:s.heap.IsList l items)
   (hn:targets.length=items.size) (hs:targets.findIdx? (·.1)=none)
   (k:∀ h',Heap.ExtBut s.heap.objs.size s.heap h'->wpAny (model prog w) A (assignInOrder (targets.map (·.2)) items.toList) Q E { s with heap:=h' }) :
   wpAny (model prog w) A (unpack (.ref l) targets) Q E s:=by
 have hlt:l≠s.heap.objs.size:=by obtain ⟨o,ho,_⟩:=hl; exact Bk (Aq ho)
 unfold unpack
 rw [hn,hs]
 refine Ae (Cm ?_)
 unfold unpackItems notIterableAtAll
 refine Ae (Ae (wpAny_specialOf hl.typeIs slot_list_iter.lookup (An ?_)))
 rw [if_neg (by simp)]
 refine Ae (Cm (Gb hl ?_))
 refine Ae (Cm (xU hlt items.size 0 _ _ ⟨_,Ax _ rfl,rfl,rfl⟩ (hl.push _) (by omega) λg1 it1 sb1=>?_))
 have al:List.take items.size (List.drop 0 items.toList)=items.toList:=by rw [List.drop_zero]; exact List.take_of_length_le (by simp)
 rw [al,if_neg (by simp)]
 refine wpAny_bind (wpAny_holding (wpAny_pyNext_list_end hh it1 ((hl.push _).extBut sb1.extBut hlt) (by simp) λg2 eb=>?_))
 simp only [Option.isSome_none,Bool.false_eq_true,if_false]
 exact An (k g2 λb o hb e=>eb b o hb (sb1.extBut b o hb (Af _ e)))
end
def dZV (n:Nat) (t:TGs):TG:=λv σ H Q=>∃ a xs,v=.ref a/\rdL H a=some xs/\xs.length=n/\t xs σ H Q
theorem dQ0 {X:Cx} {es:List Expr} {k:Nat} {t:TGs} {n:Nat} {pos:Pos} (hc:X.calm=true) (h:PGs X es t)
   (hn:(assignEach es X.env).length=n:=by rfl) (hst:(assignEach es X.env).findIdx? (·.1)=none:=by rfl):PG X (.Tuple es k pos) (dZV n t):=by
 intro pins s σ H v u Q I r hw
 obtain ⟨a,xs,e1,hq,hl,hw⟩:=hw
 subst e1
 cases r
 obtain ⟨its,rv,⟨o,nn,ho,hcl,_,hda⟩,hz⟩:=I.list (bD hq)
 rw [assign_Tuple]
 refine wpAny_bind (wpAny_standAt (yP (I.ok.hd hc) ⟨o,ho,hcl,nn,hda⟩ (by simp [hn,<-hl,rv.length]) hst λh' hx=>?_))
 have I1:Inv X pins σ H { s with heap:=h' }:=I.kept (t':=s.toks) λb o e=>hx b o (Bk (Aq e)) e
 exact h pins _ σ H xs _ Q I1 (by simpa using rv) hw
theorem dQX {n:Nat} {t:TGs} {a:Addr} {xs:List V} {σ:St} {H:Hp} {Q:St->Hp->Prop} (e:rdL H a=some xs) (hn:xs.length=n) (h:t xs σ H Q):dZV n t (.ref a) σ H Q:=⟨a,xs,rfl,e,hn,h⟩
def hid (H:Hp) (ps:List Addr):Hp:=λb=>if b∈ps then none else H b
end L2
set_option maxHeartbeats 4000000
namespace L2
open PySem PySem.Spec PyProof.Rows
open PySem.AutoSeq1 (wpAny_loadPart')
section
variable {prog:Program} {w:World} {A:Around} {E:Value->Shared->Prop} {s:Shared}
end
section
variable {X:Cx} {l:Expr} {ta tk:TA} {kws:List Keyword} {elts:List Expr} {x1:Nat} {tp p pos kp:Pos}
end
section
variable {K:PySem.W.Frag} {a:Addr} {k:Nat} {xs:List V} {g:TG} {tb:TS} {D:Ends} {σ σ0:St} {H H1:Hp} {tests:TT} {te:TE} {Q:VK} {z:Str} {ta tk:TA}
theorem dZG {i:Int} (h:Q (.int (-i)) H):cJ3 (.int i) H Q:=h
end
end L2
set_option maxHeartbeats 4000000
namespace L2
open PySem PySem.Spec PyProof.Rows
section
variable {X:Cx} {a b:Expr} {ta tb:TE} {pos:Pos} {rest:List Expr}
section
variable {σ:St} {H:Hp} {Q:VK} {p:Addr} {xs:List V} {z:Str} {j:Nat}
theorem cXR {g:TG} {tests:TT} {te:TE} {σ0:St} {H1:Hp} (f:Nat->Option V) (hl:z.length < sizeLine)
   (hs:∀ (i:Nat) c Hc (A:VK) (B:Hp->Prop),z.cps.toList[i]?=some c->Same H1 Hc->(∀ Hd,Same Hc Hd->match f c with | some y=>A y Hd | none=>B Hd)->
     g (.str ⟨#[c]⟩) σ0 Hc λσ2 H2=>Wk σ0 σ2/\tests σ2 H2 λb H3=>if b=true then te σ2 H3 A else B H3)
   (fin:∀ D Hd,H1 D=none->Same H1 Hd->Hd D=some (.lst (z.cps.toList.filterMap f))->Q (.ref D) Hd):eF g tests te σ0 Q (Its z) H1:=by
 intro D hD
 have hzz:z.cps.size=z.length:=rfl
 have hz2:z.cps.toList.length=z.length:=by simp [Str.length]
 refine ⟨λi m Hc=>m=z.length - i/\i<=z.length/\Same H1 Hc/\Hc D=some (.lst ((z.cps.toList.take i).filterMap f)),⟨z.length,by simp,Nat.zero_le _,aF hD _,by rw [aE]; rfl⟩,?_⟩
 rintro i m Hc ⟨rfl,hi,sm,hDc⟩
 by_cases hlt:i < z.length
 · refine .inr ⟨hlt,λv H' y=>?_⟩
   obtain ⟨rfl,c,hz,rfl⟩:=y
   have hx:z.cps.toList[i]?=some c:=by rw [Df]; exact hz
   refine hs i c H' _ _ hx sm λHd sd=>?_
   have hDd:Hd D=some (.lst ((z.cps.toList.take i).filterMap f)):=sd _ _ hDc
   have sH:Same H1 Hd:=sm.trans sd
   cases e:f c with
   | some y=>
     refine ⟨_,hDd,?_,z.length - (i + 1),by omega,rfl,hlt,λb o hb=>?_,?_⟩
     · have:=Dg f (z.cps.toList.take i)
       rw [Bz] at this
       omega
     · rw [aK (bJ hb hD)]; exact sH b o hb
     · rw [aE,Bc,hx,Cf]
       show some (HO.lst (_ ++ [y]))=some (HO.lst (_ ++ [c].filterMap f))
       rw [Dh e,Dj]
   | none=>
     refine ⟨z.length - (i + 1),by omega,rfl,hlt,sH,?_⟩
     rw [hDd,Bc,hx,Cf]
     show some (HO.lst _)=some (HO.lst (_ ++ [c].filterMap f))
     rw [Ds e,Dj,Bm]
 · have e:i=z.length:=by omega
   subst e
   refine .inl ⟨Ag _,fin D Hc hD sm ?_⟩
   rw [hDc,Bo (by omega)]
end
end
end L2
set_option maxHeartbeats 4000000
namespace L2
open PySem PySem.Spec PyProof.Rows
section
variable {X:Cx}
def cJD (neg:Bool):R2:=λx y H Q=>∃ a ov,y=.ref a/\DGet H a x ov/\Q (.bl (if neg then !ov.isSome else ov.isSome)) H
theorem dJJ (hu:X.A.units + 1 < cLine):OpR X (compareOp .In) (cJD false):=by
 intro pins s σ H x y v u Q I rx ry h
 obtain ⟨a,ov,rfl,g,q⟩:=h
 cases ry
 exact dX6 hu I g rx λs3 I3=>⟨.bl ov.isSome,H,I3,rfl,q⟩
theorem bXJ (hu:X.A.units + 1 < cLine):OpR X (compareOp .NotIn) (cJD true):=by
 intro pins s σ H x y v u Q I rx ry h
 obtain ⟨a,ov,rfl,g,q⟩:=h
 cases ry
 exact bJT hu I g rx λs3 I3=>⟨.bl (!ov.isSome),H,I3,rfl,q⟩
section
variable {H:Hp} {Q:VK} {a:Addr} {kvs:List (Key × V)} {z:Str}
theorem cZB {neg:Bool} (e:Rd H a (.dK kvs)) (h:Q (.bl (if neg then !(bX kvs (Sum.inr z)).isSome else (bX kvs (Sum.inr z)).isSome)) H):cJD neg (.str z) (.ref a) H Q:=⟨a,_,rfl,.inl ⟨kvs,.inr z,e,rfl,rfl⟩,h⟩
end
end
end L2
set_option maxHeartbeats 4000000
namespace L2
open PySem PySem.Spec PyProof.Rows PySem.Builtin PySem.Builtin.Str
section
variable {X:Cx}
end
end L2
set_option maxHeartbeats 1000000
namespace L2
open PySem PySem.Spec PyProof.Rows
section
variable {X:Cx}
end
end L2
namespace L2
open PySem PySem.Spec PyProof.Rows
section
variable {prog:Program} {w:World} {A:Around} {R:Result->Shared->Prop} {J:Addr} {us ws:List Addr} {n:Nat} {P:Nat->Value->Prop} {St:Nat->Heap->Prop} {d:Value}
end
section
variable {prog:Program} {w:World} {A:Around} {E:Value->Shared->Prop} {s:Shared}
end
section
variable {X:Cx} {l:Expr} {ta:TA} {tk:TA} {p pos kp:Pos}
end
end L2
namespace L2
open PySem PySem.Spec PyProof.Rows
section
variable {X:Cx} {tg a b c:Expr} {p pos:Pos}
end
end L2
set_option maxHeartbeats 4000000
namespace L2
open PySem PySem.Spec PyProof.Rows
section
variable {g:TG} {tests:TT} {te:TE} {σ0:St} {Q:VK} {H1:Hp}
theorem fN {f:Nat->Option V} {i:Nat} {y:V} (h:f i=some y):(List.range (i + 1)).filterMap f=(List.range i).filterMap f ++ [y]:=by
 rw [Ce,Cf,Dh h,Dj]
theorem hV {f:Nat->Option V} {i:Nat} (h:f i=none):(List.range (i + 1)).filterMap f=(List.range i).filterMap f:=by
 rw [Ce,Cf,Ds h,Dj,Bm]
theorem qB {K:PySem.W.Frag} {a:Addr} {xs:List V} (f:Nat->Option V) (ha:rdL H1 a=some xs) (hl:xs.length < sizeLine)
   (hs:∀ (i:Nat) x Hc (A:VK) (B:Hp->Prop),xs[i]?=some x->Same H1 Hc->(∀ y,f i=some y->∀ Hd,Same Hc Hd->A y Hd)->(f i=none->∀ Hd,Same Hc Hd->B Hd)->
     g x σ0 Hc λσ2 H2=>Wk σ0 σ2/\tests σ2 H2 λb H3=>if b=true then te σ2 H3 A else B H3)
   (fin:∀ D Hd,H1 D=none->Same H1 Hd->Hd D=some (.lst ((List.range xs.length).filterMap f))->Q (.ref D) Hd):eF g tests te σ0 Q (Itl K a) H1:=by
 refine gQ (n:=xs.length) (λD i ys Hc=>Same H1 Hc/\ys=(List.range i).filterMap f) hl (λD hD=>⟨aF hD _,rfl⟩)
   (λD i ys Hc _ r h=>⟨xs,xs[i],bD (aI r.1 ha),by simp [h]⟩) (λD ys Hc _ r=>⟨xs,bD (aI r.1 ha),Nat.le_refl _⟩) ?_ ?_
 · rintro D i ys Hc x H' A B hD hi ⟨sm,rfl⟩ hDc ⟨rfl,hz⟩ ha' hb
   refine hs i x H' A B (hz xs (bD (aI sm ha))) sm (λy hy Hd sd=>?_) (λhn Hd sd=>?_)
   · exact ha' _ _ (sd _ _ hDc) ⟨aW hD (sm.trans sd),(fN hy).symm⟩
   · exact hb _ (sd _ _ hDc) ⟨sm.trans sd,(hV hn).symm⟩
 · rintro D ys Hc hD ⟨sm,rfl⟩ hDc _
   exact fin D Hc hD sm hDc
theorem bXV {K:PySem.W.Frag} {a:Addr} {k:Nat} {xs:List V} (f:Nat->Option V) (ha:rdL H1 a=some xs) (hl:xs.length < sizeLine)
   (hs:∀ (i:Nat) x Hc p (A:VK) (B:Hp->Prop),xs[i]?=some x->Same H1 Hc->Hc p=none->(∀ y,f i=some y->∀ Hd,Same (upd Hc p (.tup [.int ((k + i:Nat):Int),x])) Hd->A y Hd)->(f i=none->∀ Hd,Same (upd Hc p (.tup [.int ((k + i:Nat):Int),x])) Hd->B Hd)->
     g (.ref p) σ0 (upd Hc p (.tup [.int ((k + i:Nat):Int),x])) λσ2 H2=>Wk σ0 σ2/\tests σ2 H2 λb H3=>if b=true then te σ2 H3 A else B H3)
   (fin:∀ D Hd,H1 D=none->Same H1 Hd->Hd D=some (.lst ((List.range xs.length).filterMap f))->Q (.ref D) Hd):eF g tests te σ0 Q (Ite K a k) H1:=by
 refine gQ (n:=xs.length) (λD i ys Hc=>Same H1 Hc/\ys=(List.range i).filterMap f) hl (λD hD=>⟨aF hD _,rfl⟩)
   (λD i ys Hc _ r h=>⟨xs,xs[i],bD (aI r.1 ha),by simp [h]⟩) (λD ys Hc _ r=>⟨xs,bD (aI r.1 ha),rfl⟩) ?_ ?_
 · rintro D i ys Hc x H' A B hD hi ⟨sm,rfl⟩ hDc ⟨q,z,hq,rfl,rfl,hz⟩ ha' hb
   refine hs i z Hc q A B (hz xs (bD (aI sm ha))) sm hq (λy hy Hd sd=>?_) (λhn Hd sd=>?_)
   · exact ha' _ _ (sd _ _ (aF hq _ _ _ hDc)) ⟨aW hD (sm.trans ((aF hq _).trans sd)),(fN hy).symm⟩
   · exact hb _ (sd _ _ (aF hq _ _ _ hDc)) ⟨sm.trans ((aF hq _).trans sd),(hV hn).symm⟩
 · rintro D ys Hc hD ⟨sm,rfl⟩ hDc _
   exact fin D Hc hD sm hDc
end
section
variable {X:Cx} {e:Expr} {te:TE} {p2 pos pu pc:Pos} {j:Nat}
end
end L2
set_option maxHeartbeats 4000000
namespace L2
open PySem PySem.Spec PyProof.Rows
section
variable {X:Cx}
end
end L2
set_option maxHeartbeats 4000000
namespace L2
open PySem PySem.Spec PyProof.Rows PySem.Builtin PySem.Builtin.Str
section
variable {X:Cx}
end
end L2
set_option maxHeartbeats 4000000
namespace L2
open PySem PySem.Spec PyProof.Rows
section
variable {prog:Program} {w:World} {A:Around} {E:Value->Shared->Prop} {s:Shared} {jt dq:Addr} {n0 ep:Nat} {en:Array DictEntry} {od:Obj}
theorem bJF {Q:Option Value->Shared->Prop} (hit:s.heap.IsKeyIter jt dq n0 en.size ep) (hod:s.heap.get? dq=some od) (hdd:od.data=.dict en ep) (hi:n0 < en.size)
   (hq:∀ h',h'.IsKeyIter jt dq (n0 + 1) en.size ep->Heap.SameBut jt s.heap h'->Q (some en[n0].key) { s with heap:=h' }):wpAny (model prog w) A (pyNext (.ref jt)) Q E s:=by
 obtain ⟨oi,hoi,ci,di⟩:=id hit
 have ow:Builtin.Dict_items.ownsTuple "dict_keyiterator"=false:=by decide
 have tI:=hit.typeIs
 unfold pyNext
 refine Ae (wpAny_attempt (wpAny_callSpecial?_slot (name:=Str.ofString "__next__") tI Dx (Fl Dx tI F.entry_dict_keyiterator_next ?_ (F.args_dict_keyiterator_next_1 _))))
 refine Ae (An (Ae (Ae ?_)))
 refine Ae (Dv tI (An (Ae (wpAny_fieldsOf hoi di ?_))))
 simp only [ow,Bool.false_eq_true,if_false]
 show wpAny _ _ (if (Value.ref dq == Value.none)=true then _ else _) _ _ s
 rw [if_neg (by exact Ao)]
 refine Ae (An (Ae (wpAny_dictEntries hod hdd ?_)))
 rw [if_neg (by simp)]
 refine Ae (An (Ae (wpAny_dictEpoch hod hdd ?_)))
 rw [if_neg (by simp)]
 refine An ?_
 simp only [show ¬ ((n0:Int) < 0) by omega,if_false,Int.toNat_natCast,Array.getElem?_eq_getElem hi]
 refine Ae (Ae (Dv tI (An ?_)))
 refine Ae (wpAny_isOneOf_keyiter tI ?_)
 show wpAny _ _ (setField (.ref jt) 1 (rawInt ((n0:Int) + 1)) >>= _) _ _ s
 have nx:(s.heap.update jt (Obj.mapFields (·.setIfInBounds 1 (rawInt ((n0:Int) + 1))))).IsKeyIter jt dq (n0 + 1) en.size ep :=
   ⟨_,Heap.get?_update_self _ hoi (Obj.isFreed_of_fields (Obj.data_mapFields di _)),(Obj.cls_mapFields ..).trans ci,by rw [Obj.data_mapFields di]; simp [rawInt]⟩
 refine wpAny_bind (wpAny_setField hoi di (by simp) (wpAny_bind (wpAny_holding (wpAny_bind (wpAny_isOneOf_keyiter (s:={ s with heap:=s.heap.update jt (Obj.mapFields (·.setIfInBounds 1 (rawInt ((n0:Int) + 1)))) }) nx.typeIs ?_)))))
 show wpAny _ _ (pure en[n0].key) _ _ _
 exact An (An ⟨_,rfl,An (hq _ nx (Heap.SameBut.update ..))⟩)
theorem aZP {Q:Option Value->Shared->Prop} (hh:A.handled=none) (hit:s.heap.IsKeyIter jt dq en.size en.size ep) (hod:s.heap.get? dq=some od) (hdd:od.data=.dict en ep)
   (hq:∀ h',Heap.ExtBut jt s.heap h'->Q none { s with heap:=h' }):wpAny (model prog w) A (pyNext (.ref jt)) Q E s:=by
 obtain ⟨oi,hoi,ci,di⟩:=id hit
 have ow:Builtin.Dict_items.ownsTuple "dict_keyiterator"=false:=by decide
 have tI:=hit.typeIs
 unfold pyNext
 refine Ae (wpAny_attempt (wpAny_callSpecial?_slot (name:=Str.ofString "__next__") tI Dx (Fl Dx tI F.entry_dict_keyiterator_next ?_ (F.args_dict_keyiterator_next_1 _))))
 refine Ae (An (Ae (Ae ?_)))
 refine Ae (Dv tI (An (Ae (wpAny_fieldsOf hoi di ?_))))
 simp only [ow,Bool.false_eq_true,if_false]
 show wpAny _ _ (if (Value.ref dq == Value.none)=true then _ else _) _ _ s
 rw [if_neg (by exact Ao)]
 refine Ae (An (Ae (wpAny_dictEntries hod hdd ?_)))
 rw [if_neg (by simp)]
 refine Ae (An (Ae (wpAny_dictEpoch hod hdd ?_)))
 rw [if_neg (by simp)]
 refine An ?_
 simp only [show ¬ ((en.size:Int) < 0) by omega,if_false,Int.toNat_natCast,Array.getElem?_eq_none (Nat.le_refl en.size)]
 refine Ae (Ae (Dv tI (An ?_)))
 show wpAny _ _ (setField (.ref jt) 0 .none >>= _) _ _ s
 refine wpAny_bind (wpAny_setField hoi di (by simp) ?_)
 show wpAny _ _ (newExc (Value.type "StopIteration") [] >>= _) _ _ _
 refine Ae ?_
 simp only [newTuple,newExc]
 refine wpAny_bind (wpAny_newObj_type (wpAny_bind (m:=firstArgMember _ _) (wpAny_of_eq (a:=Value.none) (by first | rfl | (simp only [firstArgMember]; rfl)) (wpAny_newObj_type ?_ (by size_fits)))) (by size_fits))
 simp only [raiseNew]
 refine Ae (wpAny_handled (?_:_))
 rw [show A.in1.handled=none by exact hh]
 refine Ae (An (wpAny_throw ?thr))
 case thr=>
  refine Ae (wpAny_isInstance (b:=true) (T := "StopIteration") ⟨_,Ax _ rfl,rfl⟩ isSubtype_stop ?_)
  exact An (hq _ (((Heap.SameBut.update ..).extBut.push _).push _))
end
def ItT (a:Addr) (o:Obj) (kvs:List (List Key × V)):It:=⟨λi H=>H a=some (.frz o (.dT kvs))/\i < kvs.length,λi H x H'=>H'=H/\∃ kv b,kvs[i]?=some kv/\x=.ref b/\H b=some (.tup (kv.1.map kV)),λi H=>H a=some (.frz o (.dT kvs))/\kvs.length=i⟩
theorem uK {X:Cx} {pins:List (Addr × Obj)} {σ:St} {H:Hp} {s:Shared} {a:Addr} {o:Obj} {kvs:List (List Key × V)} {ep:Nat} (I:Inv X pins σ H s) (ha:H a=some (.frz o (.dT kvs))) (hep:∃ es,o.data=.dict es ep) :
   kvs.length<=sizeLine/\(a == sysModules)=false/\∃ xs es,KT H kvs xs/\s.heap.get? a=some o/\o.data=.dict es ep/\o.ExactDict/\es.toList=xs.map (entryOfKey (tupleKind (bB X.prog X.w))):=by
 have ok:s.heap.get? a=some o/\ObjOk X.prog X.w H s.heap a (.dT kvs):=I.hok a _ ha
 obtain ⟨e,z,hd,xs,rel,o',es',ep',ho',hx,hdat,he,_⟩:=ok
 rw [e] at ho'
 cases ho'
 obtain ⟨es,hes⟩:=hep
 have q:=hdat
 rw [hes] at q
 cases q
 exact ⟨z,hd,xs,_,rel,e,hdat,hx,he⟩
theorem yW {P:Program} {w:World} {K:PySem.W.Frag} {tg:Expr} (a it:Addr) (o:Obj) (kvs:List (List Key × V)) (ep:Nat) (hep:∃ es,o.data=.dict es ep):Turn P w K tg (ItT a o kvs) [it] it (λi h=>h.IsKeyIter it a i kvs.length ep) where
 mem:=by simp
 obj:=λi h st b hb=>by
   obtain ⟨o,e,c,d⟩:=st
   rw [As.mp hb]
   exact ⟨o,e,λv z=>by rw [d] at z; cases z⟩
 keep:=λi h h' st k=>let ⟨o,ho,r⟩:=st; ⟨o,k it (by simp) o ho,r⟩
 item:=by
   intro X hP hw hK hc i pins s σ H E I hf st hg
   subst hP hw hK
   obtain ⟨ha,hi⟩:=hg
   obtain ⟨z,hd,xs,es,rel,ho,hdat,hx,he⟩:=uK I ha hep
   have hlv:=rel.length
   have hsz:es.size=xs.length:=by rw [<-Do,he,Ab]
   obtain ⟨f0,f1,f2,f3,f4,f5⟩:=hf it (by simp)
   obtain ⟨⟨k,b,v⟩,hxi,hk1,hk2,_⟩:=pI rel (Aa hi)
   have hie:i < es.size:=by omega
   have hkey:es[i].key=.ref b:=by
     have q:es[i]?=some (entryOfKey (tupleKind (bB X.prog X.w)) (k,b,v)):=by rw [<-Df,he,Ah,hxi]; rfl
     rw [Fo hie] at q
     rw [Bi q]
     rfl
   refine bJF (en:=es) (by rw [hsz,<-hlv]; exact st) ho hdat hie λh' st' sb=>?_
   rw [hkey]
   have I1:Inv X pins σ H { s with heap:=h' }:=I.turned (t':=s.toks) (λb o hb e=>(sb.2 b hb).trans e) f0 f1 f3 f4 f5
   obtain ⟨oi,e,c,d⟩:=id st'
   refine ⟨.ref b,rfl,pZ (s:={ s with heap:=h' }) e c d (by decide) ⟨.ref b,H,I1,rfl,⟨rfl,kvs[i],b,Aa hi,rfl,hk2⟩,?_,λb hb=>(hf b hb).1⟩⟩
   rw [hlv,<-hsz]
   exact st'
 done:=by
   intro X hP hw hK hc i pins s σ H E I hf st hg
   subst hP hw hK
   obtain ⟨ha,hi⟩:=hg
   obtain ⟨z,hd,xs,es,rel,ho,hdat,hx,he⟩:=uK I ha hep
   have hlv:=rel.length
   have hsz:es.size=xs.length:=by rw [<-Do,he,Ab]
   obtain ⟨f0,f1,f2,f3,f4,f5⟩:=hf it (by simp)
   exact aZP (en:=es) (I.ok.hd hc) (by rw [hsz,<-hlv]; rw [<-hi] at st; exact st) ho hdat λh' eb=>⟨rfl,I.turned (t':=s.toks) (λb o hb e=>eb b o hb e) f0 f1 f3 f4 f5⟩
 self:=λ_ _ _ _ _ st h=>wpAny_pyIter_keyiter st h
section
variable {prog:Program} {w:World} {A:Around} {E:Value->Shared->Prop} {s:Shared} {dq:Addr} {en:Array DictEntry} {ep:Nat} {od:Obj}
theorem aJB {Q:Value->Shared->Prop} (hs:(dq == sysModules)=false) (hod:s.heap.get? dq=some od) (hx:od.ExactDict) (hdd:od.data=.dict en ep)
   (hq:Q (.ref s.heap.objs.size) { s with heap:=s.heap.push { cls:=.type "dict_keyiterator",data:=.fields #[.ref dq,.int 0 0,.int en.size 0,.int ep 0] } }):wpAny (model prog w) A (pyIter (.ref dq)) Q E s:=by
 have tD:s.TypeIs (.ref dq) "dict" := ⟨od,hod,hx.1⟩
 refine wpAny_pyIter_slot tD F.slot_dict_iter (Fl F.slot_dict_iter tD F.entry_dict_iter ?_ (F.args_dict_iter_1 _))
 unfold Builtin.«dict.__iter__» ; refine Ae ?_
 unfold Builtin.Dict.dictSlotNone ; refine Ae (wpAny_notOrdered_dict tD ?_)
 show wpAny _ _ (pure (Value.ref dq)) _ _ s
 refine An ?_
 show wpAny _ _ (Builtin.Dict.showsAll dq >>= _) _ _ s
 unfold Builtin.Dict.showsAll
 rw [if_neg (by rw [hs]; decide)]
 refine Ae (An (Ae (wpAny_dictEntries hod hdd (Ae (wpAny_dictEpoch hod hdd ?_)))))
 refine Ae (Gc (An ⟨_,rfl, "dict_keyiterator",_,⟨_,Ax _ rfl,rfl⟩,F.slot_dict_keyiterator_next.lookup,(?_:_)⟩))
 simpa [rawInt] using hq
end
section
variable {X:Cx} {tg:Expr} {pins:List (Addr × Obj)} {σ:St} {H:Hp} {s:Shared} {a:Addr}
theorem aZR {kvs:List (List Key × V)} (I:Inv X pins σ H s) (ha:H a=some (.dT kvs)):∃ o es ep,s.heap.get? a=some o/\o.data=.dict es ep:=by
 obtain ⟨_,_,xs,_,o,es,ep,ho,_,hd,_⟩:=cX2 I.hok ha
 exact ⟨o,es,ep,ho,hd⟩
theorem bQB {o:Obj} {kvs:List (List Key × V)} (I:Inv X pins σ H s) (ha:H a=some (.frz o (.dT kvs))):∃ ep,∃ es,o.data=.dict es ep:=by
 have ok:s.heap.get? a=some o/\ObjOk X.prog X.w H s.heap a (.dT kvs):=I.hok a _ ha
 obtain ⟨e,_,_,xs,_,o',es,ep,ho,_,hd,_⟩:=ok
 rw [e] at ho
 cases ho
 exact ⟨ep,es,hd⟩
def mG (H:Hp) (a:Addr) (R:Obj->List (List Key × V)->Hp->Prop):Prop:=(∃ kvs,H a=some (.dT kvs)/\∀ o,R o kvs (upd H a (.frz o (.dT kvs))))\/∃ o kvs,H a=some (.frz o (.dT kvs))/\R o kvs H
theorem aJ9 {R:Obj->List (List Key × V)->Hp->Prop} (I:Inv X pins σ H s) (h:mG H a R) :
   ∃ o kvs H' ep,Inv X pins σ H' s/\H' a=some (.frz o (.dT kvs))/\(∃ es,o.data=.dict es ep)/\R o kvs H':=by
 rcases h with ⟨kvs,ha,q⟩ | ⟨o,kvs,ha,q⟩
 · obtain ⟨o,es,ep,ho,hd⟩:=aZR I ha
   exact ⟨o,kvs,_,ep,I.freeze ha rfl ho,aE,⟨es,hd⟩,q o⟩
 · obtain ⟨ep,es,hd⟩:=bQB I ha
   exact ⟨o,kvs,H,ep,I,ha,⟨es,hd⟩,q⟩
def bJG (tl:TE):TI:=λσ H R=>tl σ H (fS λa H1=>mG H1 a λo kvs H2=>R (ItT a o kvs) H2)
theorem mF {l:Expr} {tl:TE} (hl:PE X l tl):PI X tg l (bJG tl):=by
 intro pins s σ H R I h
 refine thn (hl pins s σ H _ I h) λv s1 ⟨x,H1,I1,r1,q1⟩=>?_
 unfold fS at q1
 split at q1
 · cases r1
   rename_i a0 _
   obtain ⟨o,kvs,H2,ep,I2,ha,hep,q⟩:=aJ9 I1 q1
   obtain ⟨z,hd,xs,es,rel,ho,hdat,hx,he⟩:=uK I2 ha hep
   have hsz:es.size=kvs.length:=by rw [<-Do,he,Ab,rel.length]
   refine aJB hd ho hx hdat ?_
   refine ⟨s1.heap.objs.size,[s1.heap.objs.size],_,_,H2,rfl,I2.kept (t':=s1.toks) λb o e=>Af _ e,yW a0 _ o kvs ep hep,⟨_,Ax _ rfl,rfl,by rw [hsz]; rfl⟩,λb hb=>?_,q⟩
   rw [As.mp hb]
   exact I2.fpOk (Ag _) (I2.hok.fresh (Ag _))
 · exact q1.elim
def cZ0:V->List V->Hp->VK->Prop:=λx vs H Q=>∃ a y ov,x=.ref a/\vs=[y]/\DGet H a y ov/\Q (ov.getD .non) H
end
section
variable {σ:St} {H:Hp} {Q:VK} {D:Ends} {a b:Addr} {kvs:List (List Key × V)} {k:List Key} {v w:V} {tl:TE} {R:It->Hp->Prop} {g:TG} {tb:TS} {o:Obj}
theorem bQ0 (Pv:Nat->St->Hp->Prop) (h0:Pv 0 σ H) (hl:∀ i σ H,i<=kvs.length->Pv i σ H->H a=some (.frz o (.dT kvs)))
   (hs:∀ i kv b σ H,kvs[i]?=some kv->H b=some (.tup (kv.1.map kV))->Pv i σ H->g (.ref b) σ H λσ2 H2=>tb { D with nx:=Pv (i + 1),ct:=Pv (i + 1),bk:=D.nx } σ2 H2) (hd:∀ σ H,Pv kvs.length σ H->D.nx σ H):qE (ItT a o kvs) g tb D σ H:=by
 refine ⟨λi m σ H=>m=kvs.length - i/\i<=kvs.length/\Pv i σ H,⟨kvs.length,by simp,Nat.zero_le _,h0⟩,?_⟩
 rintro i m σ H ⟨rfl,hi,p⟩
 have hr:=hl i σ H hi p
 by_cases hlt:i < kvs.length
 · refine .inr ⟨⟨hr,hlt⟩,Pv (i + 1),λσ' H' p'=>⟨kvs.length - (i + 1),by omega,rfl,hlt,p'⟩,λx H' y=>?_⟩
   obtain ⟨rfl,kv,b,hx,rfl,hb⟩:=y
   exact hs i kv b σ _ hx hb p
 · have e:i=kvs.length:=by omega
   subst e
   exact .inl ⟨⟨hr,rfl⟩,hd σ H p⟩
theorem bQS (h:tl σ H (fS λa H1=>mG H1 a λo kvs H2=>R (ItT a o kvs) H2)):bJG tl σ H R:=h
theorem uR {Rw:Obj->List (List Key × V)->Hp->Prop} (e:H a=some (.dT kvs)) (h:∀ o,Rw o kvs (upd H a (.frz o (.dT kvs)))):mG H a Rw:=.inl ⟨kvs,e,h⟩
theorem bZZ {Rw:Obj->List (List Key × V)->Hp->Prop} (e:H a=some (.frz o (.dT kvs))) (h:Rw o kvs H):mG H a Rw:=.inr ⟨o,kvs,e,h⟩
theorem cXF (h:∀ p,H p=none->Q (.ref p) (upd H p (.dT []))):bXH σ H Q:=h
theorem zS (e:Rd H a (.dT kvs)) (eb:H b=some (.tup (k.map kV))) (l:bX kvs k=some v) (h:Q v H):cJ4 (.ref a) (.ref b) H Q:=⟨a,v,rfl,.inr ⟨kvs,k,b,e,rfl,eb,l.symm⟩,h⟩
theorem uE (e:H a=some (.dT kvs)) (eb:H b=some (.tup (k.map kV))) (l:kvs.length < sizeLine) (h:D.nx σ (upd H a (.dT (dJ kvs k v)))):bXI D σ (.ref a) (.ref b) v H:=⟨a,_,rfl,.inr ⟨kvs,k,b,e,rfl,eb,l,rfl⟩,h⟩
theorem aXT (e:Rd H a (.dT kvs)) (eb:H b=some (.tup (k.map kV))) (h:Q ((bX kvs k).getD .non) H):cZ0 (.ref a) [.ref b] H Q:=⟨a,_,_,rfl,rfl,.inr ⟨kvs,k,b,e,rfl,eb,rfl⟩,h⟩
end
theorem aZQ {prog:Program} {w:World} {A:Around} {E:Value->Shared->Prop} {s:Shared} {Q:Int->Shared->Prop} (h:Q 0xFCA86420 { s with toks:=s.toks + 1 }):wpAny (model prog w) A (pyHash .none) Q E s:=by
 have tN:s.TypeIs .none "NoneType" := rfl
 unfold pyHash pyHashByItsType
 refine Ae ?_
 rw [cRoomFor,if_neg (by decide)]
 refine An (Ae (wpAny_specialOf tN F.slot_NoneType_hash.lookup ?_))
 show wpAny _ _ (if (some (Value.builtin "NoneType.__hash__") == some Value.none)=true then _ else _) Q E s
 rw [if_neg (by rw [beq_builtin_none]; decide)]
 refine Ae (wpAny_specialOf tN F.slot_NoneType_hash.lookup ?_)
 show wpAny _ _ (callSpecialIfBoundUnlessNone? .none "__hash__" _ >>= _) Q E s
 refine Ae (wpAny_callSpecialIfBoundUnlessNone?_slot tN F.slot_NoneType_hash (Fl F.slot_NoneType_hash tN F.entry_NoneType_hash (show wpAny _ _ (do ret (<-mkInt 0xFCA86420)) _ _ s from wpAny_ret_mkInt ?_) (F.args_NoneType_hash_1 _)))
 show wpAny _ _ (if (decide (-(2:Int) ^ 63<=0xFCA86420) && decide ((0xFCA86420:Int) < 2 ^ 63))=true then _ else _) Q E _
 rw [if_pos (by decide)]
 exact An h
def bZS:Option Key->Value->Bool
 | none,.none=>true
 | none,_=>false
 | some k,v=>kT k v
theorem cV {v:Value} (h:bZS none v=true):v=.none:=by
 cases v <;> first | rfl | (exact absurd h (by decide)) | cases h
theorem lE {k:Key} {v:Value} (h:kT k v=true):v≠.none:=λz=>by
 rcases bR h with ⟨i,t,_,e⟩ | ⟨x,t,_,e⟩ <;> rw [z] at e <;> cases e
def dJ4 (w:World):Option Key->Int
 | none=>0xFCA86420
 | some k=>dX7 w k
def aXK (prog:Program) (w:World):PySem.KeyKind prog w (Option Key) where
 is:=bZS
 hash:=dJ4 w
 inj:=λv a b ha hb=>by
   cases a with
   | none=>
     cases b with
     | none=>rfl
     | some b=>exact absurd (cV ha) (lE hb)
   | some a=>
     cases b with
     | none=>exact absurd (cV hb) (lE ha)
     | some b=>exact Dq some ((bB prog w).inj v a b ha hb)
 byValue:=λk v h=>by
   cases k with
   | none=>rw [cV h]; rfl
   | some k=>exact (bB prog w).byValue k v h
 pyHash:=fun {A E s k v Q} hv h=>by
   cases k with
   | none=>rw [cV hv]; exact aZQ h
   | some k=>exact (bB prog w).pyHash hv h
 eqBool:=fun {A E s a b u v Q} hu hv h=>by
   cases a with
   | none=>
     rw [cV hu]
     cases b with
     | none=>rw [cV hv]; exact SeqAt.EqAt.same _ _ _ _ _ (by simpa using h)
     | some b=>
       have h2:Q false s:=by simpa using h
       rcases bR (show kT b v=true from hv) with ⟨j,t,_,rfl⟩ | ⟨y,t,_,rfl⟩
       · exact SeqAt.EqAt.none_int _ _ _ _ _ _ h2
       · exact SeqAt.EqAt.none_str _ _ _ _ _ _ h2
   | some a=>
     cases b with
     | none=>
       rw [cV hv]
       have h2:Q false s:=by simpa using h
       rcases bR (show kT a u=true from hu) with ⟨j,t,_,rfl⟩ | ⟨y,t,_,rfl⟩
       · exact SeqAt.EqAt.int_none _ _ _ _ _ _ h2
       · exact SeqAt.EqAt.str_none _ _ _ _ _ _ h2
     | some b=>
       refine (bB prog w).eqBool hu hv ?_
       have e:decide (some a=some b)=decide (a=b):=Cp.mpr ⟨Bi,λz=>by rw [z]⟩
       rw [e] at h
       exact h
 «strs» := λk x t v h=>by
   cases k with
   | none=>exact absurd (cV h) (λz=>nomatch z)
   | some k=>exact (bB prog w).strs k x t v h
theorem dXA {prog:Program} {w:World} {h:Heap} {a:Addr} {f:Key->Option Value} (hm:h.MapOf (bB prog w) a f):h.MapOf (aXK prog w) a (λk=>k.bind f):=by
 obtain ⟨o,es,ep,ho,hx,hd,hk,hf⟩:=hm
 refine ⟨o,es,ep,ho,hx,hd,λe he=>?_,λk=>?_⟩
 · obtain ⟨k,h1,h2⟩:=hk e he
   exact ⟨some k,h1,h2⟩
 · cases k with
   | some k=>exact hf k
   | none=>
     show findBy bZS es none=none
     unfold findBy
     rw [Option.map_eq_none_iff,Array.find?_eq_none]
     intro e he z
     obtain ⟨k,h1,_⟩:=hk e he
     exact lE h1 (cV z)
section
variable {X:Cx}
def bXX:R2:=λx y H Q=>∃ a,y=.ref a/\((∃ ov,DGet H a x ov/\Q (.bl ov.isSome) H)\/(x=.non/\∃ kvs,Rd H a (.dK kvs)/\Q (.bl false) H))
theorem cJI (hu:X.A.units + 1 < cLine):OpR X (compareOp .In) bXX:=by
 intro pins s σ H x y v u Q I rx ry h
 obtain ⟨a,rfl,h⟩:=h
 cases ry
 rcases h with ⟨ov,g,q⟩ | ⟨rfl,kvs,e,q⟩
 · exact dX6 hu I g rx λs3 I3=>⟨.bl ov.isSome,H,I3,rfl,q⟩
 · cases rx
   obtain ⟨z,hd,vs,rel,dd⟩:=gY I.hok e
   exact wpAny_in_of (knd:=aXK X.prog X.w) (k:=none) (key:=Value.none) rfl hd (dXA dd.mapOf) ⟨.bl false,H,I.tok _,rfl,q⟩
theorem bXY (hu:X.A.units + 1 < cLine):MtR X "dict.get" cZ0:=by
 intro pins s σ H x vs v us Q I rx rv h
 obtain ⟨a,y,ov,rfl,rfl,g,q⟩:=h
 cases rx
 obtain ⟨u,rfl,ru⟩:=rv.one
 exact dXM hu I g ru λw1 s1 I1 r1=>⟨_,H,I1,r1,q⟩
end
section
variable {H:Hp} {Q:VK} {a:Addr} {kvs:List (Key × V)} {z:Str}
theorem dXG (e:Rd H a (.dK kvs)) (h:Q (.bl false) H):bXX .non (.ref a) H Q:=⟨a,rfl,.inr ⟨rfl,kvs,e,h⟩⟩
theorem bJ2 (e:Rd H a (.dK kvs)) (h:Q (.bl (bX kvs (Sum.inr z)).isSome) H):bXX (.str z) (.ref a) H Q:=⟨a,rfl,.inl ⟨_,.inl ⟨kvs,.inr z,e,rfl,rfl⟩,h⟩⟩
end
section
variable {X:Cx}
def dJ1:R2:=λx y H Q=>∃ (p q:Addr) (a b c d:Int),x=.ref p/\y=.ref q/\H p=some (.tup [.int a,.int b])/\H q=some (.tup [.int c,.int d])/\Q (.bl (decide (a=c/\b=d))) H
theorem dJH (hu:X.A.units < cLine):OpR X (compareOp .Eq) dJ1:=by
 intro pins s σ H x y v u Q I rx ry h
 obtain ⟨p,q,a,b,c,d,rfl,rfl,hp,hq,k⟩:=h
 cases rx
 cases ry
 obtain ⟨its,r1,l1,_⟩:=I.tuple (SqT.of (K:=X.K) hp)
 obtain ⟨its2,r2,l2,_⟩:=I.tuple (SqT.of (K:=X.K) hq)
 obtain ⟨u1,u2,rfl,⟨t1,rfl⟩,⟨t2,rfl⟩⟩:=r1.two
 obtain ⟨w1,w2,rfl,⟨t3,rfl⟩,⟨t4,rfl⟩⟩:=r2.two
 refine SeqAt.eq_tupleAt (e:=λj=>if j=0 then a == c else b == d) (show s.heap.IsTuple p _ from l1) (show s.heap.IsTuple q _ from l2) hu (λj h1 h2=>?_) ?_
 · match j,h1,h2 with
   | 0,_,_=>exact SeqAt.EqAt.int_int a t1 c t3
   | 1,_,_=>exact SeqAt.EqAt.int_int b t2 d t4
   | j + 2,h1,_=>exact absurd h1 (by show ¬ j + 2 < 2; omega)
 · refine ⟨.bl (decide (a=c/\b=d)),H,I,?_,k⟩
   show Value.bool _=Value.bool _
   congr 1
   show (((if (0:Nat)=0 then a == c else b == d) && ((if (1:Nat)=0 then a == c else b == d) && true)) && true)=_
   rw [if_pos rfl,if_neg (by decide),Bool.and_true,Bool.and_true]
   by_cases e1:a=c
   · by_cases e2:b=d
     · simp [e1,e2]
     · simp [e1,e2]
   · simp [e1]
theorem dZP {H:Hp} {Q:VK} {p q:Addr} {a b c d:Int} (hp:H p=some (.tup [.int a,.int b])) (hq:H q=some (.tup [.int c,.int d])) (h:Q (.bl (decide (a=c/\b=d))) H):dJ1 (.ref p) (.ref q) H Q:=⟨p,q,a,b,c,d,rfl,rfl,hp,hq,h⟩
end
end L2
set_option maxHeartbeats 4000000
namespace L2
open PySem PySem.Spec PyProof.Rows
open PySem.AutoSeq1 (wpAny_loadPart')
open PySem.MeetsSeq PySem.MeetsSeq2 PySem.MeetsSeq3
def EqB (P:Program) (w:World) (A:Around) (s:Shared) (u v:Value):Prop:=∃ b:Bool,∀ (E:Value->Shared->Prop) (Q:Bool->Shared->Prop),Q b s->wpAny (model P w) A (eqBool u v) Q E s
section
variable {P:Program} {w:World} {A:Around} {E:Value->Shared->Prop} {s:Shared} {l:Addr} {xs:Array Value}
theorem EqB.same (u:Value):EqB P w A s u u:=⟨true,λE Q hq=>SeqAt.EqAt.same u P w E Q hq⟩
end
section
variable {X:Cx}
end
section
variable {X:Cx} {l:Expr} {ta:TA} {elts:List Expr} {x1:Nat} {tp p pos:Pos}
end
end L2
set_option maxHeartbeats 4000000
namespace L2
open PySem PySem.Spec PyProof.Rows
section
variable {prog:Program} {w:World} {A:Around} {E:Value->Shared->Prop} {s:Shared}
def CtxNone (h:Heap) (ea:Addr):Prop:=∃ o fs,h.get? ea=some o/\o.data=.fields fs/\fs[2]?=some .none
theorem CtxNone.ext {h h':Heap} {ea:Addr} (c:CtxNone h ea) (k:∀ o,h.get? ea=some o->h'.get? ea=some o):CtxNone h' ea:=by
 obtain ⟨o,fs,h1,h2,h3⟩:=c
 exact ⟨o,fs,k o h1,h2,h3⟩
end
end L2
set_option maxHeartbeats 4000000
namespace L2
open PySem PySem.Spec PyProof.Rows
section
variable {X:Cx} {pins:List (Addr × Obj)} {σ:St} {H:Hp} {s:Shared} {ea:Addr}
end
section
variable {prog:Program} {w:World} {A:Around} {E:Value->Shared->Prop} {s:Shared}
theorem CtxNone.some {h:Heap} {ea:Addr} (c:CtxNone h ea):∃ o,h.get? ea=Option.some o:=by
 obtain ⟨o,_,e,_⟩:=c
 exact ⟨o,e⟩
end
end L2
set_option maxHeartbeats 4000000
namespace L2
open PySem PySem.Spec PyProof.Rows
section
variable {X:Cx} {tg:Expr}
end
section
variable {X:Cx} {tg l a b:Expr} {tl ta tb:TE} {p pos:Pos}
end
end L2
set_option maxHeartbeats 4000000
namespace L2
open PySem PySem.Spec PyProof.Rows
section
variable {P:Program} {w:World} {K:PySem.W.Frag} {mg:Str->Option Value} {base:Heap}
end
section
variable {X:Cx} {pn:List (Addr × Obj)} {ea:Addr} {k k':Nat} {ps:List Str} {sp:Sp} {x:Str} {p pos:Pos} {e:Expr} {es:List Expr} {t:TA}
end
section
variable {X:Cx} {pins:List (Addr × Obj)}
end
end L2
set_option maxHeartbeats 4000000
namespace L2
open PySem PySem.Spec PyProof.Rows
section
variable {M:Model} {A:Around} {E:Value->Shared->Prop} {s:Shared} {B:Heap} {env:Env} {outer l:List Env} {L e:Addr} {cls fl:Value} {d:Option Addr} {Q:Unit->Shared->Prop}
theorem xQ {o:Option Addr} (F:Fly B l e cls d fl s.heap) (hQ:∀ h' fl',Fly B l e cls d fl' h'->s.heap.UpToSlots h'->Q () { s with heap:=h' }):wpAny M A (setFlight (.ref e) o) Q E s:=by
 obtain ⟨hB,hn,hl,oe,vs,T,oT,ts,he,hc,hd,h1,hT,hTe,gT,dT,t3,c2⟩:=F
 have z3:3 < ts.size:=(Cj.mp t3).1
 unfold setFlight
 refine Ae (Fy he hd h1 ?_)
 rw [if_pos (show (Value.ref T != Value.none)=true by simp)]
 refine Gd gT dT z3 (hQ _ (o.elim .none λf=>rawInt f) ?_ λb o q nf=>⟨o.slots,nO gT dT b o q nf⟩)
 have dm:=Fw dT (·.setIfInBounds 3 (o.elim Value.none λf=>rawInt f))
 refine ⟨λb u q=>?_,hn,hl.of_keeps λb u q nf=>⟨u,nO gT dT b u q nf,rfl⟩,oe,vs,T,_,_,?_,hc,hd,h1,hT,hTe,Heap.get?_update_self _ gT (Obj.isFreed_of_fields dm),dm,by simp [z3],c2⟩
 · rw [By _ _ (λz:T=b=>by rw [<-z,hT] at q; cases q)]
   exact hB b u q
 · rw [By _ _ hTe]
   exact he
theorem zZ {α:Type} {what:String} {cenv:Env} {Q:α->Shared->Prop} (F:Fly B l e cls d fl s.heap) (hE:∀ h' fl',Fly B l e cls d fl' h'->s.heap.UpToSlots h'->E (.ref e) { s with heap:=h' }) :
   wpAny M A (passOn what (.ref e) cenv:Sem α) Q E s:=by
 obtain ⟨oe,vs,T,oT,ts,he,hc,hd,h1,_⟩:=id F.on
 unfold PySem.passOn
 refine Ae (Fy he hd h1 ?_)
 rw [if_neg (show ¬ ((Value.ref T == Value.none)=true) by simp)]
 exact Ae (xQ F λh' fl' F' up=>wpAny_throw (hE h' fl' F' up))
theorem Fly.hid {h h':Heap} {C:Addr} {oC:Obj} (F:Fly B l e cls d fl h) (hC:B.get? C=some oC) (sb:Heap.SameBut C h h'):Fly (PySem.W.hideAll B [C]) l e cls d fl h':=by
 have nC:∀ b,B.get? b=none->b≠C:=λb hb z=>by rw [z,hC] at hb; cases hb
 have gone:∀ b,B.get? b=none->(PySem.W.hideAll B [C]).get? b=none:=λb hb=>by
   cases q:(PySem.W.hideAll B [C]).get? b with
   | none=>rfl
   | some o=>
     have:=Fv _ q
     rw [hb] at this
     cases this
 obtain ⟨hB,hn,hl,oe,vs,T,oT,ts,he,hc,hd,h1,hT,hTe,gT,r⟩:=F
 refine ⟨λb o q=>?_,gone e hn,?_,oe,vs,T,oT,ts,(sb.2 e (nC e hn)).trans he,hc,hd,h1,gone T hT,hTe,(sb.2 T (nC T hT)).trans gT,r⟩
 · have hb:b≠C:=λz=>by
     rw [z,PySem.W.hideAll_none _ Al] at q
     cases q
   exact (sb.2 b hb).trans (hB b o (Fv _ q))
 · have all:∀ l:List Env,h.FunFrames B l->h'.FunFrames (PySem.W.hideAll B [C]) l:=λl=>by
     induction l with
     | nil=>exact λ_=>trivial
     | cons env r ih=>exact λ⟨hk,⟨L,o,hf,hn,ho,hd⟩,hr⟩=>⟨hk,⟨L,o,hf,gone L hn,(sb.2 L (nC L hn)).trans ho,hd⟩,ih hr⟩
   exact all l hl
end
def LX (X:Cx) (Ex:XK):Value->Shared->Prop:=λe s'=>∃ ea cls d B H' fl,e=.ref ea/\s'.os=X.s₀.os/\AllBare s'.gens/\Fly B X.stack ea cls d fl s'.heap/\HOk X.prog X.w H' B/\UnB X.fs X.H₀ H' X.s₀.heap B s'.heap/\Ex cls d H'
def eQP (X:Cx) (Ex:XK):Prop:=∀ e s',X.Ok->LX X Ex e s'->X.xe e s'
def CErr (X:Cx) (Ex:XK) (C:Addr) (e:Value) (s':Shared):Prop:=∃ ea cls d B H' fl m,e=.ref ea/\s'.os=X.s₀.os/\AllBare s'.gens/\Fly B X.stack ea cls d fl s'.heap/\B.Ns C m/\HOk X.prog X.w H' B/\H' C=none/\UnB X.fs X.H₀ H' X.s₀.heap B s'.heap/\X.s₀.heap.objs.size<=C/\Ex cls d H'
theorem CErr.post {X:Cx} {Ex:XK} {C:Addr} {e:Value} {s':Shared} (h:CErr X Ex C e s') (ok:X.Ok) (hL:eQP X Ex):∃ m,s'.heap.Ns C m/\∀ h',Heap.SameBut C s'.heap h'->∀ cenv:Env,cenv.locals=C->
   wpAny (model X.prog X.w) X.A (passOn "comprehension.variables-let-go" e cenv:Sem Value) (λ_ _=>False) X.xe { s' with heap:=h' }:=by
 obtain ⟨ea,cls,d,B,H',fl,m,rfl,os,bare,F,nB,hok,hC,un,hz,q⟩:=h
 refine ⟨m,nB.keeps λb o e=>F.stays b o e,λh' sb cenv _=>?_⟩
 obtain ⟨oC,_,_,gC,_⟩:=id nB
 refine zZ (s:={ s' with heap:=h' }) (F.hid gC sb) λh2 fl2 F2 up=>hL _ _ ok ?_
 have neC:∀ b o,X.s₀.heap.get? b=some o->b≠C:=λb o e z=>absurd (Aq e) (Nat.not_lt.mpr (by rw [z]; exact hz))
 have hid:∀ b o,B.get? b=some o->b≠C->(PySem.W.hideAll B [C]).get? b=some o:=λb o e n=>PySem.W.hideAll_get _ e λhm=>n (As.mp hm)
 refine ⟨ea,cls,d,_,H',fl2,rfl,os,bare,F2,hok.down λb o u e g=>hid b o g λz=>?_,⟨λb o e n hb=>hid b o (un.keep b o e n hb) (neC b o e),λb o e n hb=>?_,un.free,λb o e hb=>?_,un.tups,un.frzs,un.tbls⟩,q⟩
 · rw [z,hC] at e
   cases e
 · obtain ⟨sl,q1⟩:=un.slot b o e n hb
   obtain ⟨_,o2,g2,nf⟩:=ok.funs.mem hb
   rw [e] at g2
   cases g2
   obtain ⟨sl2,q2⟩:=up b _ ((sb.2 b (neC b o e)).trans q1) nf
   exact ⟨sl2,q2⟩
 · obtain ⟨o',q1⟩:=un.there b o e hb
   exact ⟨o',hid b o' q1 (neC b o e)⟩
section
variable {X:Cx} {Ex:XK} {N:List Str} {scope:Scope} {cl:List (Str × Addr)} {vals:St->St} {tg elt iter:Expr} {ifs:List Expr} {pos spos py:Pos} {wi:TI} {g:TG} {tests:TT} {te:TE}
end
end L2
set_option maxHeartbeats 4000000
namespace L2
open PySem PySem.Spec PyProof.Rows
end L2
set_option maxHeartbeats 4000000
namespace L2
open PySem PySem.Spec PyProof.Rows
section
variable {prog:Program} {w:World} {A:Around} {E:Value->Shared->Prop} {R:Result->Shared->Prop} {old:Heap} {S l it:Addr} {vs:List Value} {J:Nat->Obj->Prop}
end
section
variable {prog:Program} {w:World} {A:Around} {E:Value->Shared->Prop} {s:Shared}
def bare (led:Bool):Obj:={ cls:=.type "set",dict:=none,data:=.set #[] 0 (.fresh 0 0 led) }
end
end L2
set_option maxHeartbeats 4000000
namespace L2
open PySem PySem.Spec PyProof.Rows
def cZT:List V->Hp->VK->Prop:=λxs H Q=>(∃ j:Int,xs=[.int j]/\∀ r,H r=none->Q (.ref r) (upd H r (.rng 0 j)))\/(∃ i j:Int,xs=[.int i,.int j]/\∀ r,H r=none->Q (.ref r) (upd H r (.rng i j)))
theorem Inv.rngNew {X:Cx} {pins:List (Addr × Obj)} {σ:St} {H:Hp} {s:Shared} {lo hi:Int} {t u v:Tok} {tk:Nat} (I:Inv X pins σ H s) :
   Inv X pins σ (upd H s.heap.objs.size (.rng lo hi)) { s with heap:=s.heap.push { cls:=.type "range",data:=.fields #[.int lo t,.int hi u,.int 1 v] },toks:=tk } :=
 (I.kept (t':=tk) λb o e=>Af _ e).adopt (I.freAt (Ag _)) (I.hok.fresh (Ag _)) ⟨t,u,v,Ax _ rfl⟩
theorem cJ2 {X:Cx}:CallR X (.type "range") cZT:=by
 intro pins s σ H xs us Q I r h
 rcases h with ⟨j,rfl,q⟩ | ⟨i,j,rfl,q⟩
 · obtain ⟨u,rfl,⟨t,rfl⟩⟩:=gR r
   exact call_range_1 ⟨.ref _,_,I.rngNew,rfl,q _ (I.hok.fresh (Ag _))⟩
 · obtain ⟨u,w',rfl,⟨t,rfl⟩,⟨t',rfl⟩⟩:=rX r
   exact call_range_2 ⟨.ref _,_,I.rngNew,rfl,q _ (I.hok.fresh (Ag _))⟩
theorem cXV {H:Hp} {Q:VK} {j:Int} (h:∀ r,H r=none->Q (.ref r) (upd H r (.rng 0 j))):cZT [.int j] H Q:=.inl ⟨j,rfl,h⟩
end L2
set_option maxHeartbeats 4000000
namespace L2
open PySem PySem.Spec PyProof.Rows
def bXP:List V->Hp->VK->Prop:=λxs H Q=>∃ (a:Addr) (n:Nat),xs=[.ref a]/\H a=some (.rng 0 (n:Int))/\n<=100000/\∀ r,H r=none->Q (.ref r) (upd H r (.lst ((List.range n).map λi=>V.int ((i:Nat):Int))))
theorem cQR {X:Cx} (hc:X.calm=true):CallR X (.type "list") bXP:=by
 intro pins s σ H xs us Q I r h
 obtain ⟨a,n,rfl,ha,hn,q⟩:=h
 obtain ⟨u,rfl,ru⟩:=gR r
 cases ru
 obtain ⟨t0,t1,t2,ho⟩:=I.hok a _ ha
 refine call_list_range (n:=n) (I.ok.hd hc) ho (small_one (by decide) (by decide) (by omega) (by omega)) (by rw [rangeSize_nat]; omega) (by omega) λh' tk acc c hk hS hacc=>?_
 refine ⟨.ref s.heap.objs.size,_,I.laid (a:=s.heap.objs.size) (o:=.lst ((List.range n).map λi=>V.int ((i:Nat):Int))) (t':=tk) hk (Ag _) ⟨by rw [Ab,Bx]; exact bU hn,acc.toList,c,?_,by rw [hS]⟩,rfl,q _ (I.hok.fresh (Ag _))⟩
 refine uL (by rw [Ab,Bx,Do,hacc.1]) λj x u hx hu=>?_
 obtain ⟨tk',rfl⟩:=hacc.2 j u (by rw [<-Df]; exact hu)
 have hj:j < n:=by
   have:=(Ad.mp hu).1
   rw [Do,hacc.1] at this
   exact this
 rw [Ah,Fs hj] at hx
 cases hx
 exact ⟨tk',by rw [show (0:Int) + ((j:Nat):Int) * 1=((j:Nat):Int) by omega]⟩
theorem cQY {H:Hp} {Q:VK} {a:Addr} {n:Nat} (ha:H a=some (.rng 0 (n:Int))) (hn:n<=100000) (h:∀ r,H r=none->Q (.ref r) (upd H r (.lst ((List.range n).map λi=>V.int ((i:Nat):Int))))):bXP [.ref a] H Q:=⟨a,n,rfl,ha,hn,h⟩
theorem bXA {P:Program} {w:World} {K:PySem.W.Frag} {mg:Str->Option Value} {base:Heap} {f:Addr} {fd:FuncData} {ps:List Str} {x:Str} (sp:Nat->Sp) (h0:∀ vs H Q E,¬ sp 0 vs H Q E) (hm:mg x=some (.ref f)) (hk:PySem.W.keepIn K (.ref f)=true) (hb:Binds K fd ps [])
   (st:∀ d n,Cal P w K mg base (d + 1) x ps (sp n)->FnOk P w K mg base CX0 (d + 2) f fd ps (sp (n + 1))):∀ n,FnOk P w K mg base CX0 (n + 1) f fd ps (sp n)
 | 0=>⟨λvs H Q E h=>(h0 _ _ _ _ h).elim,λA outer s H args us vs Q E _ _ _ _ h=>(h0 _ _ _ _ h).elim⟩
 | n + 1=>st n n ⟨f,fd,bXA sp h0 hm hk hb st n,hm,hk,hb⟩
theorem Lsts.app {H1 Hc:Hp} {ps qs:List Addr} {fs gs:List (List V)} (t:Lsts H1 Hc ps fs) (u:Lsts H1 Hc qs gs):Lsts H1 Hc (ps ++ qs) (fs ++ gs):=by
 refine ⟨by rw [Aj,Aj,t.1,u.1],λj p v hp hv=>?_⟩
 by_cases h:j < ps.length
 · rw [Ap h] at hp
   rw [Ap (by rw [<-t.1]; exact h)] at hv
   exact t.2 j p v hp hv
 · rw [Av (by omega)] at hp
   rw [Av (by rw [<-t.1]; omega),<-t.1] at hv
   exact u.2 _ p v hp hv
section
variable {g:TG} {tests:TT} {te:TE} {σ0:St} {Q:VK} {H1:Hp}
theorem bJ9 {K:PySem.W.Frag} {a:Addr} {xs:List V} (f:Nat->List V) (ha:rdL H1 a=some xs) (hl:xs.length < sizeLine)
   (hs:∀ (i:Nat) x Hc (A:VK) (B:Hp->Prop),xs[i]?=some x->Same H1 Hc->(∀ q Hd,Hc q=none->Same Hc Hd->Hd q=some (.lst (f i))->A (.ref q) Hd)->
     g x σ0 Hc λσ2 H2=>Wk σ0 σ2/\tests σ2 H2 λb H3=>if b=true then te σ2 H3 A else B H3)
   (fin:∀ D Hd ps,H1 D=none->Same H1 Hd->Hd D=some (.lst (ps.map V.ref))->ps.length=xs.length->Lsts H1 Hd ps ((List.range xs.length).map f)->(∀ p∈ps,p≠D)->Q (.ref D) Hd):eF g tests te σ0 Q (Itl K a) H1:=by
 refine gQ (n:=xs.length) (λD i ys Hc=>Same H1 Hc/\∃ ps,ys=ps.map V.ref/\ps.length=i/\Lsts H1 Hc ps ((List.range i).map f)/\∀ p∈ps,p≠D) hl (λD hD=>⟨aF hD _,[],rfl,rfl,.nil,λp hp=>nomatch hp⟩)
   (λD i ys Hc _ r h=>⟨xs,xs[i],bD (aI r.1 ha),by simp [h]⟩) (λD ys Hc _ r=>⟨xs,bD (aI r.1 ha),Nat.le_refl _⟩) ?_ ?_
 · rintro D i ys Hc x H' A B hD hi ⟨sm,ps,rfl,hn,ls,nd⟩ hDc ⟨rfl,hz⟩ ha' hb
   refine hs i x H' A B (hz xs (bD (aI sm ha))) sm (λq Hd hq sd hd=>?_)
   have nq:q≠D:=λz=>by rw [z,hDc] at hq; cases hq
   have nd2:∀ p∈ps ++ [q],p≠D:=λp hp=>by
     rcases Bj.mp hp with e | e
     · exact nd p e
     · rw [As.mp e]; exact nq
   refine ha' _ _ (sd _ _ hDc) ⟨aW hD (sm.trans sd),ps ++ [q],by rw [Ak]; rfl,by rw [Aj,hn]; rfl,?_,nd2⟩
   rw [Ce,Ak]
   exact ((ls.keep sd).snoc (none_of sm hq) hd).put nd2
 · rintro D ys Hc hD ⟨sm,ps,rfl,hn,ls,nd⟩ hDc _
   exact fin D Hc ps hD sm hDc hn ls nd
theorem aZ2 {n:Nat} {lo:Int} (f:Nat->Option V) (hl:n < sizeLine)
   (hs:∀ (i:Nat) Hc (A:VK) (B:Hp->Prop),i < n->Same H1 Hc->(∀ y,f i=some y->∀ Hd,Same Hc Hd->A y Hd)->(f i=none->∀ Hd,Same Hc Hd->B Hd)->
     g (.int (lo + i)) σ0 Hc λσ2 H2=>Wk σ0 σ2/\tests σ2 H2 λb H3=>if b=true then te σ2 H3 A else B H3)
   (fin:∀ D Hd,H1 D=none->Same H1 Hd->Hd D=some (.lst ((List.range n).filterMap f))->Q (.ref D) Hd):eF g tests te σ0 Q (Itr lo n) H1:=by
 refine gQ (n:=n) (λD i ys Hc=>Same H1 Hc/\ys=(List.range i).filterMap f) hl (λD hD=>⟨aF hD _,rfl⟩) (λD i ys Hc _ r h=>h) (λD ys Hc _ r=>Ag n) ?_ ?_
 · rintro D i ys Hc x H' A B hD hi ⟨sm,rfl⟩ hDc ⟨rfl,rfl⟩ ha' hb
   refine hs i H' A B hi sm (λy hy Hd sd=>?_) (λhn Hd sd=>?_)
   · exact ha' _ _ (sd _ _ hDc) ⟨aW hD (sm.trans sd),(fN hy).symm⟩
   · exact hb _ (sd _ _ hDc) ⟨sm.trans sd,(hV hn).symm⟩
 · rintro D ys Hc hD ⟨sm,rfl⟩ hDc _
   exact fin D Hc hD sm hDc
end
end L2
set_option maxHeartbeats 1000000
namespace L2
open PySem
def gO (mask:Nat) (x:Nat × Nat):Nat->Nat × Nat
 | 0=>x
 | n + 1=>gO mask (SetTable.leap mask x.1 x.2) n
theorem tG (mask m:Nat):∀ (n:Nat) (x:Nat × Nat),gO mask x (n + m)=gO mask (gO mask x n) m
 | 0,x=>by rw [Nat.zero_add]; rfl
 | n + 1,x=>by rw [Nat.succ_add]; exact tG mask m n _
theorem sM (mask:Nat):∀ (n:Nat) (x:Nat × Nat),(gO mask x n).2=x.2 / 32 ^ n
 | 0,x=>by show x.2=x.2 / 1; rw [Nat.div_one]
 | n + 1,x=>by
   show (gO mask (SetTable.leap mask x.1 x.2) n).2=_
   rw [sM mask n]
   show x.2 / 32 / 32 ^ n=_
   rw [Nat.div_div_eq_div_mul,Nat.pow_succ,Nat.mul_comm]
def cyc (M:Nat):Nat->Nat
 | 0=>0
 | n + 1=>(cyc M n * 5 + 1) % M
theorem nI (mask:Nat):∀ (n a:Nat),(gO mask (cyc (mask + 1) a,0) n)=(cyc (mask + 1) (a + n),0)
 | 0,a=>rfl
 | n + 1,a=>by
   show gO mask (SetTable.leap mask (cyc (mask + 1) a) 0) n=_
   have e:SetTable.leap mask (cyc (mask + 1) a) 0=(cyc (mask + 1) (a + 1),0):=by
     show ((cyc (mask + 1) a * 5 + 1 + 0 / 32) % (mask + 1),0 / 32)=_
     rw [Nat.zero_div,Nat.add_zero]
     rfl
   rw [e,nI mask n (a + 1),Nat.add_right_comm,Nat.add_assoc]
def Full (M:Nat):Prop:=cyc M M=0/\∀ e,e < M->∃ n,n < M/\cyc M n=e
theorem aXU (M:Nat) (h:cyc M M=0):∀ n,cyc M (M + n)=cyc M n
 | 0=>h
 | n + 1=>by
   show (cyc M (M + n) * 5 + 1) % M=_
   rw [aXU M h n]
   rfl
theorem Full.reach {mask:Nat} (F:Full (mask + 1)) {x e:Nat} (hx:x < mask + 1) (he:e < mask + 1):∃ m,m<=mask/\(gO mask (x,0) m).1=e:=by
 obtain ⟨a,ha,rfl⟩:=F.2 x hx
 obtain ⟨b,hb,rfl⟩:=F.2 e he
 by_cases h:a<=b
 · exact ⟨b - a,by omega,by rw [nI,Nat.add_sub_cancel' h]⟩
 · exact ⟨mask + 1 + b - a,by omega,by rw [nI,show a + (mask + 1 + b - a)=mask + 1 + b by omega,aXU _ F.1]⟩
theorem aQ0 {mask:Nat}:∀ (n:Nat) {x:Nat × Nat},x.1 < mask + 1->(gO mask x n).1 < mask + 1
 | 0,x,h=>h
 | n + 1,x,h=>aQ0 n (x:=SetTable.leap mask x.1 x.2) (Nat.mod_lt _ (Nat.succ_pos _))
theorem eQT {mask:Nat} (F:Full (mask + 1)) {i per e:Nat} (hi:i < mask + 1) (hp:per < 2 ^ 64) (he:e < mask + 1):∃ m,m<=mask + 13/\(gO mask (i,per) m).1=e:=by
 obtain ⟨m,hm,e1⟩:=F.reach (x:=(gO mask (i,per) 13).1) (aQ0 13 hi) he
 refine ⟨13 + m,by omega,?_⟩
 rw [tG]
 have hz:(gO mask (i,per) 13).2=0:=by
   rw [sM]
   exact Nat.div_eq_of_lt (Bb hp (by decide))
 rw [show gO mask (i,per) 13=((gO mask (i,per) 13).1,0) from Prod.ext rfl hz]
 exact e1
section
variable {prog:Program} {w:World} {A:Around} {E:Value->Shared->Prop} {s:Shared}
end
end L2
set_option maxHeartbeats 4000000
namespace L2
open PySem PySem.Spec PyProof.Rows
section
variable {X:Cx} {a b:Expr} {rest:List Expr} {pos:Pos} {ta tb:TE}
end
end L2
set_option maxHeartbeats 4000000
namespace L2
open PySem PySem.Spec PyProof.Rows
open PySem.AutoSeq1 (wpAny_loadPart')
open PySem.MeetsSeq PySem.MeetsSeq2 PySem.MeetsSeq3
section
variable {P:Program} {w:World} {A:Around} {E:Value->Shared->Prop} {s:Shared} {l b:Addr} {xs ys:Array Value} {as bs:List Int}
end
open PySem.W (KasT kas_sort kas_cmp kas_item kas_item_eq kas_range kas_runs kas_kind kas_st)
section
variable {prog:Program} {w:World} {A:Around} {E:Value->Shared->Prop} {s:Shared}
end
end L2
set_option maxHeartbeats 4000000
namespace L2
open PySem PySem.Spec PyProof.Rows
end L2
set_option maxHeartbeats 1000000
namespace L2
open PySem
theorem getD_none {owner:Array (Option Nat)} {j:Nat} (h:owner.getD j (some 0)=none):j < owner.size/\owner.getD j none=none:=by
 have hj:j < owner.size:=by
   refine Nat.lt_of_not_le λz=>?_
   rw [Fd,Array.getElem?_eq_none z] at h
   cases h
 rw [Fd,Fo hj] at h ⊢
 exact ⟨hj,h⟩
theorem getD_some {owner:Array (Option Nat)} {j:Nat} (hj:j < owner.size) (h:owner.getD j (some 0)≠none):∃ k,owner.getD j none=some k:=by
 rw [Fd,Fo hj] at h ⊢
 cases e:owner[j] with
 | none=>rw [e] at h; exact absurd rfl h
 | some k=>exact ⟨k,rfl⟩
section
variable {prog:Program} {w:World} {A:Around} {E:Value->Shared->Prop} {s:Shared}
end
open PySem.Spec PyProof.Rows
def Alx (H:Hp):Nat->V->V->Prop
 | 0,x,y=>x=y/\(bV x=true\/∃ p,x=.ref p)
 | n + 1,x,y=>(x=y/\(bV x=true\/∃ p,x=.ref p))\/∃ p q,x=.ref p/\y=.ref q/\((∃ xs ys,rdL H p=some xs/\rdL H q=some ys/\xs.length=ys.length/\∀ (j:Nat) x' y',xs[j]?=some x'->ys[j]?=some y'->Alx H n x' y')\/∃ kvs kws,Rd H p (.dK kvs)/\Rd H q (.dK kws)/\DEq kvs kws)
theorem Alx.same {H:Hp} {n:Nat} {x:V} (h:bV x=true\/∃ p,x=.ref p):Alx H n x x:=by
 cases n with
 | zero=>exact ⟨rfl,h⟩
 | succ n=>exact .inl ⟨rfl,h⟩
end L2
set_option maxHeartbeats 1000000
namespace L2
open PySem PySem.Spec PyProof.Rows
def hdl (i:Nat) (ts:TS) (D:Ends) (cls:Value) (d:Option Addr) (σ1:St) (H1:Hp):Prop:=∀ ea,H1 ea=none->
 ts { nx:=λσ2 H2=>D.nx (σ2.set i none) H2,rt:=D.rt,bk:=λσ2 H2=>D.bk (σ2.set i none) H2,ct:=λσ2 H2=>D.ct (σ2.set i none) H2 } (σ1.set i (some (.ref ea))) (upd H1 ea (qW ea cls d))
section
variable {X:Cx} {pins:List (Addr × Obj)}
end
end L2
set_option maxHeartbeats 1000000
namespace L2
open PySem PySem.Spec PyProof.Rows
section
variable {X:Cx}
end
end L2
set_option maxHeartbeats 1000000
namespace L2
open PySem PySem.Spec PyProof.Rows
open PySem.AutoSeq1 (wpAny_loadPart')
section
variable {X:Cx}
end
section
variable {X:Cx} {a b:Expr} {rest:List Expr} {pos:Pos} {ta tb:TE}
def dZF (ta tb:TE):TE:=λσ H Q=>ta σ H λx H1=>(x=.non/\tb σ H1 Q)\/∃ (p:Addr) (xs:List V),x=.ref p/\rdL H1 p=some xs/\(xs≠[]->Q (.ref p) H1)/\(xs=[]->tb σ H1 Q)
theorem dQE (ha:PE X a ta) (hb:PE X (.BoolOp .Or (b :: rest) pos) tb):PE X (.BoolOp .Or (a :: b :: rest) pos) (dZF ta tb):=by
 intro pins s σ H Q I h
 refine BoolOp_or (thn (ha pins s σ H _ I h) λv s1 ⟨x,H1,I1,r1,q1⟩=>?_)
 rcases q1 with ⟨rfl,q1⟩ | ⟨p,xs,rfl,hp,q2,q3⟩
 · refine thn (vE pins s1 σ H1 .non v (λk H'=>k=false/\tb σ H' Q) I1 r1 ⟨false,rfl,rfl,q1⟩) λk s2 ⟨H2,I2,e,q⟩=>?_
   subst e
   exact hb pins s2 σ H2 Q I2 q
 · cases xs with
   | nil=>
     refine thn (vE pins s1 σ H1 (.ref p) v (λk H'=>k=false/\tb σ H' Q) I1 r1 ⟨false,.inl ⟨[],bD hp,rfl⟩,rfl,q3 rfl⟩) λk s2 ⟨H2,I2,e,q⟩=>?_
     subst e
     exact hb pins s2 σ H2 Q I2 q
   | cons y r=>
     refine thn (vE pins s1 σ H1 (.ref p) v (λk H'=>k=true/\Q (.ref p) H') I1 r1 ⟨true,.inl ⟨y :: r,bD hp,rfl⟩,rfl,q2 (λz=>nomatch z)⟩) λk s2 ⟨H2,I2,e,q⟩=>?_
     subst e
     exact ⟨.ref p,H2,I2,r1,q⟩
end
section
variable {X:Cx}
theorem KV.at {kvs:List (Key × V)} {vs:List (Key × Value)} (r:KV kvs vs):∀ {i:Nat} {k:Key} {u:Value},vs[i]?=some (k,u)->∃ v,kvs[i]?=some (k,v)/\RelV v u:=by
 unfold KV at r
 induction r with
 | nil=>intro i k u h; cases h
 | @cons kv vv _ _ hk t ih=>
   intro i k u h
   obtain ⟨e,ru⟩:=hk
   cases i with
   | zero=>cases h; exact ⟨kv.2,by rw [List.getElem?_cons_zero]; exact Dq some (Prod.ext e rfl),ru⟩
   | succ i=>exact ih h
end
end L2
set_option maxHeartbeats 1000000
namespace L2
open PySem PySem.Spec PyProof.Rows
section
variable {X:Cx}
def eQD:R2:=λx y H Q=>(x=.non/\y=.non/\Q (.bl false) H)\/zN true x y H Q
theorem dXX (hu:X.A.units < cLine):OpR X (compareOp .NotEq) eQD:=by
 intro pins s σ H x y v u Q I rx ry h
 rcases h with ⟨rfl,rfl,k⟩ | h
 · cases rx
   cases ry
   exact zD pins s σ H .non .non _ _ Q I rfl rfl ⟨rfl,by rw [show decide (V.non=V.non)=true from Au rfl]; exact k⟩
 · exact bQV hu pins s σ H x y v u Q I rx ry h
end
section
variable {X:Cx} {a b:Expr} {rest:List Expr} {pos:Pos} {ta tb:TE}
end
end L2
set_option maxHeartbeats 4000000
namespace L2
open PySem PySem.Spec PyProof.Rows
open PySem.AutoSeq1 (wpAny_loadPart')
open PySem.MeetsSeq PySem.MeetsSeq2 PySem.MeetsSeq3
open PySem.W (KasT kas_sort kas_cmp kas_item kas_item_eq kas_range kas_runs kas_kind kas_st kat_kind kat_lt kat_cons kat_nil kat_yes kat_no kat_go kat_one KatTups KatLex)
section
variable {prog:Program} {w:World} {A:Around} {E:Value->Shared->Prop} {s:Shared}
end
section
variable {X:Cx}
end
end L2
set_option maxHeartbeats 1000000
namespace L2
open PySem PySem.Spec PyProof.Rows
section
variable {X:Cx}
end
end L2
namespace Mine
open PySem L2
local macro_rules | `(tactic| walk_at "rd") => `(tactic| first | assumption | exact cC | exact mT | exact mW | exact aM (by assumption) | exact bN (by assumption) | (apply aI (aF (by assumption) _); walk_at "rd"))
local macro_rules | `(tactic| walk_at "dd") => `(tactic| first | exact jS (by assumption) | exact bZT (by assumption) | exact jS aE | assumption)
local macro_rules | `(tactic| walk_at "lo") => `(tactic| first | assumption | decide | omega | (simp only [List.length_map,List.length_append,List.length_cons,List.length_nil,Str.length_append]; omega))
local macro_rules | `(tactic| walk_at "ln") => `(tactic| first | assumption | decide | exact bU (by walk_at "lo") | exact bC (by walk_at "lo"))
local macro_rules | `(tactic| walk_at "ar") => `(tactic| first | assumption | decide | omega | exact ⟨by omega,by omega⟩ | exact Or.inl ⟨by omega,by omega⟩ | exact Or.inr ⟨by omega,by omega⟩ | (dsimp only; done) | (dsimp only; omega))
local macro_rules | `(tactic| walk_at "s") => `(tactic| first
 | (with_reducible first | refine dX9 ?_ | refine cJY ?_ | refine dJ5 ?_ | refine dZR ?_ | refine dQZ ?_ | refine dXW ?_ | refine dXV ?_ | refine oK ?_ | refine dXJ ?_)
 | ((with_reducible refine' dZO ?sv ?_); (case sv => exact rfl))
 | (with_reducible first | refine s_c ?_ | refine eQH ?_ | refine eQK ?_ | refine dZD ?_ | refine cJH ?_ | refine dQM ?_ | refine dJ8 ?_ | refine eQB ?_ | refine bZ4 ?_ | refine dQQ ?_ | refine cZ4 ?_ | refine dX8 ?_)
 | ((with_reducible refine' dXT ?se ?_); (case se => walk_at "rd"))
 | (with_reducible first | refine dQJ ?_ | refine cQP ?_ | refine eQM ?_ | refine cJL ?_ | refine dJP ?_ | refine eQL ?_ | refine dZY ?_ | refine dQV ?_ | refine dJB ?_ | refine eQN ?_)
 | ((with_reducible refine dXZ ?sc ?_); (case sc => walk_at "ar"))
 | with_reducible refine cZ5 ?_
 | ((with_reducible refine dXC ?sc ?_); (case sc => walk_at "ln"))
 | (with_reducible first | refine dJY ?_ | refine dZQ ?_ | refine dZK ?_ | refine dZW ?_ | refine dQ5 ?_ | refine dZT ?_)
 | ((with_reducible refine' dZ4 ?sc ?_); (case sc => walk_at "rd"))
 | ((with_reducible refine dXN ?sc ?_); (case sc => walk_at "ln"))
 | ((with_reducible refine' cJ8 ?sc ?_); (case sc => walk_at "rd"))
 | (with_reducible first | refine dZ1 ?_ | refine dX3 ?_)
 | ((with_reducible refine' cJK ?sc ?_); (case sc => walk_at "rd"))
 | ((with_reducible refine' dJW ?se ?se2 ?_); (case se => first | exact rfl | exact aQ7 (by assumption) | exact bZD (by assumption) | exact cQO (by assumption) | exact aQ7 aE | exact bZD aE); (case se2 => first | exact (show aX8 _ _ = some true from rfl) | exact (show aX8 _ _ = some false from rfl) | exact rfl))
 | (with_reducible first | refine cJ7 ?_ | refine bJ3 ?_ | refine cQF ?_ | refine cQ4 ?_ | refine cQW ?_ | refine cQK ?_ | refine cJA ?_ | refine dQU ?_ | refine bZB ?_)
 | ((with_reducible refine' dJX ?se ?_); (case se => walk_at "rd"))
 | ((with_reducible refine' dZ2 ?se ?sl ?_); (case se => walk_at "rd"); (case sl => walk_at "ln"))
 | with_reducible refine cQZ ?_
 | ((with_reducible refine' cX3 ?se ?sf ?sl ?_); (case se => walk_at "rd"); (case sf => walk_at "rd"); (case sl => walk_at "ln"))
 | ((with_reducible refine' bJS ?se ?_); (case se => walk_at "rd"))
 | (with_reducible first | refine cXE ?_ | refine aJ4 ?_ | refine dQS ?_ | refine dXK ?_ | refine dQA ?_ | refine cQ7 ?_ | refine dQH ?_)
 | ((with_reducible refine' cJM ?se ?sn ?_); (case se => walk_at "rd"); (case sn => exact rfl))
 | (with_reducible first | refine dX5 ?_ | refine dJO ?_ | refine bJY ?_ | refine cJ5 ?_ | refine cQQ ?_ | refine cXQ ?_ | refine dZ3 ?_ | refine cJG ?_ | refine cQD ?_ | refine bX9 ?_)
 | ((with_reducible refine dJN ?sd ?_); (case sd => walk_at "dd"))
 | (with_reducible first | refine cJZ ?_ | refine dZ9 ?_ | refine dQ6 ?_ | refine cXK ?_ | refine bQS ?_ | refine cXF ?_ | refine cJN ?_ | refine dX2 ?_ | refine dJD ?_)
 | ((with_reducible refine' dQX ?se ?sn ?_); (case se => walk_at "rd"); (case sn => exact rfl))
 | (with_reducible first | refine cXW ?_ | refine dQC ?_ | refine cJJ ?_ | refine bX8 ?_ | refine dZG ?_ | refine cJE ?_ | refine dX4 ?_ | refine eQF ?_ | refine dJ9 ?_ | refine dZN ?_ | refine dJI ?_)
 | dsimp only)
local macro_rules | `(tactic| walk_at "go") => `(tactic| repeat' (walk_at "s"))
def top (i:Nat):Stmt:=PySem.Challenge.pw_flaglocker_k26_what_is_lowered.main.body.getD i (.Pass ⟨0,0,0,0⟩)
abbrev iG:Stmt:=top 38
abbrev fK:Stmt:=top 39
abbrev eP:Stmt:=top 42
abbrev gG:Stmt:=top 43
abbrev iM:Stmt:=top 40
abbrev dL:Stmt:=top 44
abbrev fJ:Stmt:=top 41
abbrev fD:Stmt:=top 45
abbrev cQ:Stmt:=top 15
abbrev iN:Stmt:=top 17
abbrev cI:Stmt:=top 29
abbrev gJ:Stmt:=top 33
abbrev eT:Stmt:=cZP (top 4) 0
abbrev cN:Stmt:=top 31
abbrev eI:Stmt:=top 20
abbrev cU:Stmt:=top 19
abbrev dI:Stmt:=top 23
abbrev eM:Stmt:=top 21
abbrev cS:Stmt:=top 24
abbrev dO:Stmt:=top 25
abbrev cO:Stmt:=top 26
abbrev gK:Stmt:=top 27
abbrev fI:Stmt:=top 32
abbrev gH:Stmt:=top 9
abbrev eK:Stmt:=top 11
abbrev fH:Stmt:=top 12
abbrev gB:Stmt:=top 13
abbrev cW:Stmt:=top 34
abbrev eO:Stmt:=top 35
abbrev dN:Stmt:=cZP (top 3) 0
abbrev kE:Stmt:=top 16
abbrev iA:Stmt:=top 36
abbrev iD:Stmt:=top 52
abbrev dZ:Stmt:=top 49
abbrev gF:Stmt:=top 50
abbrev cL:Stmt:=top 51
abbrev iI:Stmt:=top 47
abbrev iF:Stmt:=top 46
abbrev fF:Stmt:=top 53
abbrev iC:Stmt:=top 54
abbrev lQ:Stmt:=top 55
structure Gs (K:PySem.W.Frag) (mg:Str->Option Value) (Zw Zz Zx Zy:Addr):Prop where
 c_Lack:mg "Lack"=some (.ref Zw)
 c_TowerError:mg "TowerError"=some (.ref Zz)
 c_Short:mg "Short"=some (.ref Zx)
 c_NoHoist:mg "NoHoist"=some (.ref Zy)
 m_Lack:PySem.W.exmOne K (.ref Zw) (.ref Zw)=some true
 x_NoHoist:PySem.W.excIn K Zy [.type "ValueError",.type "Exception",.type "BaseException",.type "object"] "ValueError.__new__"=true
 m_Short:PySem.W.exmOne K (.ref Zx) (.ref Zx)=some true
 t1_TowerError:PySem.W.specialIn K (.ref Zz) "__getattribute__"=some (some (.builtin "type.__getattribute__"))
 t2_TowerError:PySem.W.readsIn K Zz (.type "type")=true
 t3_TowerError:PySem.W.findCls K (.ref Zz) (.type "type") "__init__"=some (.val (.builtin "ValueError.__init__"))
 xo_Lack:uY K Zw [.type "ValueError",.type "Exception",.type "BaseException",.type "object"] "ValueError.__new__"=true
 xk_Lack:PySem.W.keepIn K (.ref Zw)=true
 xe1_Lack:PySem.W.hasDictIn K Zw=true
 xe2_Lack:PySem.W.findIn K (.ref Zw) "__getattribute__"=some (some (.builtin "BaseException.__getattribute__"))
 xe3_Lack:PySem.W.findIn K (.ref Zw) "__getattr__"=some none
 xe4_Lack:PySem.W.findIn K (.ref Zw) "__class__"=some (some (.builtin "object.__class__"))
 xe5_Lack:PySem.W.specialIn K (.builtin "object.__class__") "__get__"=some (some (.builtin "getset_descriptor.__get__"))
 xe6_Lack:PySem.W.takesIn K (.builtin "object.__class__")=some true
 xe7_Lack:PySem.W.mroIn K Zw (.type "object")=some true
 xe8_Lack:PySem.W.subIn K (.ref Zw) (.type "BaseException")=some true
 xs_Lack:PySem.W.findIn K (.ref Zw) "__setattr__"=some (some (.builtin "object.__setattr__"))
 xr_Lack:bQW K Zw Zz=true
 xv_Lack:PySem.W.subIn K (.ref Zw) (.type "ValueError")=some true
 xn_Lack_wants:PySem.W.findIn K (.ref Zw) "wants"=some none
 xn_Lack_flags:PySem.W.findIn K (.ref Zw) "flags"=some none
 xo_Short:uY K Zx [.type "ValueError",.type "Exception",.type "BaseException",.type "object"] "ValueError.__new__"=true
 xk_Short:PySem.W.keepIn K (.ref Zx)=true
 xe1_Short:PySem.W.hasDictIn K Zx=true
 xe2_Short:PySem.W.findIn K (.ref Zx) "__getattribute__"=some (some (.builtin "BaseException.__getattribute__"))
 xe3_Short:PySem.W.findIn K (.ref Zx) "__getattr__"=some none
 xe4_Short:PySem.W.findIn K (.ref Zx) "__class__"=some (some (.builtin "object.__class__"))
 xe5_Short:PySem.W.specialIn K (.builtin "object.__class__") "__get__"=some (some (.builtin "getset_descriptor.__get__"))
 xe6_Short:PySem.W.takesIn K (.builtin "object.__class__")=some true
 xe7_Short:PySem.W.mroIn K Zx (.type "object")=some true
 xe8_Short:PySem.W.subIn K (.ref Zx) (.type "BaseException")=some true
 xs_Short:PySem.W.findIn K (.ref Zx) "__setattr__"=some (some (.builtin "object.__setattr__"))
 xr_Short:bQW K Zx Zz=true
 xv_Short:PySem.W.subIn K (.ref Zx) (.type "ValueError")=some true
 xn_Short_flag:PySem.W.findIn K (.ref Zx) "flag"=some none
 b_len:mg "len"=none
 b_range:mg "range"=none
 b_min:mg "min"=none
 b_list:mg "list"=none
 b_max:mg "max"=none
 b_enumerate:mg "enumerate"=none
 b_int:mg "int"=none
 b_all:mg "all"=none
 b_zip:mg "zip"=none
 b_isinstance:mg "isinstance"=none
 b_dict:mg "dict"=none
 b_tuple:mg "tuple"=none
 b_bool:mg "bool"=none
 s_FLAGS:∃ t,mg "FLAGS"=some (.str "abcdefghijklmnopqrstuvw1234" t)
 s_SUBSTITUTES:∃ t,mg "SUBSTITUTES"=some (.str "1234" t)
 s_MOST_PLACES:∃ t,mg "MOST_PLACES"=some (.int 7 t)
theorem Gs.xx_Lack {K:PySem.W.Frag} {mg:Str->Option Value} {Zw Zz Zx Zy:Addr} (G:Gs K mg Zw Zz Zx Zy):ExK K Zw:=⟨G.xe1_Lack,G.xe2_Lack,G.xe3_Lack,G.xe4_Lack,G.xe5_Lack,G.xe6_Lack,G.xe7_Lack,G.xe8_Lack⟩
theorem Gs.xc_Lack {K:PySem.W.Frag} {mg:Str->Option Value} {Zw Zz Zx Zy:Addr} (G:Gs K mg Zw Zz Zx Zy):XcK K Zw Zz:=⟨G.xx_Lack,G.xs_Lack,aQY G.xr_Lack,G.xv_Lack⟩
theorem Gs.xm_Lack {K:PySem.W.Frag} {mg:Str->Option Value} {Zw Zz Zx Zy:Addr} (G:Gs K mg Zw Zz Zx Zy):XmK K Zw:=⟨G.xo_Lack,G.xk_Lack⟩
theorem Gs.xx_Short {K:PySem.W.Frag} {mg:Str->Option Value} {Zw Zz Zx Zy:Addr} (G:Gs K mg Zw Zz Zx Zy):ExK K Zx:=⟨G.xe1_Short,G.xe2_Short,G.xe3_Short,G.xe4_Short,G.xe5_Short,G.xe6_Short,G.xe7_Short,G.xe8_Short⟩
theorem Gs.xc_Short {K:PySem.W.Frag} {mg:Str->Option Value} {Zw Zz Zx Zy:Addr} (G:Gs K mg Zw Zz Zx Zy):XcK K Zx Zz:=⟨G.xx_Short,G.xs_Short,aQY G.xr_Short,G.xv_Short⟩
theorem Gs.xm_Short {K:PySem.W.Frag} {mg:Str->Option Value} {Zw Zz Zx Zy:Addr} (G:Gs K mg Zw Zz Zx Zy):XmK K Zx:=⟨G.xo_Short,G.xk_Short⟩
abbrev lettersT:Str := "abcdefghijklmnopqrstuvw"
abbrev subsT:Str := "1234"
abbrev flagsT:Str := "abcdefghijklmnopqrstuvw1234"
abbrev one (c:Nat):Str:=⟨#[c]⟩
theorem zU:subsT.cps.toList=[49,50,51,52]:=by decide
theorem xG:flagsT.cps.toList=lettersT.cps.toList ++ subsT.cps.toList:=by decide
def bL (c:Nat):Prop:=97<=c/\c<=119
def dF (c:Nat):Prop:=49<=c/\c<=52
instance (c:Nat):Decidable (bL c):=inferInstanceAs (Decidable (_/\_))
instance (c:Nat):Decidable (dF c):=inferInstanceAs (Decidable (_/\_))
theorem xJ {c:Nat}:c∈lettersT.cps.toList ↔ bL c:=by
 have h1:∀ c∈lettersT.cps.toList,bL c:=by decide +kernel
 have h2:∀ k:_root_.Fin 23,97 + k.val∈lettersT.cps.toList:=by decide +kernel
 refine ⟨h1 c,λh=>?_⟩
 have e:=h2 ⟨c - 97,by have:=h.1; have:=h.2; omega⟩
 rwa [show 97 + (c - 97)=c by have:=h.1; omega] at e
theorem mem_subs {c:Nat}:c∈subsT.cps.toList ↔ dF c:=by
 have h1:∀ c∈subsT.cps.toList,dF c:=by decide +kernel
 have h2:∀ k:_root_.Fin 4,49 + k.val∈subsT.cps.toList:=by decide +kernel
 refine ⟨h1 c,λh=>?_⟩
 have e:=h2 ⟨c - 49,by have:=h.1; have:=h.2; omega⟩
 rwa [show 49 + (c - 49)=c by have:=h.1; omega] at e
theorem rY {c:Nat}:c∈flagsT.cps.toList ↔ bL c\/dF c:=by
 rw [xG,Bj,xJ,mem_subs]
theorem hJ {c:Nat} (h:bL c):¬ dF c:=λz=>by unfold bL at h; unfold dF at z; omega
theorem lL (c:Nat):subIn (one c) subsT=decide (dF c):=by
 rw [sS]
 exact Cp.mpr mem_subs
theorem pK {z:Str} (h:z.length=1):∃ c,z=one c:=by
 obtain ⟨⟨l⟩⟩:=z
 match l,h with
 | [c],_=>exact ⟨c,rfl⟩
def iR (z:Str):Bool:=if z.length=1 then subIn z flagsT else false
theorem nV {z:Str} (h:z.length≠1):iR z=false:=if_neg h
theorem pD {c:Nat}:iR (one c)=decide (bL c\/dF c):=by
 unfold iR
 rw [if_pos (by rfl),sS]
 exact Cp.mpr rY
theorem aZZ {z:Str} (h:iR z=true):∃ c,z=one c/\(bL c\/dF c):=by
 by_cases h1:z.length=1
 · obtain ⟨c,rfl⟩:=pK h1
   rw [pD] at h
   exact ⟨c,rfl,Ba h⟩
 · rw [nV h1] at h
   cases h
def jM (c:Nat) (p:Int):Prop:=bL c\/(dF c/\(c:Int) - 48 < p)
instance (c:Nat) (p:Int):Decidable (jM c p):=inferInstanceAs (Decidable (_\/_))
def cZ (z:Str) (p:Int):Bool:=if z.length=1 then decide (jM (z.cps.toList.headD 0) p) else false
theorem lX {c:Nat} {p:Int}:cZ (one c) p=decide (jM c p):=rfl
theorem qP {z:Str} {p:Int} (h:cZ z p=true):∃ c,z=one c/\jM c p:=by
 by_cases h1:z.length=1
 · obtain ⟨c,rfl⟩:=pK h1
   exact ⟨c,rfl,Ba h⟩
 · unfold cZ at h
   rw [if_neg h1] at h
   cases h
def cF (zs:List Str):Bool:=if zs.length < 1\/7 < zs.length then false else (List.range zs.length).all λi=>cZ (zs.getD i ⟨#[]⟩) ((1 + i:Nat):Int)
theorem eQ {zs:List Str} (h:cF zs=true):1<=zs.length/\zs.length<=7:=by
 unfold cF at h
 split at h
 · cases h
 · omega
theorem bXR {zs:List Str} (h:cF zs=true) {i:Nat} (hi:i < zs.length):cZ (zs.getD i ⟨#[]⟩) ((1 + i:Nat):Int)=true:=by
 unfold cF at h
 split at h
 · cases h
 · exact Dk.mp h i (Cb.mpr hi)
def stp (w:List Nat) (c:Nat):Nat:=if dF c then w.getD (c - 49) 0 else c
def rdC (fs:List Nat):List Nat:=fs.foldl (λw c=>w ++ [stp w c]) []
theorem bJD (fs:List Nat) (c:Nat):rdC (fs ++ [c])=rdC fs ++ [stp (rdC fs) c]:=by
 unfold rdC
 rw [List.foldl_append]
 rfl
theorem mH {fs:List Nat} {i c:Nat} (h:fs[i]?=some c):rdC (fs.take (i + 1))=rdC (fs.take i) ++ [stp (rdC (fs.take i)) c]:=by
 rw [Bc,h]
 exact bJD _ _
theorem oJ:∀ fs:List Nat,(rdC fs).length=fs.length:=by
 intro fs
 have h:∀ i,i<=fs.length->(rdC (fs.take i)).length=i:=by
   intro i
   induction i with
   | zero=>intro _; rfl
   | succ i ih=>
     intro hi
     rw [mH (Aa (by omega)),Aj,ih (by omega)]
     rfl
 have q:=h fs.length (Ag _)
 rwa [Bs] at q
theorem jC {fs:List Nat} {i:Nat} (h:i<=fs.length):(rdC (fs.take i)).length=i:=by
 rw [oJ,Bz]; omega
def bH (cs:List Nat):Str:=⟨cs.toArray⟩
theorem eW (cs:List Nat):(bH cs).length=cs.length:=by show cs.toArray.size=_; simp
theorem mU (cs:List Nat):(bH cs).cps.toList=cs:=rfl
theorem iL (cs:List Nat) (c:Nat):bH cs ++ one c=bH (cs ++ [c]):=FlT.str_ext (by rw [FlT.app_cps]; rfl)
def jL (z:Str):Nat:=z.cps.toList.headD 0
theorem aJO (cs:List Nat):(cs.map one).map jL=cs:=by
 rw [Dc]
 exact List.map_id cs
theorem iZ {zs:List Str} (h:cF zs=true) {i:Nat} {z:Str} (hz:zs[i]?=some z):∃ c,z=one c/\(zs.map jL)[i]?=some c/\(bL c\/(dF c/\c - 49 < i)):=by
 have hi:i < zs.length:=(Ad.mp hz).1
 have q:=bXR h hi
 rw [Ac,hz] at q
 obtain ⟨c,e,st⟩:=qP q
 have e':z=one c:=e
 refine ⟨c,e',by rw [Ah,hz,e']; rfl,?_⟩
 rcases st with l | ⟨s,l⟩
 · exact .inl l
 · refine .inr ⟨s,?_⟩
   unfold dF at s
   omega
def bXB (zs:List Str):Str:=bH (rdC (zs.map jL))
theorem aXB {α β:Type} (f:α->β):∀ l:List α,l.filterMap (λx=>some (f x))=l.map f
 | []=>rfl
 | x :: r=>by rw [Dh (f:=λx=>some (f x)) (b:=f x) rfl,Ar,aXB f r]
theorem lZ {α β:Type} {f g:α->Option β}:∀ {l:List α},(∀ x∈l,f x=g x)->l.filterMap f=l.filterMap g
 | [],_=>rfl
 | x :: r,h=>by rw [Cr,Cr,h x Al,lZ λy hy=>h y (Am _ hy)]
theorem rJ {β:Type} {F:Nat->Option β} {i:Nat} {b:β} (h:F i=some b):(List.range (i + 1)).filterMap F=(List.range i).filterMap F ++ [b]:=by
 rw [Ce,Cf,Dh h,Dj]
theorem qS {β:Type} {F:Nat->Option β} {i:Nat} (h:F i=none):(List.range (i + 1)).filterMap F=(List.range i).filterMap F:=by
 rw [Ce,Cf,Ds h,Dj,Bm]
theorem one_inj {a b:Nat}:one a=one b ↔ a=b:=⟨λh=>by injection h with h; injection h with h; injection h,λh=>by rw [h]⟩
theorem tV (a b:Nat):decide (one a=one b)=decide (a=b):=Cp.mpr one_inj
theorem cQ8 {cw:List Nat} {k:Nat} (h:k < cw.length):atI (bH cw).cps.toList ((k:Nat):Int)=some (cw.getD k 0):=by
 refine dX ?_
 rw [mU,Ac,Aa h]
 rfl
theorem aXD {k:Nat} (h:k < 23):atI lettersT.cps.toList ((k:Nat):Int)=some (97 + k):=by
 refine dX ?_
 have q:∀ k:_root_.Fin 23,lettersT.cps.toList[k.val]?=some (97 + k.val):=by decide +kernel
 exact q ⟨k,h⟩
theorem aQN {k:Nat} (h:k < 4):atI subsT.cps.toList ((k:Nat):Int)=some (49 + k):=by
 refine dX ?_
 have q:∀ k:_root_.Fin 4,subsT.cps.toList[k.val]?=some (49 + k.val):=by decide +kernel
 exact q ⟨k,h⟩
theorem bQG (cs:List Nat):∀ z∈cs.map one,z.length<=1000:=λz hz=>by
 obtain ⟨c,_,rfl⟩:=Bg.mp hz
 show 1<=1000
 decide
theorem eX {ns:List Int} {i:Int} (h0:0<=i) (h:i < ns.length):∃ n,n∈ns/\atI (ns.map V.int) i=some (.int n):=by
 obtain ⟨v,h1,h2⟩:=dQF (xs:=ns.map V.int) (i:=i) h0 (by rw [Ab]; exact h)
 rw [Ah,Aa (by omega)] at h2
 cases h2
 exact ⟨_,Ca _,h1⟩
theorem zQ {ns:List Int} {j:Nat} {x:V} (h:(ns.map V.int)[j]?=some x):∃ n,n∈ns/\x=V.int n:=by
 obtain ⟨n,hn,e⟩:=Bg.mp (Ai h)
 exact ⟨n,hn,e.symm⟩
theorem lF {ns:List Str} {j:Nat} {x:V} (h:(ns.map V.str)[j]?=some x):∃ n,ns[j]?=some n/\x=V.str n:=by
 rw [Ah] at h
 cases e:ns[j]? with
 | none=>rw [e] at h; cases h
 | some n=>rw [e] at h; cases h; exact ⟨n,rfl,rfl⟩
theorem oQ {c:Nat} (h:dF c):PySem.intText? (one c)=some ((c:Int) - 48):=by
 unfold dF at h
 have:c=49\/c=50\/c=51\/c=52:=by omega
 rcases this with rfl | rfl | rfl | rfl <;> decide +kernel
theorem eJ (zs:List Str):(zs.map V.str).all bV=true:=by
 rw [Dk]
 intro x hx
 obtain ⟨z,_,rfl⟩:=Bg.mp hx
 rfl
theorem bXL {fs:List Nat} (h1:1<=fs.length) (h7:fs.length<=7) (h:∀ k,k < fs.length->jM (fs.getD k 0) ((1 + k:Nat):Int)):cF (fs.map one)=true:=by
 unfold cF
 rw [Ab,if_neg (by omega),Dk]
 intro i hi
 have hi':=Cb.mp hi
 rw [Ac,Ah,Aa hi']
 have q:=h i hi'
 rw [Ac,Aa hi'] at q
 exact Au q
def chF (cw:List Nat) (k n:Nat):Option Nat:=if cw.getD n 0=cw.getD k 0 then some (49 + n) else none
def chs (cw:List Nat) (k:Nat):List Nat:=cw.getD k 0 :: (List.range (min k 4)).filterMap (chF cw k)
theorem ch_iff {cw:List Nat} {k c:Nat}:c∈chs cw k ↔ c=cw.getD k 0\/∃ n,n < k/\n < 4/\cw.getD n 0=cw.getD k 0/\c=49 + n:=by
 unfold chs
 rw [Az,Di]
 constructor
 · rintro (h | ⟨n,hn,h⟩)
   · exact .inl h
   · have:=Cb.mp hn
     unfold chF at h
     split at h
     · cases h
       exact .inr ⟨n,by omega,by omega,by assumption,rfl⟩
     · cases h
 · rintro (h | ⟨n,h1,h2,h3,rfl⟩)
   · exact .inl h
   · exact .inr ⟨n,Cb.mpr (by omega),if_pos h3⟩
theorem cQ9 (cw:List Nat) (k:Nat):1<=(chs cw k).length/\(chs cw k).length<=5:=by
 unfold chs
 have:=Dg (chF cw k) (List.range (min k 4))
 rw [Bx] at this
 rw [Be]
 omega
theorem bZJ {cw:List Nat} {k c:Nat} (hL:bL (cw.getD k 0)) (h:c∈chs cw k):jM c ((1 + k:Nat):Int):=by
 rcases ch_iff.mp h with rfl | ⟨n,h1,h2,_,rfl⟩
 · exact .inl hL
 · exact .inr ⟨⟨by omega,by omega⟩,by omega⟩
theorem wD {cw:List Nat} (hL:∀ d∈cw,bL d) {k:Nat} (hk:k < cw.length):bL (cw.getD k 0):=by
 rw [Ac,Aa hk]
 exact hL _ (Ca hk)
theorem xT {cw fs:List Nat} (hL:∀ d∈cw,bL d) (h1:1<=fs.length) (h7:fs.length<=7) (hl:fs.length<=cw.length) (h:∀ k,k < fs.length->fs.getD k 0∈chs cw k):cF (fs.map one)=true :=
 bXL h1 h7 λk hk=>bZJ (wD hL (by omega)) (h k hk)
theorem aJ2 {c:Nat} {cs:List Nat}:inV (.str (one c)) ((cs.map one).map V.str)=decide (c∈cs):=by
 induction cs with
 | nil=>rfl
 | cons d r ih=>
   rw [Ar,Ar]
   show ((one d == one c) || inV (.str (one c)) ((r.map one).map V.str))=_
   rw [ih,<-uF]
   by_cases h:c=d
   · subst h
     rw [Au rfl,Bool.true_or,Au Al]
   · rw [Aw (λz=>by injection z with z; exact h (one_inj.mp z).symm),Ft]
     exact Cp.mpr ⟨λz=>Am _ z,λz=>(Az.mp z).resolve_left h⟩
def uN (K:PySem.W.Frag):Sp:=λvs H Q _=>∃ (a:Addr) (ns:List Int),vs=[.ref a]/\SqL K H a (ns.map V.int)/\ns.length<=63/\∀ H',Q (.bl true) H'
def oS:Sp:=λvs H Q _=>∃ z,vs=[.str z]/\z.length<=1000/\Q (.bl (iR z)) H
def lN:Sp:=λvs H Q _=>∃ z p,vs=[.str z,.int p]/\z.length<=1000/\Q (.bl (cZ z p)) H
def nW:Sp:=λvs H Q _=>∃ a zs,vs=[.ref a]/\rdL H a=some (zs.map V.str)/\zs.length<=1000/\(∀ z∈zs,z.length<=1000)/\∀ H',Same H H'->Q (.bl (cF zs)) H'
def qK (aN:Addr):Sp:=λvs H Q E=>∃ a zs,vs=[.ref a]/\rdL H a=some (zs.map V.str)/\zs.length<=1000/\(∀ z∈zs,z.length<=1000)/\(cF zs=true->∀ H',Same H H'->Q (.str (bXB zs)) H')/\(cF zs=false->∀ H',Same H H'->E (.ref aN) none H')
theorem mE {cw:List Nat} {k:Nat} {j:Int} (e:j=(k:Int)) (h:k < cw.length):atI (bH cw).cps.toList j=some (cw.getD k 0):=by
 rw [e]
 exact cQ8 h
theorem fQ {H:Hp} {Q:VK} {p:Addr} {xs:List V} {i:Int} {v:V} (e:H p=some (.tup xs)) (e':atI xs i=some v) (h:Q v H):mIx (.ref p) (.int i) H Q:=by
 have e1:rdL H p=none:=by unfold rdL; rw [e]; rfl
 unfold mIx
 simp only [e1,iU e,e']
 exact h
section
variable {P:Program} {w:World} {K:PySem.W.Frag} {mg:Str->Option Value} {base:Heap}
def hU (aC:Addr):Sp:=λvs H Q _=>∃ ea v,vs=[.ref ea,v]/\H ea=some (eV ea aC none)/\∀ dx,H dx=none->Q .non (upd (upd H ea (eV ea aC (some dx))) dx (xdO dx [("flag",v)]))
theorem qN:FnScope ["self", "flag"] ["self", "flag"] (aG dN):=⟨rfl,rfl,rfl,by decide +kernel,rfl,by decide +kernel,by decide +kernel⟩
theorem qU {Zw Zz Zx Zy:Addr} {f:Addr} {fd:FuncData} (F:Fun K "__init__" "Short.__init__" dN f fd) (G:Gs K mg Zw Zz Zx Zy)  : FnOk P w K mg base CX0 1 f fd ["self", "flag"] (hU Zx):=by
 refine F.ok qN (λvs H Q E h=>?_) (λcdv A outer s H vs Q E hr h=>?_)
 · obtain ⟨ea,v,rfl,_⟩:=h; rfl
 obtain ⟨ea,v,rfl,he,q⟩:=h
 refine ⟨_,(@aD _ _ _ _ _ (cE (vT rfl G.c_TowerError G.t1_TowerError G.t2_TowerError G.t3_TowerError (aA (mv 0) (aA (mv 1) aB)))) (@aH _ _ _ (vG (mv 0) (mv 1) rfl))),?_⟩
 walk_at "go"
 refine ⟨ea,[v],Zx,Zz,none,rfl,by show 1<=sizeLine; decide,he,(λ_ z=>nomatch z),G.xc_Short,?_⟩
 walk_at "go"
 exact ⟨ea,Zx,Zz,rfl,G.xc_Short,G.xn_Short_flag,.inl ⟨he,q⟩⟩
theorem bZX {H H1:Hp} {ea dx:Addr} {o o' o'':HO} (s:Same H H1) (h1:H1 ea=none) (h2:upd H1 ea o dx=none):Same H (del (upd (upd (upd H1 ea o) ea o') dx o'') ea):=λb u e=>by
 have e1:=s b u e
 have n1:b≠ea:=bJ e1 h1
 have n3:dx≠ea:=λz=>by rw [z,aE] at h2; cases h2
 have n2:b≠dx:=λz=>by rw [<-z,aK n1,e1] at h2; cases h2
 rw [dQ n1,aK n2,aK n1,aK n1]
 exact e1
theorem bZI {H1:Hp} {ea dx:Addr} {o o' o'':HO} (h2:upd H1 ea o dx=none):upd (upd (upd H1 ea o) ea o') dx o'' ea=some o'/\del (upd (upd (upd H1 ea o) ea o') dx o'') ea dx=some o'':=by
 have n3:dx≠ea:=λz=>by rw [z,aE] at h2; cases h2
 exact ⟨by rw [aK n3.symm,aE],by rw [dQ n3,aE]⟩
structure Lk (kvs:List (Key × V)) (f:Nat->Option Int):Prop where
 nd:(kvs.map (·.1)).Nodup
 ks:∀ kv∈kvs,∃ (c:Nat) (n:Int),kv=(Sum.inr (one c),V.int n)
 val:∀ c,bX kvs (Sum.inr (one c))=(f c).map V.int
theorem Lk.nil:Lk [] (λ_=>none):=⟨List.nodup_nil,(λkv h=>nomatch h),λc=>rfl⟩
theorem key_one {a b:Nat}:((Sum.inr (one a):Key)=Sum.inr (one b)) ↔ a=b:=⟨λh=>one_inj.mp (Sum.inr.inj h),λh=>by rw [h]⟩
theorem aXE {α:Type}:∀ {l:List α} {k:α},l.Nodup->¬ k∈l->(l ++ [k]).Nodup
 | [],k,_,_=>by simp
 | a :: r,k,h,hk=>by
   obtain ⟨h1,h2⟩:=Bu.mp h
   refine Bu.mpr ⟨λm=>?_,aXE h2 λm=>hk (Am _ m)⟩
   rcases Bj.mp m with q | q
   · exact h1 q
   · exact hk (by rw [As.mp q]; exact Al ..)
theorem bJR {kvs:List (Key × V)} {k:Key} (h:bX kvs k=none):¬ k∈kvs.map (·.1):=λm=>by
 obtain ⟨p,hp,e⟩:=Bg.mp m
 have q:(kvs.any λkv=>decide (kv.1=k))=true:=Gg.mpr ⟨p,hp,Au e⟩
 rw [dW,h] at q
 cases q
theorem wX (kvs:List (Key × V)) (k:Key) (v:V) (h:bX kvs k≠none):(dJ kvs k v).map (·.1)=kvs.map (·.1):=by
 unfold dJ
 have e:(kvs.any λkv=>decide (kv.1=k))=true:=by
   rw [dW]
   cases q:bX kvs k with
   | none=>exact absurd q h
   | some _=>rfl
 rw [if_pos e,Dc]
 refine De λkv _=>?_
 show (if kv.1=k then (kv.1,v) else kv).1=kv.1
 split <;> rfl
theorem Lk.put {kvs:List (Key × V)} {f:Nat->Option Int} (h:Lk kvs f) (c:Nat) (n:Int):Lk (dJ kvs (Sum.inr (one c)) (.int n)) (λd=>if d=c then some n else f d) where
 nd:=by
   cases e:bX kvs (Sum.inr (one c)) with
   | none=>rw [jT _ e,Ak]; exact aXE h.nd (bJR e)
   | some v=>rw [wX _ _ _ (by rw [e]; exact λz=>nomatch z)]; exact h.nd
 ks:=λkv hkv=>by
   unfold dJ at hkv
   split at hkv
   · obtain ⟨kv',h',e⟩:=Bg.mp hkv
     obtain ⟨c',n',e'⟩:=h.ks kv' h'
     subst e'
     dsimp only at e
     split at e
     · exact ⟨c',n,e.symm⟩
     · exact ⟨c',n',e.symm⟩
   · rcases Bj.mp hkv with q | q
     · exact h.ks kv q
     · exact ⟨c,n,As.mp q⟩
 val:=λd=>by
   rw [bZ3]
   by_cases e:d=c
   · rw [if_pos (key_one.mpr e),if_pos e]; rfl
   · rw [if_neg (λz=>e (key_one.mp z)),if_neg e]; exact h.val d
theorem bQM {kvs:List (Key × V)} (nd:(kvs.map (·.1)).Nodup) {kv:Key × V} (h:kv∈kvs):bX kvs kv.1=some kv.2:=by
 induction kvs with
 | nil=>cases h
 | cons p r ih=>
   obtain ⟨n1,n2⟩:=Bu.mp nd
   rcases Az.mp h with e | e
   · subst e; exact cB rfl
   · rw [bY λz=>n1 (by show p.1∈_; rw [z]; exact Bg.mpr ⟨kv,e,rfl⟩)]
     exact ih n2 e
theorem pV {α:Type} [DecidableEq α]:∀ {l m:List α},l.Nodup->(∀ x∈l,x∈m)->l.length<=m.length
 | [],m,_,_=>Ck _
 | a :: r,m,h,s=>by
   obtain ⟨h1,h2⟩:=Bu.mp h
   have q:=pV (l:=r) (m:=m.erase a) h2 λx hx=>(List.mem_erase_of_ne λz=>h1 (by rw [<-z]; exact hx)).mpr (s x (Am _ hx))
   have ha:=s a (Al ..)
   rw [List.length_erase_of_mem ha] at q
   have:=List.length_pos_of_mem ha
   rw [Be]
   omega
theorem Lk.at_mem {kvs:List (Key × V)} {f:Nat->Option Int} (h:Lk kvs f) {kv:Key × V} (hkv:kv∈kvs):∃ c n,kv=(Sum.inr (one c),V.int n)/\f c=some n:=by
 obtain ⟨c,n,e⟩:=h.ks kv hkv
 have v:=bQM h.nd hkv
 rw [e] at v
 have v2:=h.val c
 rw [v2] at v
 cases q:f c with
 | none=>rw [q] at v; cases v
 | some m=>rw [q] at v; cases v; exact ⟨c,_,e,q⟩
theorem Lk.keys {kvs kws:List (Key × V)} {f:Nat->Option Int} (h:Lk kvs f) (h':Lk kws f):∀ x∈kvs.map (·.1),x∈kws.map (·.1):=λx hx=>by
 obtain ⟨kv,hkv,rfl⟩:=Bg.mp hx
 obtain ⟨c,n,rfl,hf⟩:=h.at_mem hkv
 have v:=h'.val c
 rw [hf] at v
 have q:(kws.any λkv=>decide (kv.1=Sum.inr (one c)))=true:=by rw [dW,v]; rfl
 obtain ⟨p,hp,e⟩:=Gg.mp q
 exact Bg.mpr ⟨p,hp,Ba e⟩
theorem Lk.deq {kvs kws:List (Key × V)} {f:Nat->Option Int} (h:Lk kvs f) (h':Lk kws f):DEq kvs kws:=by
 refine ⟨?_,λkv hkv=>?_⟩
 · have a:=pV h.nd (h.keys h')
   have b:=pV h'.nd (h'.keys h)
   rw [Ab,Ab] at a b
   omega
 · obtain ⟨c,n,rfl,hf⟩:=h.at_mem hkv
   exact ⟨rfl,by rw [h'.val c,hf]; rfl⟩
def aL (f:Nat->Option Int) (c:Nat):Int:=(f c).getD 0
def fP (c:Nat):Prop:=bL c\/dF c
instance (c:Nat):Decidable (fP c):=inferInstanceAs (Decidable (_\/_))
def bA (n:Nat->Int) (c:Nat):Option Int:=if fP c/\0 < n c then some (n c) else none
theorem jH {m n:Nat->Int} (h:∀ c,fP c->m c=n c):bA m=bA n:=by
 funext c
 unfold bA
 by_cases q:fP c
 · rw [h c q]
 · rw [if_neg λz=>q z.1,if_neg λz=>q z.1]
theorem gL {n:Nat->Int} {c:Nat} (hc:fP c) (h:0<=n c):aL (bA n) c=n c:=by
 unfold aL bA
 by_cases q:0 < n c
 · rw [if_pos ⟨hc,q⟩]; rfl
 · rw [if_neg λz=>q z.2]; show (0:Int)=n c; omega
theorem Lk.ext {kvs:List (Key × V)} {f g:Nat->Option Int} (h:Lk kvs f) (e:f=g):Lk kvs g:=e ▸ h
theorem kG (f:Nat->Option Int) (c:Nat):((f c).map V.int).getD (.int 0)=.int (aL f c):=by
 unfold aL
 cases f c <;> rfl
theorem flags_mem {c:Nat}:c∈flagsT.cps.toList ↔ fP c:=rY
def dZM (n:Nat->Int) (i c:Nat):Option Int:=if c∈flagsT.cps.toList.take i/\0 < n c then some (n c) else none
theorem dXO (n:Nat->Int):dZM n 0=λ_=>none:=by
 funext c
 unfold dZM
 rw [Ec]
 exact if_neg λz=>nomatch z.1
def kvL (g:Nat->Int) (L:List Nat):List (Key × V):=L.map λc=>(Sum.inr (one c),V.int (g c))
def bZ (n:Nat->Int) (i:Nat):List Nat:=(flagsT.cps.toList.take i).filter λc=>decide (0 < n c)
theorem vV {g:Nat->Int} {L:List Nat} {c:Nat} (h:c ∉ L):bX (kvL g L) (Sum.inr (one c))=none:=by
 induction L with
 | nil=>rfl
 | cons d r ih=>
   show bX ((Sum.inr (one d),V.int (g d)) :: kvL g r) _=none
   rw [bY (λz=>h (by rw [key_one.mp z]; exact Al)),ih λz=>h (Am _ z)]
theorem flags_nd:flagsT.cps.toList.Nodup:=by decide +kernel
theorem plainL_mem {n:Nat->Int} {i c:Nat}:c∈bZ n i ↔ c∈flagsT.cps.toList.take i/\0 < n c:=by
 unfold bZ
 rw [Dp,Bl]
theorem yO {n:Nat->Int} {i c:Nat} (h:flagsT.cps.toList[i]?=some c):c ∉ bZ n i:=λz=>by
 have m:=(plainL_mem.mp z).1
 obtain ⟨j,hj,e⟩:=Cd.mp m
 rw [Bz] at hj
 rw [List.getElem_take] at e
 obtain ⟨hi,e2⟩:=Ad.mp h
 have:=(Fi flags_nd).mp (e.trans e2.symm)
 omega
theorem yV {n:Nat->Int} {i c:Nat} (h:flagsT.cps.toList[i]?=some c) (p:0 < n c):bZ n (i + 1)=bZ n i ++ [c]:=by
 unfold bZ
 rw [Bc,h,Eu]
 show _ ++ [c].filter _=_
 rw [show [c].filter (λc=>decide (0 < n c))=[c] by simp [p]]
theorem yT {n:Nat->Int} {i c:Nat} (h:flagsT.cps.toList[i]?=some c) (p:¬ 0 < n c):bZ n (i + 1)=bZ n i:=by
 unfold bZ
 rw [Bc,h,Eu]
 show _ ++ [c].filter _=_
 rw [show [c].filter (λc=>decide (0 < n c))=[] by simp; omega,List.append_nil]
theorem jG (n:Nat->Int) (i:Nat):(bZ n i).length<=27:=by
 unfold bZ
 exact Bf (List.length_filter_le ..) (by rw [Bz]; exact Bf (Nat.min_le_right ..) (by decide))
theorem aZF (n:Nat->Int) (i:Nat):(bZ n i).Nodup:=(flags_nd.sublist (Ga ..)).filter _
def aZJ (g:Nat->Int) (L:List Nat) (d:Nat):Option Int:=if d∈L then some (g d) else none
theorem bXD (g:Nat->Int) {r:List Nat} {c:Nat} (hc:c ∉ r) (h:Lk (kvL g r) (aZJ g r)):Lk (kvL g (r ++ [c])) (aZJ g (r ++ [c])):=by
 have l:=h.put c (g c)
 rw [jT _ (vV hc)] at l
 have e:kvL g (r ++ [c])=kvL g r ++ [(Sum.inr (one c),V.int (g c))]:=by unfold kvL; rw [Ak]; rfl
 rw [e]
 refine l.ext ?_
 funext d
 unfold aZJ
 by_cases hd:d=c
 · subst hd
   rw [if_pos rfl,if_pos (Bd _ (As.mpr rfl))]
 · rw [if_neg hd]
   by_cases hr:d∈r
   · rw [if_pos hr,if_pos (Bt _ hr)]
   · rw [if_neg hr,if_neg (λz=>(Bj.mp z).elim hr λy=>hd (As.mp y))]
theorem aXJ (g:Nat->Int):∀ (L r:List Nat),(r ++ L).Nodup->Lk (kvL g r) (aZJ g r)->Lk (kvL g (r ++ L)) (aZJ g (r ++ L))
 | [],r,_,h=>by rw [Bm]; exact h
 | c :: L,r,nd,h=>by
   have e:r ++ c :: L=(r ++ [c]) ++ L:=by rw [List.append_assoc]; rfl
   have hc:c ∉ r:=λz=>(Cu.mp nd).2.2 c z c Al rfl
   rw [e] at nd ⊢
   exact aXJ g L (r ++ [c]) nd (bXD g hc h)
theorem dQI (g:Nat->Int) {L:List Nat} (nd:L.Nodup):Lk (kvL g L) (λd=>if d∈L then some (g d) else none):=by
 have r:=aXJ g L [] nd (Lk.nil.ext (by funext d; unfold aZJ; rw [if_neg (λz=>nomatch z)]))
 exact r
theorem iK (n:Nat->Int):Lk (kvL n (bZ n 27)) (bA n):=by
 refine (dQI n (aZF n 27)).ext ?_
 funext d
 unfold bA
 have e:d∈bZ n 27 ↔ fP d/\0 < n d:=by
   rw [plainL_mem,Bo (by decide),flags_mem]
 by_cases h:d∈bZ n 27
 · rw [if_pos h,if_pos (e.mp h)]
 · rw [if_neg h,if_neg (λz=>h (e.mpr z))]
def dY:Sp:=λvs H Q _=>∃ (a:Addr) (kvs:List (Key × V)) (f:Nat->Option Int),vs=[.ref a]/\Rd H a (.dK kvs)/\Lk kvs f/\
 ∀ (r:Addr) (H':Hp),H r=none->Same H H'->H' r=some (.dK (kvL (aL f) (bZ (aL f) 27)))->Q (.ref r) H'
theorem sc_plain_locker:FnScope ["locker", "plain", "flag"] ["locker"] (aG cQ):=⟨rfl,rfl,rfl,by decide +kernel,rfl,by decide +kernel,by decide +kernel⟩
theorem oA {Zw Zz Zx Zy:Addr} {f:Addr} {fd:FuncData} (F:Fun K "plain_locker" "plain_locker" cQ f fd) (G:Gs K mg Zw Zz Zx Zy)  : FnOk P w K mg base CX0 1 f fd ["locker"] dY:=by
 refine F.ok sc_plain_locker (λvs H Q E h=>?_) (λcdv A outer s H vs Q E hr h=>?_)
 · obtain ⟨a,kvs,f,rfl,_⟩:=h; rfl
 obtain ⟨a,kvs,f,rfl,ha,lk,q⟩:=h
 refine ⟨_,(@aD _ _ _ _ _ (@aO _ _ 1 _ _ _ _ sc_plain_locker.nd (by rfl) (by exact (Or.inl rfl)) lR (by rfl) (by first | exact Or.inl rfl | exact Or.inr rfl)) (@aD _ _ _ _ _ (bQ Ay rfl (vB (kM rfl G.s_FLAGS)) (aP (i:=2) sc_plain_locker.nd rfl (Or.inl rfl)) (@aH _ _ _ (cG (aY cQX (fR Bw Cs (tJ (Room.u1 hr)) (mv 0) (aA (mv 2) (aA aJ aB))) aJ (bF _)) (@aH _ _ _ (dM (Room.u1 hr) (mv 1) (mv 2) (fM (Room.u1 hr) (mv 0) (mv 2) (λ_ _=>rfl)) rfl)) bI))) (@aH _ _ _ (aS (mv 1))))),?_⟩
 walk_at "go"
 intro p hp
 walk_at "go"
 refine bZK (λi σ H'=>∃ (v:Option V),σ=[some (.ref a),some (.ref p),v]/\Same H H'/\H' p=some (.dK (kvL (aL f) (bZ (aL f) i))))
   ⟨none,rfl,aF hp _,aE⟩ ?_ ?_
 · rintro i c σ H2 hc ⟨v,rfl,s2,hH⟩
   have hi:i < 27:=(Ad.mp hc).1
   have ha2:Rd H2 a (.dK kvs):=ha.elim (λe=>.inl (s2 _ _ e)) λ⟨o,e⟩=>.inr ⟨o,s2 _ _ e⟩
   have hd2:isD H2 a=true:=ha2.elim jS λ⟨o,e⟩=>bZT e
   have hpl:(kvL (aL f) (bZ (aL f) i)).length < sizeLine:=bC (by unfold kvL; rw [Ab]; have:=jG (aL f) i; omega)
   walk_at "go"
   refine sZ (z:=one c) ha2 ?_
   rw [lk.val c,kG]
   walk_at "go"
   refine gS (λhd=>?_) (λhd=>?_)
   · have hd':=Ba hd
     obtain ⟨n,hn⟩:∃ n,f c=some n:=by
       cases e:f c with
       | none=>rw [show aL f c=0 by unfold aL; rw [e]; rfl] at hd'; omega
       | some n=>exact ⟨n,rfl⟩
     have hcn:aL f c=n:=by unfold aL; rw [hn]; rfl
     walk_at "go"
     refine kY (z:=one c) ha2 (by rw [lk.val c,hn]; rfl) ?_
     walk_at "go"
     refine eZ (z:=one c) hH hpl ?_
     refine ⟨_,rfl,aW hp s2,?_⟩
     rw [aE,jT _ (vV (yO hc)),yV hc (by omega)]
     unfold kvL
     rw [Ak,<-hcn]
     rfl
   · have hd':=Bp (Br.mpr hd)
     walk_at "go"
     exact ⟨_,rfl,s2,by rw [hH,yT hc (by omega)]⟩
 · rintro σ H2 ⟨v,rfl,s2,hH⟩
   walk_at "go"
   exact q p H2 hp s2 hH
def cnt (cs:List Nat) (c:Nat):Int:=((cs.countP (· == c):Nat):Int)
theorem jP {cs:List Nat} {i c:Nat} (h:cs[i]?=some c) (d:Nat):cnt (cs.take (i + 1)) d=cnt (cs.take i) d + if d=c then 1 else 0:=by
 unfold cnt
 rw [Bc,h,Fx]
 show (((cs.take i).countP (· == d) + [c].countP (· == d):Nat):Int)=_
 by_cases e:d=c
 · subst e
   rw [if_pos rfl,List.countP_cons,List.countP_nil,if_pos (by simp)]
   push_cast
   rfl
 · rw [if_neg e,List.countP_cons,List.countP_nil,if_neg (by simp; exact λz=>e z.symm)]
   push_cast
   rfl
theorem dXB {cs:List Nat} {i c:Nat} (h:cs[i]?=some c):cnt (cs.take i) c + 1<=cnt cs c:=by
 have e:=jP h c
 rw [if_pos rfl] at e
 rw [<-e]
 unfold cnt
 have:(cs.take (i + 1)).countP (· == c)<=cs.countP (· == c):=List.Sublist.countP_le (Ga _ _)
 omega
theorem yQ (cs:List Nat) (c:Nat):0<=cnt cs c:=by unfold cnt; omega
def tW (f:Nat->Option Int) (cs:List Nat) (k:Nat):Prop:=∀ j d,j < k->cs[j]?=some d->cnt (cs.take j) d < aL f d
theorem sR {f:Nat->Option Int} {cs:List Nat} (c:Nat) (h0:0<=aL f c):∀ {k:Nat},tW f cs k->cnt (cs.take k) c<=aL f c
 | 0,_=>by rw [Ec]; exact h0
 | k + 1,h=>by
   have ih:=sR c h0 (k:=k) λj d hj=>h j d (by omega)
   cases e:cs[k]? with
   | none=>rw [List.take_add_one,e]; simpa using ih
   | some d=>
     rw [jP e]
     have hd:=h k d (by omega) e
     by_cases z:c=d
     · subst z
       rw [if_pos rfl]
       omega
     · rw [if_neg z]
       omega
def xR (aC:Addr):Sp:=λvs H Q E=>∃ (a b:Addr) (kvs:List (Key × V)) (f:Nat->Option Int) (cs:List Nat),vs=[.ref a,.ref b]/\H a=some (.dK kvs)/\Lk kvs f/\(∀ c,0<=aL f c)/\rdL H b=some ((cs.map one).map V.str)/\cs.length<=1000/\(∀ c∈cs,fP c)/\
 (tW f cs cs.length->∀ (r:Addr) (kws:List (Key × V)) (H':Hp),H r=none->Same H H'->H' r=some (.dK kws)->Lk kws (bA λc=>aL f c - cnt cs c)->Q (.ref r) H')/\
 (∀ i c,cs[i]?=some c->tW f cs i->aL f c<=cnt (cs.take i) c->∀ (dx:Addr) (H':Hp),Same H H'->H' dx=some (xdO dx [("flag",.str (one c))])->E (.ref aC) (some dx) H')
theorem sc_taken:FnScope ["locker", "flags", "left", "flag"] ["locker", "flags"] (aG kE):=⟨rfl,rfl,rfl,by decide +kernel,rfl,by decide +kernel,by decide +kernel⟩
theorem bZC {Zw Zz Zx Zy:Addr} {f:Addr} {fd:FuncData} (F:Fun K "taken" "taken" kE f fd) (G:Gs K mg Zw Zz Zx Zy) (c_plain_locker:Cal P w K mg base 1 "plain_locker" ["locker"] dY) (c_Short_init:zO P w K mg base 1 Zx ["self", "flag"] (hU Zx)):FnOk P w K mg base (CXr P w) 3 f fd ["locker", "flags"] (xR Zx):=by
 refine F.okX sc_taken (λvs H Q E h=>?_) (λcdv A outer s H vs Q E hr h=>?_)
 · obtain ⟨a,b,kvs,f,cs,rfl,_⟩:=h; rfl
 obtain ⟨a,b,kvs,f,cs,rfl,ha,lk,hf0,hb,hcs,hfl,q,qe⟩:=h
 refine ⟨_,(@aD _ _ _ _ _ (@aO _ _ 2 _ _ _ _ sc_taken.nd (by rfl) (by exact (Or.inl rfl)) (aT c_plain_locker hr (by decide) rfl (aA (mv 0) aB)) (by rfl) (by first | exact Or.inl rfl | exact Or.inr rfl)) (@aD _ _ _ _ _ (bQ PassesOwn.leaving rfl (bW (mv 1)) (aP (i:=3) sc_taken.nd rfl (Or.inl rfl)) (@aD _ _ _ _ _ (cG (aY vX (fR Bw Cs (tJ (Room.u1 hr)) (mv 2) (aA (mv 3) (aA aJ aB))) aJ (bF _)) (@aH _ _ _ (nH oM rfl rfl rfl G.c_Short G.xm_Short c_Short_init hr (by decide) (aA (mv 3) aB))) bI) (@aH _ _ _ (dM (Room.u1 hr) (mv 2) (mv 3) (aU jY (fM (Room.u1 hr) (mv 2) (mv 3) (λ_ _=>rfl)) aJ) rfl)))) (@aH _ _ _ (aS (aT c_plain_locker hr (by decide) rfl (aA (mv 2) aB)))))),?_⟩
 walk_at "go"
 refine ⟨a,kvs,f,rfl,.inl ha,lk,λp H1 hp s1 hp1=>?_⟩
 have lw:Lk (kvL (aL f) (bZ (aL f) 27)) _:=iK (aL f)
 have hwl:(kvL (aL f) (bZ (aL f) 27)).length<=27:=by unfold kvL; rw [Ab]; exact jG _ _
 generalize kvL (aL f) (bZ (aL f) 27)=kws at hp1 lw hwl
 have hb1:=aI s1 hb
 walk_at "go"
 refine cT (xs:=(cs.map one).map V.str) (λi σ H'=>∃ (kvs':List (Key × V)) (g:Nat->Option Int) (v:Option V),σ=[some (.ref a),some (.ref b),some (.ref p),v]/\Same H H'/\H' p=some (.dK kvs')/\Lk kvs' g/\(∀ c,aL g c=aL (bA (aL f)) c - cnt (cs.take i) c)/\kvs'.length<=27 + i/\tW f cs i)
   ⟨kws,_,_,rfl,s1,hp1,lw,λc=>by rw [Ec]; show _=_ - ((0:Nat):Int); omega,by omega,λj d hj=>by omega⟩ (λi σ H' _ ⟨_,_,_,_,e,_⟩=>aI e hb) ?_ ?_
 · rintro i x σ H2 hx ⟨kvs',g,v,rfl,s2,hH,lg,hg,hl,hen⟩
   have hi:i < cs.length:=by have:=(Ad.mp hx).1; rw [Ab,Ab] at this; exact this
   obtain ⟨c,hc⟩:∃ c,cs[i]?=some c:=⟨_,Aa hi⟩
   obtain rfl:x=V.str (one c):=by rw [Ah,Ah,hc] at hx; cases hx; rfl
   have hpl:kvs'.length < sizeLine:=bC (by omega)
   have hfc:=hfl c (Ai hc)
   have hgc:=hg c
   rw [gL hfc (hf0 c)] at hgc
   have hle:=sR c (hf0 c) hen
   walk_at "go"
   refine sZ (z:=one c) (.inl hH) ?_
   rw [lg.val c,kG]
   walk_at "go"
   refine gS (λhd=>?_) (λhd=>?_)
   · have hd':=Ba hd
     walk_at "go"
     refine ⟨by show 1<=sizeLine; decide,λea hea=>⟨ea,_,rfl,aE,λdx hdx=>⟨rfl,some dx,(bZI hdx).1,?_⟩⟩⟩
     exact qe i c hc hen (by omega) dx _ (bZX s2 hea hdx) (bZI hdx).2
   · have hd':=Bp (Br.mpr hd)
     obtain ⟨n,hn⟩:∃ n,g c=some n:=by
       cases e:g c with
       | none=>exact absurd (show aL g c=0 by unfold aL; rw [e]; rfl) hd'
       | some n=>exact ⟨n,rfl⟩
     have hcn:aL g c=n:=by unfold aL; rw [hn]; rfl
     walk_at "go"
     refine kY (z:=one c) (.inl hH) (by rw [lg.val c,hn]; rfl) ?_
     walk_at "go"
     refine eZ (z:=one c) hH hpl ?_
     refine ⟨_,_,_,rfl,aW hp s2,aE,lg.put c (n - 1),λd=>?_,by have:=cR kvs' (Sum.inr (one c)) (.int (n - 1)); omega,λj d hj hjd=>?_⟩
     · rw [jP hc]
       have:=hg d
       by_cases e:d=c
       · subst e
         show ((if d=d then some (n - 1) else g d):Option Int).getD 0=_
         rw [if_pos rfl,if_pos rfl]
         show n - 1=_
         omega
       · show ((if d=c then some (n - 1) else g d):Option Int).getD 0=_
         rw [if_neg e,if_neg e]
         show aL g d=_
         omega
     · by_cases e:j=i
       · subst e
         rw [hc] at hjd
         cases hjd
         omega
       · exact hen j d (by omega) hjd
 · rintro σ H2 ⟨kvs',g,v,rfl,s2,hH,lg,hg,hl,hen⟩
   have ecs:((cs.map one).map V.str).length=cs.length:=by rw [Ab,Ab]
   rw [ecs] at hg hl hen
   walk_at "go"
   refine ⟨p,kvs',g,rfl,.inl hH,lg,λr H3 hr s3 hr3=>?_⟩
   have l3:Lk (kvL (aL g) (bZ (aL g) 27)) _:=iK (aL g)
   generalize kvL (aL g) (bZ (aL g) 27)=kws' at hr3 l3
   refine q hen r kws' H3 (none_of s2 hr) (s2.trans s3) hr3 (l3.ext (jH λc hc=>?_))
   rw [hg c,gL hc (hf0 c),Bo (Ag _)]
def mP:Sp:=λvs H Q _=>∃ (a b:Addr) (kvs:List (Key × V)) (f:Nat->Option Int) (cs:List Nat),vs=[.ref a,.ref b]/\H a=some (.dK kvs)/\Lk kvs f/\(∀ c,0<=aL f c)/\rdL H b=some ((cs.map one).map V.str)/\cs.length<=1000/\
 ∀ (r:Addr) (kws:List (Key × V)) (H':Hp),H r=none->Same H H'->H' r=some (.dK kws)->Lk kws (bA λc=>aL f c + cnt cs c)->Q (.ref r) H'
theorem sc_put_in:FnScope ["locker", "flags", "more", "flag"] ["locker", "flags"] (aG iN):=⟨rfl,rfl,rfl,by decide +kernel,rfl,by decide +kernel,by decide +kernel⟩
theorem aJW {Zw Zz Zx Zy:Addr} {f:Addr} {fd:FuncData} (F:Fun K "put_in" "put_in" iN f fd) (G:Gs K mg Zw Zz Zx Zy) (c_plain_locker:Cal P w K mg base 1 "plain_locker" ["locker"] dY):FnOk P w K mg base CX0 2 f fd ["locker", "flags"] mP:=by
 refine F.ok sc_put_in (λvs H Q E h=>?_) (λcdv A outer s H vs Q E hr h=>?_)
 · obtain ⟨a,b,kvs,f,cs,rfl,_⟩:=h; rfl
 obtain ⟨a,b,kvs,f,cs,rfl,ha,lk,hf0,hb,hcs,q⟩:=h
 refine ⟨_,(@aD _ _ _ _ _ (@aO _ _ 2 _ _ _ _ sc_put_in.nd (by rfl) (by exact (Or.inl rfl)) (aT c_plain_locker hr (by decide) rfl (aA (mv 0) aB)) (by rfl) (by first | exact Or.inl rfl | exact Or.inr rfl)) (@aD _ _ _ _ _ (bQ Ay rfl (bW (mv 1)) (aP (i:=3) sc_put_in.nd rfl (Or.inl rfl)) (@aH _ _ _ (dM (Room.u1 hr) (mv 2) (mv 3) (aU cD (fR Bw Cs (tJ (Room.u1 hr)) (mv 2) (aA (mv 3) (aA aJ aB))) aJ) rfl))) (@aH _ _ _ (aS (aT c_plain_locker hr (by decide) rfl (aA (mv 2) aB)))))),?_⟩
 walk_at "go"
 refine ⟨a,kvs,f,rfl,.inl ha,lk,λp H1 hp s1 hp1=>?_⟩
 have lw:Lk (kvL (aL f) (bZ (aL f) 27)) _:=iK (aL f)
 have hwl:(kvL (aL f) (bZ (aL f) 27)).length<=27:=by unfold kvL; rw [Ab]; exact jG _ _
 generalize kvL (aL f) (bZ (aL f) 27)=kws at hp1 lw hwl
 have hb1:=aI s1 hb
 walk_at "go"
 refine cT (xs:=(cs.map one).map V.str) (λi σ H'=>∃ (kvs':List (Key × V)) (g:Nat->Option Int) (v:Option V),σ=[some (.ref a),some (.ref b),some (.ref p),v]/\Same H H'/\H' p=some (.dK kvs')/\Lk kvs' g/\(∀ c,aL g c=aL (bA (aL f)) c + cnt (cs.take i) c)/\kvs'.length<=27 + i)
   ⟨kws,_,_,rfl,s1,hp1,lw,λc=>by rw [Ec]; show _=_ + ((0:Nat):Int); omega,by omega⟩ (λi σ H' _ ⟨_,_,_,_,e,_⟩=>aI e hb) ?_ ?_
 · rintro i x σ H2 hx ⟨kvs',g,v,rfl,s2,hH,lg,hg,hl⟩
   have hi:i < cs.length:=by have:=(Ad.mp hx).1; rw [Ab,Ab] at this; exact this
   obtain ⟨c,hc⟩:∃ c,cs[i]?=some c:=⟨_,Aa hi⟩
   obtain rfl:x=V.str (one c):=by rw [Ah,Ah,hc] at hx; cases hx; rfl
   have hpl:kvs'.length < sizeLine:=bC (by omega)
   walk_at "go"
   refine sZ (z:=one c) (.inl hH) ?_
   rw [lg.val c,kG]
   walk_at "go"
   refine eZ (z:=one c) hH hpl ?_
   refine ⟨_,_,_,rfl,aW hp s2,aE,lg.put c (aL g c + 1),λd=>?_,by have:=cR kvs' (Sum.inr (one c)) (.int (aL g c + 1)); omega⟩
   rw [jP hc]
   have:=hg d
   by_cases e:d=c
   · subst e
     show ((if d=d then some (aL g d + 1) else g d):Option Int).getD 0=_
     rw [if_pos rfl,if_pos rfl]
     show aL g d + 1=_
     omega
   · show ((if d=c then some (aL g c + 1) else g d):Option Int).getD 0=_
     rw [if_neg e,if_neg e]
     show aL g d=_
     omega
 · rintro σ H2 ⟨kvs',g,v,rfl,s2,hH,lg,hg,hl⟩
   walk_at "go"
   refine ⟨p,kvs',g,rfl,.inl hH,lg,λr H3 hr s3 hr3=>?_⟩
   refine q r _ H3 (none_of s2 hr) (s2.trans s3) hr3 ((iK (aL g)).ext (jH λc hc=>?_))
   rw [hg c,gL hc (hf0 c),Bo (by rw [Ab,Ab]; exact Ag _)]
def kQ:Sp:=λvs H Q _=>∃ (cw:List Nat) (k:Nat) (p:Int),vs=[.str (bH cw),.int p]/\p=(k:Int) + 1/\k < cw.length/\cw.length<=7/\
 ∀ (r:Addr) (H':Hp),H r=none->Same H H'->H' r=some (.lst (((chs cw k).map one).map V.str))->Q (.ref r) H'
theorem bJ7 {β:Type} (G:Nat->Option β) (k:Nat):[0,1,2,3].filterMap (λn=>if n < k then G n else none)=(List.range (min k 4)).filterMap G:=by
 match k with
 | 0=>rfl
 | 1=>rfl
 | 2=>rfl
 | 3=>rfl
 | k + 4=>
   rw [Gh (by omega)]
   exact lZ λn hn=>if_pos (by simp only [List.mem_cons,List.not_mem_nil,or_false] at hn; omega)
def atF (cw:List Nat) (k:Nat) (c:Nat):Option V:=if c - 49 < k then (if cw.getD (c - 49) 0=cw.getD k 0 then some (.str (one c)) else none) else none
theorem dJT (cw:List Nat) (k:Nat):subsT.cps.toList.filterMap (atF cw k)=(((List.range (min k 4)).filterMap (chF cw k)).map one).map V.str:=by
 rw [zU,show [49,50,51,52]=[0,1,2,3].map (49 + ·) from rfl,List.filterMap_map,Dc,List.map_filterMap,<-bJ7]
 refine lZ λn _=>?_
 show atF cw k (49 + n)=_
 unfold atF chF
 rw [show 49 + n - 49=n by omega]
 by_cases h1:n < k
 · rw [if_pos h1,if_pos h1]
   by_cases h2:cw.getD n 0=cw.getD k 0
   · rw [if_pos h2,if_pos h2]; rfl
   · rw [if_neg h2,if_neg h2]; rfl
 · rw [if_neg h1,if_neg h1]
theorem sc_choices_at:FnScope ["word", "place", "letter", "above"] ["word", "place"] (aG cU):=⟨rfl,rfl,rfl,by decide +kernel,rfl,by decide +kernel,by decide +kernel⟩
theorem qQ {Zw Zz Zx Zy:Addr} {f:Addr} {fd:FuncData} (F:Fun K "choices_at" "choices_at" cU f fd) (G:Gs K mg Zw Zz Zx Zy)  : FnOk P w K mg base CX0 1 f fd ["word", "place"] kQ:=by
 refine F.ok sc_choices_at (λvs H Q E h=>?_) (λcdv A outer s H vs Q E hr h=>?_)
 · obtain ⟨cw,k,p,rfl,_⟩:=h; rfl
 obtain ⟨cw,k,pl,rfl,hpl,hk,h7,q⟩:=h
 refine ⟨_,(@aD _ _ _ _ _ (@aO _ _ 2 _ _ _ _ sc_choices_at.nd (by rfl) (by exact (Or.inr rfl)) (bE bS (mv 0) (aU jY (mv 1) aJ) (λ_ _=>rfl)) (by rfl) (by first | exact Or.inl rfl | exact Or.inr rfl)) (@aD _ _ _ _ _ (oN (i:=3) sc_choices_at.nd rfl (Or.inl rfl) rfl (vB (kM rfl G.s_SUBSTITUTES)) (iE (N:=["sign", "place", "letter", "word"]) ["word", "place", "letter", "above"] (aG cU) [none,some 1,some 2,some 0] rfl rfl rfl (λx h=>cH h) (by decide +kernel)) (by decide +kernel) rfl (by decide +kernel) (λC s₀ H₀ ex=>(aP (i:=0) (show List.Nodup (["sign", "place", "letter", "word"]:List Str) by decide +kernel) rfl (Or.inl rfl))) (λC s₀ H₀ ex=>(jD (PW.pt (uV (aY bXF (bK aQV rfl G.b_int tX (aA (mv 0) aB)) (mv 1) (bF _)) (oO (aY vX (bE bS (mv 3) (aU jY (bK aQV rfl G.b_int tX (aA (mv 0) aB)) aJ) (λ_ _=>rfl)) (mv 2) (bF _))))))) (λC s₀ H₀ ex=>(mv 0))) (@aH _ _ _ (aS (aU cD (bP (aA (mv 2) aB)) (mv 3)))))),?_⟩
 have hwl:(bH cw).length=cw.length:=eW cw
 walk_at "go"
 refine kC (by rw [hwl]; exact bU (by omega)) (mE (k:=k) (by omega) hk) ?_
 walk_at "go"
 refine cZ2 (atF cw k) (bC (by decide)) (λi c Hc A B hc' hA=>?_) (λD hD=>?_)
 · have hs:dF c:=mem_subs.mp (Ai hc')
   have h49:49<=c:=hs.1
   walk_at "go"
   refine ⟨Wk.set rfl (Wk.refl _),?_⟩
   walk_at "go"
   refine vH (oQ hs) (by show 1<=640; decide) ?_
   walk_at "go"
   unfold atF at hA
   refine gS (λhd=>?_) (λhd=>?_)
   · have hd':=Ba hd
     have hck:c - 49 < k:=by omega
     rw [if_pos hck] at hA
     walk_at "go"
     refine vH (oQ hs) (by show 1<=640; decide) ?_
     walk_at "go"
     refine kC (by rw [hwl]; exact bU (by omega)) (mE (k:=c - 49) (by omega) (by omega)) ?_
     walk_at "go"
     rw [show decide (({ cps:=#[cw.getD (c - 49) 0] }:Str)={ cps:=#[cw.getD k 0] })=decide (cw.getD (c - 49) 0=cw.getD k 0) from tV _ _]
     by_cases he:cw.getD (c - 49) 0=cw.getD k 0
     · rw [Au he]
       rw [if_pos he] at hA
       walk_at "go"
       exact hA
     · rw [Aw he]
       rw [if_neg he] at hA
       walk_at "go"
       exact hA
   · have hd':=Bp (Br.mpr hd)
     have hck:¬ c - 49 < k:=by omega
     rw [if_neg hck] at hA
     walk_at "go"
     exact hA
 · rw [show (Str.ofString "1234").cps.toList.filterMap (atF cw k)=_ from dJT cw k]
   walk_at "go"
   refine ⟨by show 1<=sizeLine; decide,λp hp=>?_⟩
   have hDp:D≠p:=λz=>by rw [z,aE] at hp; cases hp
   have hp0:H p=none:=by rw [aK (Ne.symm hDp)] at hp; exact hp
   have hlen:((((List.range (min k 4)).filterMap (chF cw k)).map one).map V.str).length<=4:=by
     have:=Dg (chF cw k) (List.range (min k 4))
     rw [Bx] at this
     rw [Ab,Ab]
     omega
   walk_at "go"
   refine qC (xs:=[V.str (one (cw.getD k 0))]) (ys:=(((List.range (min k 4)).filterMap (chF cw k)).map one).map V.str) mT (by rw [cQL hDp]; exact mT) (bU (by show 1 + _<=_; omega)) λr hr=>?_
   have hr0:H r=none:=by
     by_cases z:r=p
     · rw [z]; exact hp0
     · rw [aK z] at hr
       by_cases z2:r=D
       · rw [z2]; exact hD
       · rw [aK z2] at hr; exact hr
   walk_at "go"
   exact q r _ hr0 ((aF hD _).trans ((aF hp _).trans (aF hr _))) aE
def zY (cws:List (List Nat)) (k:Nat):List (List V):=(List.range (cws.getD k []).length).map λj:Nat=>[V.int (k:Int),V.int (1 + (j:Int))]
def lJ (cws:List (List Nat)) (i:Nat):List (List V):=((List.range i).map (zY cws)).flatten
theorem jZ (cws:List (List Nat)) (i:Nat):lJ cws (i + 1)=lJ cws i ++ zY cws i:=by
 unfold lJ
 rw [Ce,Ak,List.flatten_append]
 simp
theorem aJ1 {cws:List (List Nat)} {k:Nat} (h7:∀ c∈cws,c.length<=7):(zY cws k).length<=7:=by
 unfold zY
 rw [Ab,Bx,Ac]
 cases e:cws[k]? with
 | none=>exact Ck _
 | some c=>exact h7 c (Ai e)
theorem kZ {cws:List (List Nat)} (h7:∀ c∈cws,c.length<=7):∀ i,(lJ cws i).length<=7 * i
 | 0=>Ag _
 | i + 1=>by
   rw [jZ,Aj]
   have:=kZ h7 i
   have:=aJ1 (k:=i) h7
   omega
theorem pC {cws:List (List Nat)} {i:Nat} {x:V} (h:((cws.map bH).map V.str)[i]?=some x):∃ c,cws[i]?=some c/\c∈cws/\x=.str (bH c):=by
 rw [Ah,Ah] at h
 cases e:cws[i]? with
 | none=>rw [e] at h; cases h
 | some c=>rw [e] at h; cases h; exact ⟨c,rfl,Ai e,rfl⟩
theorem aJG {xs:List V} (h:xs.all bV=true):jA xs xs=true:=by
 rw [kF rfl,Dk]
 intro j hj
 exact jQ (gI h j)
def nT:Sp:=λvs H Q _=>∃ (a:Addr) (cws:List (List Nat)),vs=[.ref a]/\rdL H a=some ((cws.map bH).map V.str)/\cws.length<=8/\(∀ c∈cws,c.length<=7)/\
 ∀ (r:Addr) (ps:List Addr) (H':Hp),H r=none->Same H H'->H' r=some (.lst (ps.map V.ref))->Tups H H' ps (lJ cws cws.length)->Q (.ref r) H'
theorem sc_wants_of:FnScope ["words", "wants", "number", "word"] ["words"] (aG eI):=⟨rfl,rfl,rfl,by decide +kernel,rfl,by decide +kernel,by decide +kernel⟩
theorem vU {Zw Zz Zx Zy:Addr} {f:Addr} {fd:FuncData} (F:Fun K "wants_of" "wants_of" eI f fd) (G:Gs K mg Zw Zz Zx Zy)  : FnOk P w K mg base CX0 1 f fd ["words"] nT:=by
 refine F.ok sc_wants_of (λvs H Q E h=>?_) (λcdv A outer s H vs Q E hr h=>?_)
 · obtain ⟨a,cws,rfl,_⟩:=h; rfl
 obtain ⟨a,cws,rfl,ha,h8,h7,q⟩:=h
 refine ⟨_,(@aD _ _ _ _ _ (@aO _ _ 1 _ _ _ _ sc_wants_of.nd (by rfl) (by exact (Or.inl rfl)) (bP aB) (by rfl) (by first | exact Or.inl rfl | exact Or.inr rfl)) (@aD _ _ _ _ _ (bQ Ay rfl (uP rfl G.b_enumerate (aA (mv 0) aB)) (mJ (K:=K) (i:=2) (j:=3) (by rfl) (by rfl) sc_wants_of.nd (by rfl) (by exact (Or.inr rfl)) (by exact Or.inl rfl) (by rfl) (by exact (Or.inl rfl)) (by exact Or.inl rfl)) (@aH _ _ _ (cE (cX Bh Dt Du wB (mv 1) (aA (dD rfl (sV rfl G.b_range (aA aJ (aA (aU cD (aZ fB rfl G.b_len cP (aA (mv 3) aB)) aJ) aB))) (iE (N:=["place", "number"]) ["words", "wants", "number", "word"] (aG eI) [none,some 2] rfl rfl rfl (λx h=>cH h) (by decide +kernel)) (by decide +kernel) rfl (by decide +kernel) (λC s₀ H₀ ex=>(aP (i:=0) (show List.Nodup (["place", "number"]:List Str) by decide +kernel) rfl (Or.inl rfl))) (λC s₀ H₀ ex=>jB) (λC s₀ H₀ ex=>(oW (aA (mv 1) (aA (mv 0) aB))))) aB))))) (@aH _ _ _ (aS (mv 1))))),?_⟩
 walk_at "go"
 refine ⟨by decide,λp hp=>?_⟩
 have ha1:=aI (aF hp (HO.lst [])) ha
 walk_at "go"
 refine aQU (xs:=(cws.map bH).map V.str) (λi σ H'=>∃ (ps:List Addr) (v1 v2:Option V),σ=[some (.ref a),some (.ref p),v1,v2]/\Same H H'/\H' p=some (.lst (ps.map V.ref))/\Tups H H' ps (lJ cws i))
   ⟨[],_,_,rfl,aF hp _,aE,.nil⟩ (λj σ H' _ ⟨_,_,_,_,e,_⟩=>aI e ha) ?_ ?_
 · rintro i x σ H2 pt hx ⟨ps,v1,v2,rfl,s2,hH,tp⟩ hpt
   have hi:i < cws.length:=by have:=(Ad.mp hx).1; rw [Ab,Ab] at this; exact this
   obtain ⟨cw,hcw,hm,rfl⟩:=pC hx
   have hc7:=h7 cw hm
   have hwl:(bH cw).length=cw.length:=eW cw
   walk_at "go"
   rw [hwl]
   refine ⟨⟨by omega,by omega,by omega,by omega⟩,?_⟩
   rw [show ((cw.length:Int) + 1 - 1).toNat=cw.length by omega]
   have s3:=s2.trans (aF hpt (HO.tup [V.int ((0 + i:Nat):Int),V.str (bH cw)]))
   have hH3:=aF hpt (HO.tup [V.int ((0 + i:Nat):Int),V.str (bH cw)]) _ _ hH
   have tp3:=tp.keep (aF hpt (HO.tup [V.int ((0 + i:Nat):Int),V.str (bH cw)]))
   generalize upd H2 pt (HO.tup [V.int ((0 + i:Nat):Int),V.str (bH cw)])=H3 at s3 hH3 tp3 ⊢
   refine aZ1 (λj=>[V.int ((0 + i:Nat):Int),V.int (1 + (j:Int))]) (bC (by omega)) (λj Hc A B hj hs hA=>?_) (λD Hd qs hD sD hDd hqn tq=>?_)
   · walk_at "go"
     refine ⟨Wk.set rfl (Wk.refl _),?_⟩
     walk_at "go"
     exact ⟨by show 2<=sizeLine; decide,λpp hpp=>hA pp _ hpp (aF hpp _) aE⟩
   · have hpd:=sD _ _ hH3
     have hpl:ps.length<=7 * i:=by rw [tp.1]; exact kZ h7 i
     have e:(List.range cw.length).map (λj:Nat=>[V.int ((0 + i:Nat):Int),V.int (1 + (j:Int))])=zY cws i:=by
       unfold zY
       rw [Ac,hcw,Nat.zero_add]
       rfl
     rw [e] at tq
     walk_at "go"
     refine ⟨ps ++ qs,_,_,rfl,aW hp (s3.trans sD),by rw [aE,Ak],?_⟩
     rw [jZ]
     exact ((tp3.keep sD).app (tq.older s3)).put hpd
 · rintro σ H2 ⟨ps,v1,v2,rfl,s2,hH,tp⟩
   walk_at "go"
   rw [show ((cws.map bH).map V.str).length=cws.length by rw [Ab,Ab]] at tp
   exact q p ps H2 hp s2 hH tp
def fV (cws:List (List Nat)) (i:Nat):Nat:=((cws.take i).map List.length).sum
def kW (cws:List (List Nat)) (cs:List Nat) (i:Nat):List V:=(((cs.drop (fV cws i)).take (cws.getD i []).length).map one).map V.str
theorem sP {cws:List (List Nat)} {i:Nat} {cw:List Nat} (h:cws[i]?=some cw):fV cws (i + 1)=fV cws i + cw.length:=by
 unfold fV
 rw [Bc,h,Ak,List.sum_append]
 simp
theorem cQI {xs:List V} {i j:Nat} (hj:i<=j):qV xs (some (i:Int)) (some (j:Int))=(xs.drop i).take (j - i):=by
 unfold qV
 show (xs.drop (if (i:Int) < 0 then ((i:Int) + (xs.length:Int)).toNat else min (i:Int).toNat xs.length)).take ((if (j:Int) < 0 then ((j:Int) + (xs.length:Int)).toNat else min (j:Int).toNat xs.length) - (if (i:Int) < 0 then ((i:Int) + (xs.length:Int)).toNat else min (i:Int).toNat xs.length))=_
 rw [if_neg (by omega),if_neg (by omega),Ei,Ei]
 by_cases h1:i<=xs.length
 · rw [Nat.min_eq_left h1]
   by_cases h2:j<=xs.length
   · rw [Nat.min_eq_left h2]
   · rw [Gh (by omega),Bo (by rw [Co]; omega),Bo (by rw [Co]; omega)]
 · rw [Gh (show xs.length<=i by omega),List.drop_of_length_le (Ag _),List.drop_of_length_le (by omega),List.take_nil,List.take_nil]
def mC:Sp:=λvs H Q _=>∃ (a b:Addr) (cws:List (List Nat)) (cs:List Nat),vs=[.ref a,.ref b]/\rdL H a=some ((cws.map bH).map V.str)/\rdL H b=some ((cs.map one).map V.str)/\cws.length<=8/\(∀ c∈cws,c.length<=7)/\
 ∀ (r:Addr) (ps:List Addr) (H':Hp),H r=none->Same H H'->H' r=some (.lst (ps.map V.ref))->(∀ p∈ps,p≠r)->Lsts H H' ps ((List.range cws.length).map (kW cws cs))->Q (.ref r) H'
theorem sc_hoists_of:FnScope ["words", "flags", "hoists", "start", "word", "end"] ["words", "flags"] (aG eM):=⟨rfl,rfl,rfl,by decide +kernel,rfl,by decide +kernel,by decide +kernel⟩
theorem vA {Zw Zz Zx Zy:Addr} {f:Addr} {fd:FuncData} (F:Fun K "hoists_of" "hoists_of" eM f fd) (G:Gs K mg Zw Zz Zx Zy)  : FnOk P w K mg base CX0 1 f fd ["words", "flags"] mC:=by
 refine F.ok sc_hoists_of (λvs H Q E h=>?_) (λcdv A outer s H vs Q E hr h=>?_)
 · obtain ⟨a,b,cws,cs,rfl,_⟩:=h; rfl
 obtain ⟨a,b,cws,cs,rfl,ha,hb,h8,h7,q⟩:=h
 refine ⟨_,(@aD _ _ _ _ _ (@aO _ _ 2 _ _ _ _ sc_hoists_of.nd (by rfl) (by exact (Or.inl rfl)) (bP aB) (by rfl) (by first | exact Or.inl rfl | exact Or.inr rfl)) (@aD _ _ _ _ _ (@aO _ _ 3 _ _ _ _ sc_hoists_of.nd (by rfl) (by exact (Or.inl rfl)) aJ (by rfl) (by first | exact Or.inl rfl | exact Or.inr rfl)) (@aD _ _ _ _ _ (bQ Ay rfl (bW (mv 0)) (aP (i:=4) sc_hoists_of.nd rfl (Or.inl rfl)) (@aD _ _ _ _ _ (@aO _ _ 5 _ _ _ _ sc_hoists_of.nd (by rfl) (by exact (Or.inl rfl)) (aU cD (mv 3) (aZ fB rfl G.b_len cP (aA (mv 4) aB))) (by rfl) (by first | exact Or.inl rfl | exact Or.inr rfl)) (@aD _ _ _ _ _ (cE (cX Bh Cg Ci nR (mv 2) (aA (bK iP rfl G.b_list dE (aA (xN dJQ (mv 1) (tU (mv 3)) (tU (mv 5))) aB)) aB))) (@aH _ _ _ (@aO _ _ 3 _ _ _ _ sc_hoists_of.nd (by rfl) (by exact (Or.inl rfl)) (mv 5) (by rfl) (by first | exact Or.inl rfl | exact Or.inr rfl)))))) (@aH _ _ _ (aS (mv 2)))))),?_⟩
 have hll:((cws.map bH).map V.str).length=cws.length:=by rw [Ab,Ab]
 walk_at "go"
 refine ⟨by decide,λp hp=>?_⟩
 have ha1:=aI (aF hp (HO.lst [])) ha
 walk_at "go"
 refine cT (xs:=(cws.map bH).map V.str) (λi σ H'=>∃ (ps:List Addr) (v4 v5:Option V),σ=[some (.ref a),some (.ref b),some (.ref p),some (.int ((fV cws i:Nat):Int)),v4,v5]/\Same H H'/\H' p=some (.lst (ps.map V.ref))/\(∀ x∈ps,x≠p)/\ps.length=i/\Lsts H H' ps ((List.range i).map (kW cws cs)))
   ⟨[],_,_,rfl,aF hp _,aE,(λx hx=>nomatch hx),rfl,.nil⟩ (λj σ H' _ ⟨_,_,_,_,e,_⟩=>aI e ha) ?_ ?_
 · rintro i x σ H2 hx ⟨ps,v4,v5,rfl,s2,hH,hne,hpl,tp⟩
   have hi:i < cws.length:=by have:=(Ad.mp hx).1; rw [hll] at this; exact this
   obtain ⟨cw,hcw,hm,rfl⟩:=pC hx
   have hc7:=h7 cw hm
   have hwl:(bH cw).length=cw.length:=eW cw
   have hb2:=aI s2 hb
   walk_at "go"
   rw [hwl]
   intro r1 hr1
   rw [show ((fV cws i:Nat):Int) + ((cw.length:Nat):Int)=((fV cws i + cw.length:Nat):Int) by push_cast; rfl,cQI (by omega),show fV cws i + cw.length - fV cws i=cw.length by omega]
   have hrow_e:(((cs.map one).map V.str).drop (fV cws i)).take cw.length=kW cws cs i:=by
     unfold kW
     rw [Ac,hcw,List.map_take,List.map_take,List.map_drop,List.map_drop]
     rfl
   rw [hrow_e]
   walk_at "go"
   intro r2 hr2
   have hp1:r2≠p:=λz=>by
     have:=aF hr1 (HO.lst (kW cws cs i)) _ _ hH
     rw [<-z,hr2] at this
     cases this
   have s3:Same H2 (upd (upd H2 r1 (HO.lst (kW cws cs i))) r2 (HO.lst (kW cws cs i))):=(aF hr1 _).trans (aF hr2 _)
   have hr3:(upd (upd H2 r1 (HO.lst (kW cws cs i))) r2 (HO.lst (kW cws cs i))) r2=some (.lst (kW cws cs i)):=aE
   have hr20:H2 r2=none:=none_of (aF hr1 _) hr2
   generalize upd (upd H2 r1 (HO.lst (kW cws cs i))) r2 (HO.lst (kW cws cs i))=H3 at s3 hr3 ⊢
   have hH3:=s3 _ _ hH
   have hm3:=bN hH3
   walk_at "go"
   have hne2:∀ x∈ps ++ [r2],x≠p:=λx hx=>by
     rcases Bj.mp hx with e | e
     · exact hne x e
     · rw [As.mp e]; exact hp1
   refine ⟨ps ++ [r2],some (.str (bH cw)),some (.int ((fV cws i + cw.length:Nat):Int)),?_,aW hp (s2.trans s3),by rw [aE,Ak]; rfl,hne2,by rw [Aj,hpl]; rfl,?_⟩
   · rw [sP hcw]
     rfl
   · rw [Ce,Ak]
     exact ((tp.keep s3).snoc (none_of s2 hr20) hr3).put hne2
 · rintro σ H2 ⟨ps,v4,v5,rfl,s2,hH,hne,hpl,tp⟩
   walk_at "go"
   rw [hll] at tp
   exact q p ps H2 hp s2 hH hne tp
theorem yF:FnScope ["text"] ["text"] (aG gH):=⟨rfl,rfl,rfl,by decide +kernel,rfl,by decide +kernel,by decide +kernel⟩
theorem aQD {Zw Zz Zx Zy:Addr} {f:Addr} {fd:FuncData} (F:Fun K "is_flag" "is_flag" gH f fd) (G:Gs K mg Zw Zz Zx Zy)  : FnOk P w K mg base CX0 1 f fd ["text"] oS:=by
 refine F.ok yF (λvs H Q E h=>?_) (λcdv A outer s H vs Q E hr h=>?_)
 · obtain ⟨z,rfl,_⟩:=h; rfl
 obtain ⟨z,rfl,hl,q⟩:=h
 refine ⟨_,(@aH _ _ _ (aS (bZ5 (iS vX (aZ fB rfl G.b_len cP (aA (mv 0) aB)) aJ (bF _)) (yJ (iS aQ1 (mv 0) (kM rfl G.s_FLAGS) (by rfl)))))),?_⟩
 walk_at "go"
 refine gS (λhc=>?_) (λhc=>?_)
 · have e:iR z=subIn z flagsT:=if_pos (by have:=Ba hc; omega)
   rw [e] at q
   walk_at "go"
   exact q
 · have e:iR z=false:=nV (by have:=Bp (Br.mpr hc); omega)
   rw [e] at q
   exact q
theorem uS:FnScope ["text", "place"] ["text", "place"] (aG eK):=⟨rfl,rfl,rfl,by decide +kernel,rfl,by decide +kernel,by decide +kernel⟩
theorem tM {Zw Zz Zx Zy:Addr} {f:Addr} {fd:FuncData} (F:Fun K "may_stand" "may_stand" eK f fd) (G:Gs K mg Zw Zz Zx Zy) (c_is_flag:Cal P w K mg base 1 "is_flag" ["text"] oS):FnOk P w K mg base CX0 2 f fd ["text", "place"] lN:=by
 refine F.ok uS (λvs H Q E h=>?_) (λcdv A outer s H vs Q E hr h=>?_)
 · obtain ⟨z,p,rfl,_⟩:=h; rfl
 obtain ⟨z,p,rfl,hl,q⟩:=h
 refine ⟨_,(@aD _ _ _ _ _ (cG (gN (cY (aT c_is_flag hr (by decide) rfl (aA (mv 0) aB)))) (@aH _ _ _ (aS fX)) bI) (@aD _ _ _ _ _ (cG (aY aQ1 (mv 0) (kM rfl G.s_SUBSTITUTES) (by rfl)) (@aH _ _ _ (aS (iS bXF (bK aQV rfl G.b_int tX (aA (mv 0) aB)) (mv 1) (bF _)))) bI) (@aH _ _ _ (aS fX)))),?_⟩
 walk_at "go"
 refine ⟨z,rfl,hl,?_⟩
 walk_at "go"
 refine gS (λhc=>?_) (λhc=>?_)
 · have hf:iR z=false:=by simpa using hc
   have e:cZ z p=false:=by
     by_cases h1:z.length=1
     · obtain ⟨c,rfl⟩:=pK h1
       rw [pD] at hf
       have hf:=Bp hf
       rw [lX]
       exact Aw λst=>hf (st.elim .inl λz=>.inr z.1)
     · exact if_neg h1
   rw [e] at q
   walk_at "go"
   exact q
 · have hf:iR z=true:=by simpa using hc
   obtain ⟨c,rfl,hcc⟩:=aZZ hf
   walk_at "go"
   rw [if_neg Ao,show subIn (one c) (Str.ofString "1234")=decide (dF c) from lL c]
   rw [lX] at q
   refine gS (λhd=>?_) (λhd=>?_)
   · have hs:=Ba hd
     walk_at "go"
     refine vH (oQ hs) (by show 1<=640; decide) ?_
     walk_at "go"
     rw [show decide (jM c p)=decide ((c:Int) - 48 < p) from Cp.mpr ⟨λst=>st.elim (λl=>absurd hs (hJ l)) (·.2),λl=>.inr ⟨hs,l⟩⟩] at q
     exact q
   · have hs:=Bp (Br.mpr hd)
     walk_at "go"
     rw [Au (show jM c p from .inl (hcc.resolve_right hs))] at q
     exact q
theorem wL:FnScope ["flags"] ["flags"] (aG fH):=⟨rfl,rfl,rfl,by decide +kernel,rfl,by decide +kernel,by decide +kernel⟩
theorem xO {Zw Zz Zx Zy:Addr} {f:Addr} {fd:FuncData} (F:Fun K "is_hoist" "is_hoist" fH f fd) (G:Gs K mg Zw Zz Zx Zy) (c_may_stand:Cal P w K mg base 2 "may_stand" ["text", "place"] lN):FnOk P w K mg base CX0 3 f fd ["flags"] nW:=by
 refine F.ok wL (λvs H Q E h=>?_) (λcdv A outer s H vs Q E hr h=>?_)
 · obtain ⟨a,zs,rfl,_⟩:=h; rfl
 obtain ⟨a,zs,rfl,ha,hl,hz,q⟩:=h
 refine ⟨_,(@aD _ _ _ _ _ (cG (PW.pt (mK (aY bXF (aZ fB rfl G.b_len cP (aA (mv 0) aB)) aJ (bF _)) (lD (aY cQX (aZ fB rfl G.b_len cP (aA (mv 0) aB)) (cXU rfl G.s_MOST_PLACES) (bF _))))) (@aH _ _ _ (aS fX)) bI) (@aH _ _ _ (aS (aZ (dJZ rfl) rfl G.b_all dQB (aA (dD rfl (bQ6 rfl G.b_enumerate (aA (mv 0) aB) (cQC aJ cJB)) (wY (N:=["place", "text"]) (by decide +kernel) (by decide +kernel)) (by decide +kernel) rfl (by decide +kernel) (λC s₀ H₀ ex=>(mJ (K:=K) (i:=0) (j:=1) (by rfl) (by rfl) (show List.Nodup (["place", "text"]:List Str) by decide +kernel) (by rfl) (by exact Or.inl rfl) (by exact Or.inr rfl) (by rfl) (by exact Or.inl rfl) (by exact Or.inr rfl))) (λC s₀ H₀ ex=>jB) (λC s₀ H₀ ex=>(aT c_may_stand hr (by decide) rfl (aA (mv 1) (aA (mv 0) aB))))) aB))))),?_⟩
 have hll:(zs.map V.str).length=zs.length:=Ab ..
 walk_at "go"
 rw [hll]
 refine gS (λhc=>?_) (λhc=>?_)
 · walk_at "go"
   have e:cF zs=false:=if_pos (.inl (by have:=Ba hc; omega))
   have r:=q H (Same.refl H)
   rw [e] at r
   exact r
 · have hc':=Bp (Br.mpr hc)
   walk_at "go"
   rw [hll]
   refine gS (λhd=>?_) (λhd=>?_)
   · walk_at "go"
     have e:cF zs=false:=if_pos (.inr (by have:=Ba hd; omega))
     have r:=q H (Same.refl H)
     rw [e] at r
     exact r
   · have hd':=Bp (Br.mpr hd)
     walk_at "go"
     refine ⟨⟨by omega,by omega⟩,?_⟩
     walk_at "go"
     refine cXN (λi x=>match x with | .str z=>some (.bl (cZ z ((1 + i:Nat):Int))) | _=>none) ha (by rw [hll]; exact bC (by omega)) (λi x Hc p A B hx sm hp hA=>?_) (λD Hd hD sd hr=>?_)
     · obtain ⟨z,hzi,rfl⟩:=lF hx
       walk_at "go"
       refine ⟨Wk.set rfl (Wk.set rfl (Wk.refl _)),?_⟩
       walk_at "go"
       refine ⟨z,_,rfl,hz z (Ai hzi),?_⟩
       exact hA _ (Same.refl _)
     · have e1:((List.range (zs.map V.str).length).filterMap λi=>(λi x=>match x with | .str z=>some (V.bl (cZ z ((1 + i:Nat):Int))) | _=>none:Nat->V->Option V) i ((zs.map V.str).getD i .non))=((List.range zs.length).map λi=>cZ (zs.getD i ⟨#[]⟩) ((1 + i:Nat):Int)).map V.bl:=by
         rw [hll,Dc]
         refine (lZ (g:=λi=>some (V.bl (cZ (zs.getD i ⟨#[]⟩) ((1 + i:Nat):Int)))) λi hi=>?_).trans (aXB _ _)
         have hi':=Cb.mp hi
         rw [Ac,Ah,Aa hi',Ac,Aa hi']
         rfl
       rw [e1] at hr
       walk_at "go"
       refine dZL hr ?_
       have e2:cF zs=((List.range zs.length).map λi=>cZ (zs.getD i ⟨#[]⟩) ((1 + i:Nat):Int)).all id:=by
         unfold cF
         rw [if_neg (by omega),List.all_map]
         rfl
       have r:=q _ sd
       rw [e2] at r
       exact r
theorem sc_read_of:FnScope ["flags", "word", "flag"] ["flags"] (aG gB):=⟨rfl,rfl,rfl,by decide +kernel,rfl,by decide +kernel,by decide +kernel⟩
theorem yY {Zw Zz Zx Zy:Addr} {f:Addr} {fd:FuncData} (F:Fun K "read_of" "read_of" gB f fd) (G:Gs K mg Zw Zz Zx Zy) (c_is_hoist:Cal P w K mg base 3 "is_hoist" ["flags"] nW):FnOk P w K mg base (CXr P w) 4 f fd ["flags"] (qK Zy):=by
 refine F.okX sc_read_of (λvs H Q E h=>?_) (λcdv A outer s H vs Q E hr h=>?_)
 · obtain ⟨a,zs,rfl,_⟩:=h; rfl
 obtain ⟨a,zs,rfl,ha,hl,hz,q,qe⟩:=h
 refine ⟨_,(@aD _ _ _ _ _ (cG (gN (cY (aT c_is_hoist hr (by decide) rfl (aA (mv 0) aB)))) (@aH _ _ _ (bQZ oM rfl rfl rfl G.c_NoHoist G.x_NoHoist Fh (@dXL _ _ _ _ _ _ aB))) bI) (@aD _ _ _ _ _ (@aO _ _ 1 _ _ _ _ sc_read_of.nd (by rfl) (by exact (Or.inl rfl)) gP (by rfl) (by first | exact Or.inl rfl | exact Or.inr rfl)) (@aD _ _ _ _ _ (PS.nox (bQ Ay rfl (bW (mv 0)) (aP (i:=2) sc_read_of.nd rfl (Or.inl rfl)) (@aH _ _ _ (cG (aY aQ1 (mv 2) (kM rfl G.s_SUBSTITUTES) (by rfl)) (@aH _ _ _ (@aO _ _ 1 _ _ _ _ sc_read_of.nd (by rfl) (by exact (Or.inl rfl)) (aU cD (mv 1) (bE bS (mv 1) (aU jY (bK aQV rfl G.b_int tX (aA (mv 2) aB)) aJ) (λ_ _=>rfl))) (by rfl) (by first | exact Or.inl rfl | exact Or.inr rfl))) (@aH _ _ _ (@aO _ _ 1 _ _ _ _ sc_read_of.nd (by rfl) (by exact (Or.inl rfl)) (aU cD (mv 1) (mv 2)) (by rfl) (by first | exact Or.inl rfl | exact Or.inr rfl))))))) (@aH _ _ _ (aS (mv 1)))))),?_⟩
 walk_at "go"
 refine ⟨a,zs,rfl,ha,hl,hz,λH1 s1=>?_⟩
 have ha1:=aI s1 ha
 walk_at "go"
 cases hh:cF zs with
 | false=>
   walk_at "go"
   exact ⟨by show 1<=sizeLine; decide,qe hh H1 s1⟩
 | true=>
   walk_at "go"
   have h7:=eQ hh
   refine cT (xs:=zs.map V.str) (λi σ H'=>∃ v,σ=[some (.ref a),some (.str (bH (rdC ((zs.map jL).take i)))),v]/\H'=H1)
     ⟨none,rfl,rfl⟩ (λi σ H' _ ⟨_,_,e⟩=>by rw [e]; exact ha1) ?_ ?_
   · rintro i x σ H' hx ⟨v,rfl,rfl⟩
     obtain ⟨z,hzi,rfl⟩:=lF hx
     obtain ⟨c,rfl,hci,hcc⟩:=iZ hh hzi
     have hi:i < (zs.map jL).length:=(Ad.mp hci).1
     have hll:(zs.map jL).length=zs.length:=Ab ..
     have hrl:(rdC ((zs.map jL).take i)).length=i:=jC (by omega)
     have hst:=mH hci
     generalize rdC ((zs.map jL).take i)=wd at hrl hst ⊢
     have hwl:(bH wd).length=i:=(eW wd).trans hrl
     walk_at "go"
     rw [if_neg Ao,show subIn (one c) (Str.ofString "1234")=decide (dF c) from lL c]
     refine gS (λhd=>?_) (λhd=>?_)
     · have hs:=Ba hd
       have hlt:c - 49 < i:=(hcc.resolve_left λl=>hJ l hs).2
       have h49:49<=c:=hs.1
       walk_at "go"
       refine vH (oQ hs) (by show 1<=640; decide) ?_
       walk_at "go"
       have e1:atI (bH wd).cps.toList ((c:Int) - 48 - 1)=some (wd.getD (c - 49) 0):=by
         rw [show ((c:Int) - 48 - 1)=((c - 49:Nat):Int) by omega]
         refine dX ?_
         rw [mU,Ac,Aa (by omega)]
         rfl
       have h2:(⟨#[wd.getD (c - 49) 0]⟩:Str).length=1:=rfl
       refine kC (by rw [hwl]; exact bU (by omega)) e1 ?_
       walk_at "go"
       refine ⟨some (.str (one c)),?_,rfl⟩
       rw [hst,show stp wd c=wd.getD (c - 49) 0 from if_pos hs,<-iL]
       rfl
     · have hs:=Bp (Br.mpr hd)
       have h2:(one c).length=1:=rfl
       walk_at "go"
       refine ⟨some (.str (one c)),?_,rfl⟩
       rw [hst,show stp wd c=c from if_neg hs,<-iL]
       rfl
   · rintro σ H' ⟨v,rfl,rfl⟩
     walk_at "go"
     have e:(zs.map jL).take (zs.map V.str).length=zs.map jL:=Bo (by rw [Ab,Ab]; exact Ag _)
     rw [e]
     exact q hh _ s1
abbrev Wt:=Nat × Nat
def dH (w:Wt):List Key:=[Sum.inl (w.1:Int),Sum.inl (w.2:Int)]
theorem mD {a b:Wt} (h:dH a=dH b):a=b:=by
 unfold dH at h
 injection h with h1 h2
 injection h2 with h2 _
 have e1:=Sum.inl.inj h1
 have e2:=Sum.inl.inj h2
 exact Prod.ext (by omega) (by omega)
def dG (m:List (Wt × Nat)) (w:Wt):Option Nat:=(m.find? λx=>decide (x.1=w)).map (·.2)
def eG (m:List (Wt × Nat)) (f:Nat):List Wt:=(m.filter λx=>decide (x.2=f)).map (·.1)
def ctm (m:List (Wt × Nat)) (f:Nat):Nat:=m.countP λx=>decide (x.2=f)
theorem fG {x:Wt × Nat} {m:List (Wt × Nat)} {w:Wt}:dG (x :: m) w=if x.1=w then some x.2 else dG m w:=by
 unfold dG
 rw [List.find?_cons]
 by_cases h:x.1=w
 · simp [h]
 · simp [h]
theorem wJ {m:List (Wt × Nat)} {w:Wt} {f:Nat} (h:dG m w=some f):(w,f)∈m:=by
 induction m with
 | nil=>cases h
 | cons x m ih=>
   rw [fG] at h
   by_cases e:x.1=w
   · rw [if_pos e] at h
     cases h
     rw [<-e]
     exact Al
   · rw [if_neg e] at h
     exact Am _ (ih h)
theorem lV {m:List (Wt × Nat)} (nd:(m.map (·.1)).Nodup) {w:Wt} {f:Nat} (h:(w,f)∈m):dG m w=some f:=by
 induction m with
 | nil=>cases h
 | cons x m ih=>
   rw [fG]
   rw [Ar,Bu] at nd
   rcases Az.mp h with e | e
   · rw [<-e,if_pos rfl]
   · rw [if_neg (λz=>nd.1 (by rw [z]; exact Bg.mpr ⟨_,e,rfl⟩)),ih nd.2 e]
theorem hget_none {m:List (Wt × Nat)} {w:Wt}:dG m w=none ↔ w ∉ m.map (·.1):=by
 induction m with
 | nil=>exact ⟨λ_ z=>(nomatch z),λ_=>rfl⟩
 | cons x m ih=>
   rw [fG,Ar,Az]
   by_cases e:x.1=w
   · rw [if_pos e]
     exact ⟨λz=>(nomatch z),λz=>absurd (Or.inl e.symm) z⟩
   · rw [if_neg e,ih]
     exact ⟨λz y=>y.elim (λq=>e q.symm) z,λz y=>z (Or.inr y)⟩
theorem by_mem {m:List (Wt × Nat)} {f:Nat} {w:Wt}:w∈eG m f ↔ (w,f)∈m:=by
 unfold eG
 rw [Bg]
 constructor
 · rintro ⟨x,hx,rfl⟩
   rw [Dp,Bl] at hx
   rw [<-hx.2]
   exact hx.1
 · intro h
   exact ⟨(w,f),Dp.mpr ⟨h,Au rfl⟩,rfl⟩
theorem aQH (m:List (Wt × Nat)) (f:Nat):(eG m f).length=ctm m f:=by
 unfold eG ctm
 rw [Ab,Ew]
structure Asking (ch:Wt->List Nat) (m:List (Wt × Nat)) (first:Wt) (A:List (Nat × Wt)):Prop where
 nd:(A.map (·.1)).Nodup
 ok:∀ (j:Nat) f w,A[j]?=some (f,w)->f∈ch w/\(w=first\/∃ (g:Nat) (i:Nat) (v:Wt),i < j/\A[i]?=some (g,v)/\dG m w=some g)
def bT (m:List (Wt × Nat)) (first:Wt) (A:List (Nat × Wt)):List Wt:=first :: (A.map (·.1)).flatMap (eG m)
theorem lA (m:List (Wt × Nat)) (first:Wt) (A:List (Nat × Wt)) (f:Nat) (w:Wt):bT m first (A ++ [(f,w)])=bT m first A ++ eG m f:=by
 unfold bT
 rw [Ak,Dz]
 simp
theorem reach_mem {m:List (Wt × Nat)} {first:Wt} {A:List (Nat × Wt)} {w:Wt}:w∈bT m first A ↔ w=first\/∃ f∈A.map (·.1),(w,f)∈m:=by
 unfold bT
 rw [Az,Fm]
 constructor
 · rintro (h | ⟨f,hf,h⟩)
   · exact .inl h
   · exact .inr ⟨f,hf,by_mem.mp h⟩
 · rintro (h | ⟨f,hf,h⟩)
   · exact .inl h
   · exact .inr ⟨f,hf,by_mem.mpr h⟩
theorem pY (m:List (Wt × Nat)):∀ {fs:List Nat},fs.Nodup->(fs.flatMap (eG m)).length=m.countP (λx=>decide (x.2∈fs))
 | [],_=>by simp
 | f :: fs,nd=>by
   rw [Fe,Aj,aQH,pY m (Bu.mp nd).2]
   have hf:=(Bu.mp nd).1
   unfold ctm
   clear nd
   induction m with
   | nil=>rfl
   | cons x m ih=>
     rw [Dm,Dm,Dm,<-ih]
     by_cases h1:x.2=f
     · rw [if_pos (Au h1),if_neg (by rw [Bl,h1]; exact hf),if_pos (Au (by rw [h1]; exact Al))]
       omega
     · rw [if_neg (by rw [Bl]; exact h1)]
       by_cases h2:x.2∈fs
       · rw [if_pos (Au h2),if_pos (Au (Am _ h2))]
         omega
       · rw [if_neg (by rw [Bl]; exact h2),if_neg (by rw [Bl]; exact λz=>(Az.mp z).elim h1 h2)]
         omega
theorem nK {m:List (Wt × Nat)} {first:Wt} {A:List (Nat × Wt)} (nd:(A.map (·.1)).Nodup):(bT m first A).length<=1 + m.length:=by
 unfold bT
 rw [Be,pY m nd]
 have:=List.countP_le_length (p:=λx:Wt × Nat=>decide (x.2∈A.map (·.1))) (l:=m)
 omega
theorem Asking.snoc {ch:Wt->List Nat} {m:List (Wt × Nat)} {first w:Wt} {A:List (Nat × Wt)} {f:Nat} (ndm:(m.map (·.1)).Nodup) (h:Asking ch m first A) (hf:f ∉ A.map (·.1)) (hc:f ∈ ch w) (hw:w ∈ bT m first A):Asking ch m first (A ++ [(f,w)]):=by
 refine ⟨?_,λj g v hj=>?_⟩
 · rw [Ak]
   exact List.nodup_append.mpr ⟨h.nd,by simp,λx hx y hy=>by rw [List.mem_singleton.mp hy]; intro z; have z2:x=f:=z; rw [z2] at hx; exact hf hx⟩
 · by_cases hlt:j < A.length
   · rw [Ap hlt] at hj
     obtain ⟨h1,h2⟩:=h.ok j g v hj
     refine ⟨h1,h2.imp id ?_⟩
     rintro ⟨g',i,v',hi,hA,hg⟩
     exact ⟨g',i,v',hi,by rw [Ap (by omega)]; exact hA,hg⟩
   · have hj2:j=A.length:=by
       have:=(Ad.mp hj).1
       rw [Aj] at this
       have:j < A.length + 1:=this
       omega
     subst hj2
     rw [Av (Ag _),Fn] at hj
     cases hj
     refine ⟨hc,?_⟩
     rcases reach_mem.mp hw with e | ⟨g',hg',hm⟩
     · exact .inl e
     · obtain ⟨x,hx,rfl⟩:=Bg.mp hg'
       obtain ⟨i,hi,ei⟩:=Cd.mp hx
       exact .inr ⟨x.1,i,x.2,hi,by rw [Ap hi,Aa hi,ei],lV ndm hm⟩
structure Asked (ch:Wt->List Nat) (m:List (Wt × Nat)) (first:Wt) (A:List (Nat × Wt)):Prop extends Asking ch m first A where
 all1:∀ f∈ch first,f∈A.map (·.1)
 all:∀ w g,(w,g)∈m->g∈A.map (·.1)->∀ f∈ch w,f∈A.map (·.1)
theorem Asking.done {ch:Wt->List Nat} {m:List (Wt × Nat)} {first:Wt} {A:List (Nat × Wt)} (h:Asking ch m first A) (hc:∀ w∈bT m first A,∀ f∈ch w,f∈A.map (·.1)):Asked ch m first A :=
 ⟨h,hc first (reach_mem.mpr (.inl rfl)),λw g hm hg=>hc w (reach_mem.mpr (.inr ⟨g,hg,hm⟩))⟩
def uC (m:List (Wt × Nat)) (w:Wt) (f:Nat):List (Wt × Nat):=if (dG m w).isSome=true then m.map λx=>if x.1=w then (x.1,f) else x else m ++ [(w,f)]
theorem bZR {m:List (Wt × Nat)} {w v:Wt} {f:Nat}:dG (m.map λx=>if x.1=w then (x.1,f) else x) v=(dG m v).map λg=>if v=w then f else g:=by
 induction m with
 | nil=>rfl
 | cons x m ih=>
   rw [Ar,fG,fG,ih]
   by_cases e:x.1=w
   · rw [if_pos e]
     by_cases e2:x.1=v
     · rw [if_pos e2,if_pos e2,Eg,if_pos (e2.symm.trans e)]
     · rw [if_neg e2,if_neg e2]
   · rw [if_neg e]
     by_cases e2:x.1=v
     · rw [if_pos e2,if_pos e2,Eg,if_neg (λz=>e (e2.trans z))]
     · rw [if_neg e2,if_neg e2]
theorem keys_map {m:List (Wt × Nat)} {w:Wt} {f:Nat}:(m.map λx=>if x.1=w then (x.1,f) else x).map (·.1)=m.map (·.1):=by
 rw [Dc]
 refine De λx _=>?_
 show (if x.1=w then (x.1,f) else x).1=x.1
 by_cases e:x.1=w
 · rw [if_pos e]
 · rw [if_neg e]
theorem cZ8 {m:List (Wt × Nat)} {w:Wt} {f g:Nat} (nd:(m.map (·.1)).Nodup) (h:dG m w=some g) (c:Nat) :
   ctm (m.map λx=>if x.1=w then (x.1,f) else x) c + (if c=g then 1 else 0)=ctm m c + (if c=f then 1 else 0):=by
 induction m with
 | nil=>cases h
 | cons x m ih=>
   rw [Ar,Bu] at nd
   rw [fG] at h
   unfold ctm at ih ⊢
   rw [Ar,Dm,Dm]
   by_cases e:x.1=w
   · rw [if_pos e] at h
     cases h
     have hm:(m.map λx=>if x.1=w then (x.1,f) else x)=m:=by
       refine (De λy hy=>?_).trans (List.map_id _)
       show (if y.1=w then (y.1,f) else y)=y
       rw [if_neg (λz=>nd.1 (by rw [e,<-z]; exact Bg.mpr ⟨y,hy,rfl⟩))]
     rw [if_pos e,hm]
     have e1:(decide ((x.1,f).2=c)=true)=(c=f):=by rw [Bl]; exact propext ⟨λz=>z.symm,λz=>z.symm⟩
     have e2:(decide (x.2=c)=true)=(c=x.2):=by rw [Bl]; exact propext ⟨λz=>z.symm,λz=>z.symm⟩
     simp only [e1,e2]
     omega
   · rw [if_neg e] at h
     rw [if_neg e]
     have r:=ih nd.2 h
     omega
structure Along (ch:Wt->List Nat) (m0:List (Wt × Nat)) (A:List (Nat × Wt)) (f0:Nat) (m:List (Wt × Nat)) (c j:Nat) (w:Wt):Prop where
 keys:m.map (·.1)=m0.map (·.1)
 ok:∀ v f,(v,f)∈m->f∈ch v
 ct:∀ f,ctm m f + (if f=c then 1 else 0)=ctm m0 f + (if f=f0 then 1 else 0)
 at_:A[j]?=some (c,w)
 same:∀ v g i u,dG m0 v=some g->A[i]?=some (g,u)->i < j->dG m v=some g
theorem aXS {A:List (Nat × Wt)} (nd:(A.map (·.1)).Nodup) {i j g:Nat} {u v:Wt} (hi:A[i]?=some (g,u)) (hj:A[j]?=some (g,v)):i=j:=by
 obtain ⟨h1,e1⟩:=Ad.mp hi
 obtain ⟨h2,e2⟩:=Ad.mp hj
 refine (Fi (h₀:=by rw [Ab]; exact h1) (h₁:=by rw [Ab]; exact h2) nd).mp ?_
 rw [List.getElem_map,List.getElem_map,e1,e2]
theorem Along.step {ch:Wt->List Nat} {m0 m:List (Wt × Nat)} {A:List (Nat × Wt)} {f0 c j g i:Nat} {first w v:Wt} (ha:Asking ch m0 first A) (nd0:(m0.map (·.1)).Nodup) (h:Along ch m0 A f0 m c j w) (hg:dG m0 w=some g) (hi:A[i]?=some (g,v)) (hij:i < j) :
   dG m w=some g/\Along ch m0 A f0 (m.map λx=>if x.1=w then (x.1,c) else x) g i v:=by
 have nd:(m.map (·.1)).Nodup:=by rw [h.keys]; exact nd0
 have hw:=h.same w g i v hg hi hij
 refine ⟨hw,keys_map.trans h.keys,λu f hu=>?_,λf=>?_,hi,λu g' i' u' h1 h2 h3=>?_⟩
 · obtain ⟨x,hx,e⟩:=Bg.mp hu
   by_cases ex:x.1=w
   · rw [if_pos ex] at e
     cases e
     rw [ex]
     exact (ha.ok j c w h.at_).1
   · rw [if_neg ex] at e
     exact h.ok u f (e ▸ hx)
 · have r1:=cZ8 (f:=c) nd hw f
   have r2:=h.ct f
   omega
 · rw [bZR,h.same u g' i' u' h1 h2 (by omega),Eg]
   by_cases e:u=w
   · subst e
     rw [hg] at h1
     cases h1
     exact absurd (aXS ha.nd hi h2) (by omega)
   · rw [if_neg e]
theorem Along.last {ch:Wt->List Nat} {m0 m:List (Wt × Nat)} {A:List (Nat × Wt)} {f0 c j:Nat} {first:Wt} (ha:Asking ch m0 first A) (hf:first ∉ m0.map (·.1)) (h:Along ch m0 A f0 m c j first) :
   dG m first=none/\(m ++ [(first,c)]).map (·.1)=m0.map (·.1) ++ [first]/\(∀ v f,(v,f)∈m ++ [(first,c)]->f∈ch v)/\∀ f,ctm (m ++ [(first,c)]) f=ctm m0 f + (if f=f0 then 1 else 0):=by
 refine ⟨hget_none.mpr (by rw [h.keys]; exact hf),by rw [Ak,h.keys]; rfl,λv f hv=>?_,λf=>?_⟩
 · rcases Bj.mp hv with e | e
   · exact h.ok v f e
   · cases As.mp e
     exact (ha.ok j c first h.at_).1
 · have r:=h.ct f
   unfold ctm at r ⊢
   rw [Fx]
   have e:List.countP (λx:Wt × Nat=>decide (x.2=f)) [(first,c)]=if f=c then 1 else 0:=by
     rw [List.countP_singleton]
     by_cases z:f=c
     · rw [if_pos z,if_pos (Au z.symm)]
     · rw [if_neg z,if_neg (by rw [Bl]; exact λy=>z y.symm)]
   rw [e]
   exact r
def jJ (m:List (Wt × Nat)) (first:Wt) (A:List (Nat × Wt)) (wl:List Wt):List Wt:=wl.filter λw=>decide (w=first) || (match dG m w with | some g=>decide (g∈A.map (·.1)) | none=>false)
def jK (m:List (Wt × Nat)) (first:Wt) (A:List (Nat × Wt)) (w:Wt):Bool:=decide (w=first) || (match dG m w with | some g=>decide (g∈A.map (·.1)) | none=>false)
theorem vQ {m:List (Wt × Nat)} {first w:Wt} {A:List (Nat × Wt)} (h:w=first):jK m first A w=true:=by
 unfold jK
 rw [Au h,Bool.true_or]
theorem pW {m:List (Wt × Nat)} {first w:Wt} {A:List (Nat × Wt)} (h:w≠first) (e:dG m w=none):jK m first A w=false:=by
 unfold jK
 rw [Aw h,e]
 rfl
theorem pR {m:List (Wt × Nat)} {first w:Wt} {A:List (Nat × Wt)} {g:Nat} (h:w≠first) (e:dG m w=some g):jK m first A w=decide (g∈A.map (·.1)):=by
 unfold jK
 rw [Aw h,e,Ft]
theorem pL {m:List (Wt × Nat)} {first:Wt} {A:List (Nat × Wt)} {ws:List Wt} {w:Wt}:jJ m first A (ws ++ [w])=jJ m first A ws ++ if jK m first A w=true then [w] else []:=by
 have e:∀ l,jJ m first A l=l.filter (jK m first A):=λl=>rfl
 rw [e,e,Eu,Ep]
 rfl
theorem lackW_mem {m:List (Wt × Nat)} {first w:Wt} {A:List (Nat × Wt)} {ws:List Wt}:w∈jJ m first A ws ↔ w∈ws/\jK m first A w=true:=by
 have e:∀ l,jJ m first A l=l.filter (jK m first A):=λl=>rfl
 rw [e,Dp]
theorem bXK {m:List (Wt × Nat)} {first:Wt} {A:List (Nat × Wt)} {l r:List Wt} (hk:m.map (·.1)=l) (nd:(l ++ first :: r).Nodup):(jJ m first A (l ++ first :: r)).length=1 + m.countP (λx=>decide (x.2∈A.map (·.1))):=by
 have hl:(m.map (·.1)).Nodup:=by rw [hk]; exact (Cu.mp nd).1
 have hfl:first ∉ l:=λz=>(Cu.mp nd).2.2 first z first Al rfl
 have hfr:first ∉ r:=(Bu.mp (Cu.mp nd).2.1).1
 have hrl:∀ w ∈ r,w ∉ l:=λw hw z=>(Cu.mp nd).2.2 w z w (Am _ hw) rfl
 unfold jJ
 rw [Eu,Aj,Ep,if_pos (by rw [Au rfl]; rfl),Be]
 have er:r.filter (λw=>decide (w=first) || (match dG m w with | some g=>decide (g∈A.map (·.1)) | none=>false))=[]:=by
   refine List.filter_eq_nil_iff.mpr λw hw=>?_
   have e:dG m w=none:=hget_none.mpr (by rw [hk]; exact hrl w hw)
   rw [Aw (show ¬ w=first from λz=>by rw [z] at hw; exact hfr hw),e,Ft]
   exact Ao
 have el:(l.filter (λw=>decide (w=first) || (match dG m w with | some g=>decide (g∈A.map (·.1)) | none=>false))).length=m.countP (λx=>decide (x.2∈A.map (·.1))):=by
   rw [<-hk,List.filter_map,Ab,<-Ew]
   refine List.countP_congr λx hx=>?_
   show (decide (x.1=first) || (match dG m x.1 with | some g=>decide (g∈A.map (·.1)) | none=>false))=true ↔ _
   rw [lV hl (w:=x.1) (f:=x.2) hx,Aw (λz=>hfl (by rw [<-z,<-hk]; exact Bg.mpr ⟨x,hx,rfl⟩)),Ft]
 rw [er,el,List.length_nil]
 omega
theorem cZ9 (m:List (Wt × Nat)):∀ {fs:List Nat},fs.Nodup->m.countP (λx=>decide (x.2∈fs))=(fs.map (ctm m)).sum:=fun {fs} nd=>by
 rw [<-pY m nd]
 induction fs with
 | nil=>rfl
 | cons f fs ih=>rw [Fe,Aj,aQH,Ar,Cq,ih (Bu.mp nd).2]
def lO (cws:List (List Nat)) (k:Nat):List Wt:=(List.range (cws.getD k []).length).map λj=>(k,1 + j)
def wlP (cws:List (List Nat)) (i:Nat):List Wt:=(List.range i).flatMap (lO cws)
def wl (cws:List (List Nat)):List Wt:=wlP cws cws.length
def wV (w:Wt):List V:=[.int (w.1:Int),.int (w.2:Int)]
theorem jX (cws:List (List Nat)) (i:Nat):wlP cws (i + 1)=wlP cws i ++ lO cws i:=by
 unfold wlP
 rw [Ce,Dz]
 simp
theorem qL (cws:List (List Nat)):∀ i,lJ cws i=(wlP cws i).map wV
 | 0=>rfl
 | i + 1=>by
   rw [jZ,jX,Ak,qL cws i]
   congr 1
   unfold zY lO
   rw [Dc]
   refine De λj _=>?_
   show [V.int ((i:Nat):Int),V.int (1 + (j:Int))]=[V.int ((i:Nat):Int),V.int ((1 + j:Nat):Int)]
   rw [show ((1 + j:Nat):Int)=1 + (j:Int) by omega]
theorem wlP_mem {cws:List (List Nat)} {w:Wt}:∀ {i:Nat},w∈wlP cws i ↔ w.1 < i/\1<=w.2/\w.2<=(cws.getD w.1 []).length:=fun {i}=>by
 unfold wlP lO
 rw [Fm]
 constructor
 · rintro ⟨k,hk,h⟩
   obtain ⟨j,hj,rfl⟩:=Bg.mp h
   have:=Cb.mp hk
   have:=Cb.mp hj
   exact ⟨by omega,by show 1<=1 + j; omega,by show 1 + j<=(cws.getD k []).length; omega⟩
 · rintro ⟨h1,h2,h3⟩
   refine ⟨w.1,Cb.mpr h1,Bg.mpr ⟨w.2 - 1,Cb.mpr (by omega),?_⟩⟩
   exact Prod.ext rfl (by show 1 + (w.2 - 1)=w.2; omega)
theorem mZ (cws:List (List Nat)):∀ i,(wlP cws i).Nodup
 | 0=>List.nodup_nil
 | i + 1=>by
   rw [jX]
   refine Cu.mpr ⟨mZ cws i,?_,λa ha b hb e=>?_⟩
   · unfold lO
     exact List.Pairwise.map _ (λa b h=>λz=>h (by have:=Dq Prod.snd z; have e:1 + a=1 + b:=this; omega)) List.nodup_range
   · subst e
     have h1:=(wlP_mem.mp ha).1
     unfold lO at hb
     obtain ⟨j,_,rfl⟩:=Bg.mp hb
     exact absurd h1 (Dn _)
theorem aQ3 {cws:List (List Nat)} (h7:∀ c∈cws,c.length<=7) (i:Nat):(wlP cws i).length<=7 * i:=by
 have:=kZ h7 i
 rw [qL,Ab] at this
 exact this
def chW (cws:List (List Nat)) (w:Wt):List Nat:=chs (cws.getD w.1 []) (w.2 - 1)
def dU (ws:List Wt) (ds:List Addr):List (List Key × V):=List.zipWith (λw d=>(dH w,V.ref d)) ws ds
def dJV (H:Hp) (r:Addr) (cws:List (List Nat)) (i:Nat):Prop:=∃ ds:List Addr,ds.length=i/\H r=some (.dT (dU ((wl cws).take i) ds))/\∀ (j:Nat) w d,j < i->(wl cws)[j]?=some w->ds[j]?=some d->H d=some (.lst (((chW cws w).map one).map V.str))
theorem aX6 {ws:List Wt} {ds:List Addr} (nd:ws.Nodup) (hl:ds.length=ws.length) {j:Nat} {w:Wt} {d:Addr} (hw:ws[j]?=some w) (hd:ds[j]?=some d):bX (dU ws ds) (dH w)=some (.ref d):=by
 induction ws generalizing ds j with
 | nil=>cases hw
 | cons x ws ih=>
   cases ds with
   | nil=>cases hl
   | cons e ds=>
     show bX ((dH x,V.ref e) :: dU ws ds) _=_
     cases j with
     | zero=>cases hw; cases hd; exact cB rfl
     | succ j=>
       have hm:=Ai (show ws[j]?=some w from hw)
       rw [bY (λz=>(Bu.mp nd).1 (by rw [mD z]; exact hm))]
       exact ih (List.nodup_cons.mp nd).2 (by simpa using hl) hw hd
theorem yE {ws:List Wt} {ds:List Addr} {w:Wt} (h:w ∉ ws):bX (dU ws ds) (dH w)=none:=by
 induction ws generalizing ds with
 | nil=>rfl
 | cons x ws ih=>
   cases ds with
   | nil=>rfl
   | cons e ds=>
     show bX ((dH x,V.ref e) :: dU ws ds) _=_
     rw [bY (λz=>h (by rw [mD z]; exact Al))]
     exact ih λz=>h (Am _ z)
theorem sQ {ws:List Wt} {ds:List Addr} (hl:ds.length=ws.length):(dU ws ds).length=ws.length:=by
 unfold dU
 rw [List.length_zipWith]
 omega
theorem zR {ws:List Wt} {ds:List Addr} {w:Wt} {d:Addr} (hl:ds.length=ws.length):dU (ws ++ [w]) (ds ++ [d])=dU ws ds ++ [(dH w,V.ref d)]:=by
 unfold dU
 rw [List.zipWith_append (by omega)]
 rfl
def kR:Sp:=λvs H Q _=>∃ (a:Addr) (cws:List (List Nat)),vs=[.ref a]/\rdL H a=some ((cws.map bH).map V.str)/\cws.length<=8/\(∀ c∈cws,c.length<=7)/\
 ∀ (r:Addr) (H':Hp),H r=none->Same H H'->dJV H' r cws (wl cws).length->Q (.ref r) H'
theorem sc_choices_of:FnScope ["words", "choices", "want"] ["words"] (aG dI):=⟨rfl,rfl,rfl,by decide +kernel,rfl,by decide +kernel,by decide +kernel⟩
theorem qX {Zw Zz Zx Zy:Addr} {f:Addr} {fd:FuncData} (F:Fun K "choices_of" "choices_of" dI f fd) (G:Gs K mg Zw Zz Zx Zy) (c_wants_of:Cal P w K mg base 1 "wants_of" ["words"] nT) (c_choices_at:Cal P w K mg base 1 "choices_at" ["word", "place"] kQ):FnOk P w K mg base CX0 2 f fd ["words"] kR:=by
 refine F.ok sc_choices_of (λvs H Q E h=>?_) (λcdv A outer s H vs Q E hr h=>?_)
 · obtain ⟨a,cws,rfl,_⟩:=h; rfl
 obtain ⟨a,cws,rfl,ha,h8,h7,q⟩:=h
 refine ⟨_,(@aD _ _ _ _ _ (@aO _ _ 1 _ _ _ _ sc_choices_of.nd (by rfl) (by exact (Or.inl rfl)) wK (by rfl) (by first | exact Or.inl rfl | exact Or.inr rfl)) (@aD _ _ _ _ _ (bQ Ay rfl (bW (aT c_wants_of hr (by decide) rfl (aA (mv 0) aB))) (aP (i:=2) sc_choices_of.nd rfl (Or.inl rfl)) (@aH _ _ _ (dM (Room.u1 hr) (mv 1) (mv 2) (aT c_choices_at hr (by decide) rfl (aA (bE bS (mv 0) (bE bS (mv 2) aJ (λ_ _=>rfl)) (λ_ _=>rfl)) (aA (bE bS (mv 2) aJ (λ_ _=>rfl)) aB))) rfl))) (@aH _ _ _ (aS (mv 1))))),?_⟩
 walk_at "go"
 intro pc hpc
 walk_at "go"
 refine ⟨a,cws,rfl,aI (aF hpc _) ha,h8,h7,λr ps H1 hr s1 e1 tp=>?_⟩
 have s01:=(aF hpc (.dT [])).trans s1
 have ec1:=s1 _ _ (aE (H:=H) (a:=pc) (o:=.dT []))
 have hlw:(wl cws).length<=56:=Bf (aQ3 h7 _) (by omega)
 rw [qL] at tp
 have hpl:ps.length=(wl cws).length:=by rw [tp.1,Ab]; rfl
 have hpm:(ps.map V.ref).length=(wl cws).length:=by rw [Ab,hpl]
 have tat:∀ (j:Nat) p w,ps[j]?=some p->(wl cws)[j]?=some w->H1 p=some (.tup (wV w)):=λj p w hp hw=>(tp.2 j p _ hp (by rw [Ah]; exact Dq (Option.map wV) hw)).2
 have r1:=aM e1
 have hcr:pc≠r:=λz=>by rw [<-z,aE] at hr; cases hr
 walk_at "go"
 refine cT (xs:=ps.map V.ref) (λi σ H'=>∃ (v:Option V),σ=[some (.ref a),some (.ref pc),v]/\Same H H'/\(∀ b u,b≠pc->H1 b=some u->H' b=some u)/\dJV H' pc cws i)
   ⟨_,rfl,s01,λb u _ h=>h,[],rfl,ec1,λj w d hj=>absurd hj (Ey _)⟩ (λi σ H' _ ⟨_,_,_,k,_⟩=>aM (k _ _ (Ne.symm hcr) e1)) ?_ ?_
 · rintro i x σ H2 hx ⟨v,rfl,s2,k2,ds,dl,ed,hds⟩
   rw [Ah] at hx
   cases e:ps[i]? with
   | none=>rw [e] at hx; cases hx
   | some p=>
     rw [e] at hx
     cases hx
     have hi:i < (wl cws).length:=by rw [<-hpl]; exact (Ad.mp e).1
     have ew:(wl cws)[i]?=some (wl cws)[i]:=Aa hi
     have hm:=wlP_mem.mp (Ca hi)
     have htp1:=tat i p _ e ew
     have hpne:p≠pc:=λz=>by rw [z,ec1] at htp1; cases htp1
     have ht:=k2 _ _ hpne htp1
     have hnew:(wl cws)[i] ∉ (wl cws).take i:=λz=>by
       obtain ⟨j,hj,ej⟩:=Cd.mp z
       rw [Bz] at hj
       rw [List.getElem_take] at ej
       have:=(Fi (mZ cws cws.length)).mp ej
       omega
     have htk:(wl cws).take (i + 1)=(wl cws).take i ++ [(wl cws)[i]]:=by rw [Bc,ew]; rfl
     generalize hw:(wl cws)[i]=w at hm ht hnew htk ew
     obtain ⟨h1,h2,h3⟩:=hm
     have ecw:cws[w.1]?=some (cws.getD w.1 []):=by rw [Ac,Aa h1]; rfl
     have h7w:=h7 _ (Ai ecw)
     have ha2:=aI s2 ha
     walk_at "go"
     refine fQ ht (v:=.int (w.1:Int)) rfl ?_
     walk_at "go"
     refine cJ ha2 (v:=.str (bH (cws.getD w.1 []))) (dX (by rw [Ah,Ah,ecw]; rfl)) ?_
     walk_at "go"
     refine fQ ht (v:=.int (w.2:Int)) rfl ?_
     walk_at "go"
     refine ⟨cws.getD w.1 [],w.2 - 1,_,rfl,by omega,by omega,h7w,λd H3 hd s3 e3=>?_⟩
     walk_at "go"
     have dl2:ds.length=((wl cws).take i).length:=by rw [dl,Bz]; omega
     refine uE (k:=dH w) (s3 _ _ ed) (s3 _ _ ht) (bC (by rw [sQ dl2,Bz]; omega)) ?_
     have hdp:d≠pc:=λz=>by rw [z,ed] at hd; cases hd
     refine ⟨_,rfl,aW hpc (s2.trans s3),λb u hb hu=>by rw [aK hb]; exact s3 _ _ (k2 b u hb hu),ds ++ [d],by rw [Aj,dl]; rfl,?_,λj v' d' hj hv hd'=>?_⟩
     · rw [aE,jT _ (yE hnew),htk,zR dl2]
     · by_cases hjl:j < i
       · rw [Ap (by omega)] at hd'
         have hold:=hds j v' d' hjl hv hd'
         rw [aK (λz=>by rw [z,ed] at hold; cases hold)]
         exact s3 _ _ hold
       · have hj2:j=i:=by omega
         subst hj2
         rw [ew] at hv
         cases hv
         rw [Av (by omega),dl,Fn] at hd'
         cases hd'
         rw [aK hdp]
         exact e3
 · rintro σ H2 ⟨v,rfl,s2,k2,hch⟩
   rw [hpm] at hch
   walk_at "go"
   exact q pc H2 hpc s2 hch
def zH (w:Wt) (A:List (Nat × Wt)) (f:Nat):List (Nat × Wt):=if f∈A.map (·.1) then A else A ++ [(f,w)]
def dS (ch:Wt->List Nat) (m:List (Wt × Nat)) (first:Wt):Nat->List (Nat × Wt)
 | 0=>[]
 | t + 1=>match (bT m first (dS ch m first t))[t]? with
   | some w=>(ch w).foldl (zH w) (dS ch m first t)
   | none=>dS ch m first t
theorem oR {ch:Wt->List Nat} {m:List (Wt × Nat)} {first:Wt} {t:Nat} (h:(bT m first (dS ch m first t)).length<=t):∀ k,dS ch m first (t + k)=dS ch m first t
 | 0=>rfl
 | k + 1=>by
   have ih:=oR h k
   show (match (bT m first (dS ch m first (t + k)))[t + k]? with
     | some w=>(ch w).foldl (zH w) (dS ch m first (t + k))
     | none=>dS ch m first (t + k))=_
   rw [ih,List.getElem?_eq_none (by omega)]
def oB (ch:Wt->List Nat) (m:List (Wt × Nat)) (first:Wt):List (Nat × Wt):=dS ch m first 57
theorem cQ2 {ch:Wt->List Nat} {m:List (Wt × Nat)} {first:Wt} {t:Nat} (h:(bT m first (dS ch m first t)).length<=t) (ht:t<=57):dS ch m first t=oB ch m first:=by
 unfold oB
 have e:57=t + (57 - t):=by omega
 rw [e,oR h (57 - t)]
inductive AlongR (A:List (Nat × Wt)):Nat->List (Wt × Nat)->List (Wt × Nat)->Prop
 | stop {c j:Nat} {w:Wt} {m:List (Wt × Nat)}:A[j]?=some (c,w)->dG m w=none->AlongR A c m (uC m w c)
 | step {c j g:Nat} {w:Wt} {m m':List (Wt × Nat)}:A[j]?=some (c,w)->dG m w=some g->AlongR A g (uC m w c) m'->AlongR A c m m'
theorem uH {A:List (Nat × Wt)} (nd:(A.map (·.1)).Nodup) {c i j:Nat} {u v:Wt} (hi:A[i]?=some (c,u)) (hj:A[j]?=some (c,v)):u=v:=by
 have e:=aXS nd hi hj
 subst e
 rw [hi] at hj
 cases hj
 rfl
theorem AlongR.one {A:List (Nat × Wt)} (nd:(A.map (·.1)).Nodup) {c:Nat} {m m1:List (Wt × Nat)} (h:AlongR A c m m1):∀ {m2},AlongR A c m m2->m1=m2:=by
 induction h with
 | stop ha hg=>
   intro m2 h2
   cases h2 with
   | stop hb hg2=>rw [uH nd ha hb]
   | step hb hg2 _=>rw [uH nd hb ha,hg] at hg2; cases hg2
 | step ha hg _ ih=>
   intro m2 h2
   cases h2 with
   | stop hb hg2=>rw [uH nd hb ha,hg] at hg2; cases hg2
   | step hb hg2 r=>
     obtain rfl:=uH nd ha hb
     rw [hg] at hg2
     cases hg2
     exact ih r
def rT (n:Nat->Int) (m:List (Wt × Nat)) (A:List (Nat × Wt)):List Nat:=(A.map (·.1)).filter λc=>decide (0 < n c - (ctm m c:Int))
inductive StateR (cws:List (List Nat)) (n:Nat->Int):Nat->List (Wt × Nat)->Prop
 | zero:StateR cws n 0 []
 | succ {i c:Nat} {m m':List (Wt × Nat)} {w:Wt}:StateR cws n i m->(wl cws)[i]?=some w->((oB (chW cws) m w).map (·.1)).Nodup->(rT n m (oB (chW cws) m w)).head?=some c->AlongR (oB (chW cws) m w) c m m'->StateR cws n (i + 1) m'
theorem StateR.one {cws:List (List Nat)} {n:Nat->Int} {i:Nat} {m:List (Wt × Nat)} (h:StateR cws n i m):∀ {m'},StateR cws n i m'->m=m':=by
 induction h with
 | zero=>intro m' h2; cases h2; rfl
 | succ _ hw nd hf ha ih=>
   intro m2 h2
   cases h2 with
   | succ s2 hw2 _ hf2 ha2=>
     obtain rfl:=ih s2
     rw [hw] at hw2
     cases hw2
     rw [hf] at hf2
     cases hf2
     exact ha.one nd ha2
theorem StateR.down {cws:List (List Nat)} {n:Nat->Int} {i j:Nat} {m:List (Wt × Nat)} (h:StateR cws n j m):i < j->∃ m1 w c,StateR cws n i m1/\(wl cws)[i]?=some w/\(rT n m1 (oB (chW cws) m1 w)).head?=some c:=by
 induction h with
 | zero=>exact λz=>absurd z (Ey _)
 | @succ k c m m' w s hw nd hf ha ih=>
   intro hi
   by_cases e:i=k
   · subst e
     exact ⟨m,w,c,s,hw,hf⟩
   · exact ih (by omega)
def LackIs (cws:List (List Nat)) (n:Nat->Int) (W:List Wt) (F:List Nat):Prop:=∃ (i:Nat) (m:List (Wt × Nat)) (w:Wt),StateR cws n i m/\(wl cws)[i]?=some w/\rT n m (oB (chW cws) m w)=[]/\W=jJ m w (oB (chW cws) m w) (wl cws)/\F=flagsT.cps.toList.filter λc=>decide (c∈(oB (chW cws) m w).map (·.1))
theorem bJ1 {l:List Nat} {c:Nat} (h:l=[]) (h':l.head?=some c):False:=by
 rw [h] at h'
 cases h'
theorem LackIs.one {cws:List (List Nat)} {n:Nat->Int} {W W':List Wt} {F F':List Nat} (h:LackIs cws n W F) (h':LackIs cws n W' F'):W=W'/\F=F':=by
 obtain ⟨i,m,w,s,hw,hf,hW,hF⟩:=h
 obtain ⟨j,m2,w2,s2,hw2,hf2,hW2,hF2⟩:=h'
 have key:∀ {i j:Nat} {m m2:List (Wt × Nat)} {w:Wt},StateR cws n i m->(wl cws)[i]?=some w->rT n m (oB (chW cws) m w)=[]->StateR cws n j m2->¬ i < j:=fun {i j m m2 w} s hw hf s2 l=>by
   obtain ⟨m1,w1,c,s1,hw1,hf1⟩:=s2.down l
   have em:m=m1:=s.one s1
   have ew:w=w1:=Bi (hw.symm.trans hw1)
   rw [<-em,<-ew] at hf1
   exact bJ1 hf hf1
 have e:i=j:=Nat.le_antisymm (Nat.not_lt.mp (key s2 hw2 hf2 s)) (Nat.not_lt.mp (key s hw hf s2))
 rw [<-e] at s2 hw2
 have em:m=m2:=s.one s2
 have ew:w=w2:=Bi (hw.symm.trans hw2)
 rw [hW,hW2,hF,hF2,em,ew]
 exact ⟨rfl,rfl⟩
def HungIs (cws:List (List Nat)) (n:Nat->Int) (fs:List Nat):Prop:=∃ m,StateR cws n (wl cws).length m/\fs=m.map (·.2)
theorem HungIs.one {cws:List (List Nat)} {n:Nat->Int} {fs fs':List Nat} (h:HungIs cws n fs) (h':HungIs cws n fs'):fs=fs':=by
 obtain ⟨m,s,rfl⟩:=h
 obtain ⟨m',s',rfl⟩:=h'
 rw [s.one s']
def gU (m:List (Wt × Nat)):List (List Key × V):=m.map λx=>(dH x.1,V.str (one x.2))
theorem kD (m:List (Wt × Nat)) (w:Wt):bX (gU m) (dH w)=(dG m w).map λf=>V.str (one f):=by
 induction m with
 | nil=>rfl
 | cons x m ih=>
   show bX ((dH x.1,V.str (one x.2)) :: gU m) _=_
   rw [fG]
   by_cases e:x.1=w
   · rw [if_pos e,cB (by show dH x.1=dH w; rw [e])]
     rfl
   · rw [if_neg e,bY (λz=>e (mD z)),ih]
def fU (A:List (Nat × Wt)) (bs:List Addr):List (Key × V):=List.zipWith (λx b=>(Sum.inr (one x.1),V.ref b)) A bs
theorem kH {A:List (Nat × Wt)} {bs:List Addr} (hl:bs.length=A.length) (f:Nat):(bX (fU A bs) (Sum.inr (one f))).isSome=decide (f∈A.map (·.1)):=by
 induction A generalizing bs with
 | nil=>rfl
 | cons x A ih=>
   cases bs with
   | nil=>cases hl
   | cons b bs=>
     show (bX ((Sum.inr (one x.1),V.ref b) :: fU A bs) _).isSome=_
     by_cases e:x.1=f
     · rw [cB (by show (Sum.inr (one x.1):Key)=Sum.inr (one f); rw [e]),Au (by rw [<-e]; exact Al)]
       rfl
     · rw [bY (λz=>e (key_one.mp z)),ih (by simpa using hl)]
       exact Cp.mpr ⟨λz=>Am _ z,λz=>(Az.mp z).resolve_left λy=>e y.symm⟩
theorem aZC {A:List (Nat × Wt)} {bs:List Addr} (hl:bs.length=A.length) {f:Nat} (h:f ∉ A.map (·.1)):bX (fU A bs) (Sum.inr (one f))=none:=by
 have r:=kH hl f
 rw [Aw h] at r
 cases e:bX (fU A bs) (Sum.inr (one f)) with
 | none=>rfl
 | some v=>rw [e] at r; cases r
theorem aZW {A:List (Nat × Wt)} {bs:List Addr} {x:Nat × Wt} {b:Addr} (hl:bs.length=A.length):fU (A ++ [x]) (bs ++ [b])=fU A bs ++ [(Sum.inr (one x.1),V.ref b)]:=by
 unfold fU
 rw [List.zipWith_append (by omega)]
 rfl
theorem pN {A:List (Nat × Wt)} {bs:List Addr} (hl:bs.length=A.length):(fU A bs).length=A.length:=by
 unfold fU
 rw [List.length_zipWith]
 omega
theorem bQ2 {A:List (Nat × Wt)} {bs:List Addr} (nd:(A.map (·.1)).Nodup) (hl:bs.length=A.length) {j f:Nat} {w:Wt} {b:Addr} (hA:A[j]?=some (f,w)) (hb:bs[j]?=some b):bX (fU A bs) (Sum.inr (one f))=some (.ref b):=by
 induction A generalizing bs j with
 | nil=>cases hA
 | cons x A ih=>
   cases bs with
   | nil=>cases hl
   | cons e bs=>
     show bX ((Sum.inr (one x.1),V.ref e) :: fU A bs) _=_
     rw [Ar,Bu] at nd
     cases j with
     | zero=>cases hA; cases hb; exact cB rfl
     | succ j=>
       have hm:f∈A.map (·.1):=Bg.mpr ⟨(f,w),Ai (show A[j]?=some (f,w) from hA),rfl⟩
       rw [bY (λz=>nd.1 (by rw [key_one.mp z]; exact hm))]
       exact ih nd.2 (by simpa using hl) hA hb
def WtsAt (H:Hp) (rs:List Addr) (ws:List Wt):Prop:=rs.length=ws.length/\∀ (j:Nat) r w,rs[j]?=some r->ws[j]?=some w->H r=some (.tup (wV w))
theorem WtsAt.keep {H H':Hp} {rs:List Addr} {ws:List Wt} (h:WtsAt H rs ws) (k:∀ r w,H r=some (.tup (wV w))->H' r=some (.tup (wV w))):WtsAt H' rs ws:=⟨h.1,λj r w hr hw=>k _ _ (h.2 j r w hr hw)⟩
theorem WtsAt.app {H:Hp} {rs qs:List Addr} {ws vs:List Wt} (h:WtsAt H rs ws) (g:WtsAt H qs vs):WtsAt H (rs ++ qs) (ws ++ vs):=by
 refine ⟨by rw [Aj,Aj,h.1,g.1],λj r w hr hw=>?_⟩
 by_cases hj:j < rs.length
 · rw [Ap hj] at hr
   rw [Ap (by rw [<-h.1]; exact hj)] at hw
   exact h.2 j r w hr hw
 · rw [Av (by omega)] at hr
   rw [Av (by rw [<-h.1]; omega),<-h.1] at hw
   exact g.2 _ r w hr hw
theorem WtsAt.one {H:Hp} {r:Addr} {w:Wt} (h:H r=some (.tup (wV w))):WtsAt H [r] [w]:=⟨rfl,λj q v hq hv=>by
 cases j with
 | zero=>cases hq; cases hv; exact h
 | succ j=>cases hq⟩
def ChRd (H:Hp) (r:Addr) (cws:List (List Nat)):Prop:=∃ ds:List Addr,ds.length=(wl cws).length/\Rd H r (.dT (dU (wl cws) ds))/\∀ (j:Nat) w d,(wl cws)[j]?=some w->ds[j]?=some d->H d=some (.lst (((chW cws w).map one).map V.str))
theorem ChRd.keep {H H':Hp} {r:Addr} {cws:List (List Nat)} (h:ChRd H r cws) (s:Same H H'):ChRd H' r cws:=by
 obtain ⟨ds,h1,h2,h3⟩:=h
 exact ⟨ds,h1,h2.elim (λe=>.inl (s _ _ e)) λ⟨o,e⟩=>.inr ⟨o,s _ _ e⟩,λj w d hw hd=>s _ _ (h3 j w d hw hd)⟩
structure HungOk (cws:List (List Nat)) (m:List (Wt × Nat)):Prop where
 nd:(m.map (·.1)).Nodup
 sub:∀ x∈m,x.1∈wl cws
theorem bQR {cws:List (List Nat)} (hL:∀ c∈cws,c.length<=7/\∀ d∈c,bL d) {w:Wt} (hw:w∈wl cws) {f:Nat} (hf:f∈chW cws w):fP f:=by
 obtain ⟨h1,h2,h3⟩:=wlP_mem.mp hw
 have ecw:cws[w.1]?=some (cws.getD w.1 []):=by rw [Ac,Aa h1]; rfl
 rcases ch_iff.mp hf with e | ⟨n,_,h4,_,e⟩
 · rw [e]
   exact .inl (wD (hL _ (Ai ecw)).2 (by omega))
 · rw [e]
   exact .inr ⟨by omega,by omega⟩
theorem bZ2 {cws:List (List Nat)} {m:List (Wt × Nat)} {first:Wt} {A:List (Nat × Wt)} (hm:HungOk cws m) (hfw:first∈wl cws) (h:Asking (chW cws) m first A) {j f:Nat} {w:Wt} (hj:A[j]?=some (f,w)):w∈wl cws:=by
 rcases (h.ok j f w hj).2 with e | ⟨g,i,v,_,_,hg⟩
 · rw [e]; exact hfw
 · exact hm.sub _ (wJ hg)
theorem aXF {cws:List (List Nat)} {m:List (Wt × Nat)} {first:Wt} {A:List (Nat × Wt)} (hm:HungOk cws m) (hfw:first∈wl cws) (hL:∀ c∈cws,c.length<=7/\∀ d∈c,bL d) (h:Asking (chW cws) m first A):A.length<=27:=by
 have r:=pV (m:=flagsT.cps.toList) h.nd λf hf=>by
   obtain ⟨x,hx,rfl⟩:=Bg.mp hf
   obtain ⟨j,hj,e⟩:=Cd.mp hx
   have hj2:A[j]?=some (x.1,x.2):=by rw [Aa hj,e]
   exact flags_mem.mpr (bQR hL (bZ2 hm hfw h hj2) (h.ok j _ _ hj2).1)
 rw [Ab] at r
 exact r
def kU:Sp:=λvs H Q _=>∃ (bf ac ah:Addr) (cws:List (List Nat)) (m:List (Wt × Nat)) (first:Wt),vs=[.ref bf,.ref ac,.ref ah]/\H bf=some (.tup (wV first))/\first∈wl cws/\ChRd H ac cws/\H ah=some (.dT (gU m))/\HungOk cws m/\m.length<=56/\cws.length<=8/\(∀ c∈cws,c.length<=7/\∀ d∈c,bL d)/\
 ∀ (r:Addr) (A:List (Nat × Wt)) (bs:List Addr) (H':Hp),H r=none->Same H H'->H' r=some (.dK (fU A bs))->WtsAt H' bs (A.map (·.2))->Asked (chW cws) m first A->A=oB (chW cws) m first->Q (.ref r) H'
theorem sc_asked_from:FnScope ["first", "choices", "hung", "asked", "reached", "at", "asking", "flag"] ["first", "choices", "hung"] (aG cS):=⟨rfl,rfl,rfl,by decide +kernel,rfl,by decide +kernel,by decide +kernel⟩
theorem qT {Zw Zz Zx Zy:Addr} {f:Addr} {fd:FuncData} (F:Fun K "asked_from" "asked_from" cS f fd) (G:Gs K mg Zw Zz Zx Zy)  : FnOk P w K mg base CX0 1 f fd ["first", "choices", "hung"] kU:=by
 refine F.ok sc_asked_from (λvs H Q E h=>?_) (λcdv A outer s H vs Q E hr h=>?_)
 · obtain ⟨bf,ac,ah,cws,m,first,rfl,_⟩:=h; rfl
 obtain ⟨bf,ac,ah,cws,m,first,rfl,hbf,hfw,hch,hah,hm,hml,h8,hL,q⟩:=h
 refine ⟨_,(@aD _ _ _ _ _ (@aO _ _ 3 _ _ _ _ sc_asked_from.nd (by rfl) (by exact (Or.inl rfl)) lR (by rfl) (by first | exact Or.inl rfl | exact Or.inr rfl)) (@aD _ _ _ _ _ (@aO _ _ 4 _ _ _ _ sc_asked_from.nd (by rfl) (by exact (Or.inl rfl)) (bP (aA (mv 0) aB)) (by rfl) (by first | exact Or.inl rfl | exact Or.inr rfl)) (@aD _ _ _ _ _ (@aO _ _ 5 _ _ _ _ sc_asked_from.nd (by rfl) (by exact (Or.inl rfl)) aJ (by rfl) (by first | exact Or.inl rfl | exact Or.inr rfl)) (@aD _ _ _ _ _ (wZ Ay (aY bXF (mv 5) (aZ fB rfl G.b_len cP (aA (mv 4) aB)) (bF _)) (@aD _ _ _ _ _ (@aO _ _ 6 _ _ _ _ sc_asked_from.nd (by rfl) (by exact (Or.inl rfl)) (bE bS (mv 4) (mv 5) (λ_ _=>rfl)) (by rfl) (by first | exact Or.inl rfl | exact Or.inr rfl)) (@aD _ _ _ _ _ (bQ Ay rfl (bW (fM (Room.u1 hr) (mv 1) (mv 6) (λ_ _=>rfl))) (aP (i:=7) sc_asked_from.nd rfl (Or.inr rfl)) (@aH _ _ _ (cG (aY (bXJ (Room.u1 hr)) (mv 7) (mv 3) (by rfl)) (@aD _ _ _ _ _ (dM (Room.u1 hr) (mv 3) (mv 7) (mv 6) rfl) (@aH _ _ _ (cE (cX Bh Dt Du wB (mv 4) (aA (bX1 (dD rfl (mF (mv 2)) (iE (N:=["want", "flag", "hung"]) ["first", "choices", "hung", "asked", "reached", "at", "asking", "flag"] (aG cS) [none,some 7,some 2] rfl rfl rfl (λx h=>cH h) (by decide +kernel)) (by decide +kernel) rfl (by decide +kernel) (λC s₀ H₀ ex=>(aP (i:=0) (show List.Nodup (["want", "flag", "hung"]:List Str) by decide +kernel) rfl (Or.inl rfl))) (λC s₀ H₀ ex=>(jD (aY vX (fM (Room.u1 hr) (mv 2) (mv 0) (λ_ _=>rfl)) (mv 1) (bF _)))) (λC s₀ H₀ ex=>(mv 0)))) aB))))) bI))) (@aH _ _ _ (@aO _ _ 5 _ _ _ _ sc_asked_from.nd (by rfl) (by exact (Or.inl rfl)) (aU cD (mv 5) aJ) (by rfl) (by first | exact Or.inl rfl | exact Or.inr rfl)))))) (@aH _ _ _ (aS (mv 3))))))),?_⟩
 walk_at "go"
 intro pa hpa
 walk_at "go"
 refine ⟨by show 1<=sizeLine; decide,λpr hpr=>?_⟩
 have s1:=(aF hpa (.dK [])).trans (aF hpr (.lst [.ref bf]))
 have npr:pa≠pr:=λz=>by rw [<-z,aE] at hpr; cases hpr
 have ea1:(upd (upd H pa (.dK [])) pr (.lst [.ref bf])) pa=some (.dK []):=by rw [aK npr,aE]
 have er1:(upd (upd H pa (.dK [])) pr (.lst [.ref bf])) pr=_:=aE
 have hpr0:H pr=none:=none_of (aF hpa _) hpr
 generalize upd (upd H pa (.dK [])) pr (.lst [.ref bf])=H1 at s1 ea1 er1 ⊢
 walk_at "go"
 refine ⟨λn σ H'=>∃ (A:List (Nat × Wt)) (bs rs:List Addr) (t:Nat) (v1 v2:Option V),σ=[some (.ref bf),some (.ref ac),some (.ref ah),some (.ref pa),some (.ref pr),some (.int (t:Int)),v1,v2]/\Same H H'/\H' pa=some (.dK (fU A bs))/\WtsAt H' bs (A.map (·.2))/\H' pr=some (.lst (rs.map V.ref))/\WtsAt H' rs (bT m first A)/\
     Asking (chW cws) m first A/\t<=(bT m first A).length/\(∀ (j:Nat) w,j < t->(bT m first A)[j]?=some w->∀ f∈chW cws w,f∈A.map (·.1))/\A=dS (chW cws) m first t/\n=1 + m.length - t,⟨_,[],[],[bf],0,_,_,rfl,s1,ea1,⟨rfl,λj r w hr=>(nomatch hr)⟩,er1,.one (s1 _ _ hbf),⟨List.nodup_nil,λj f w hj=>(nomatch hj)⟩,Ck _,λj w hj=>absurd hj (Ey _),rfl,rfl⟩,?_⟩
 rintro n σ H2 ⟨A,bs,rs,t,v1,v2,rfl,s2,ea2,wb2,er2,wr2,hask,htl,hcl,hai,rfl⟩
 have hrl:(rs.map V.ref).length=(bT m first A).length:=by rw [Ab,wr2.1]
 have rr2:=aM er2
 walk_at "go"
 rw [hrl]
 refine gS (λhd=>?_) (λhd=>?_)
 · have hd':=Ba hd
   have ht:t < (bT m first A).length:=by omega
   have hrm:=nK (m:=m) (first:=first) hask.nd
   have htr:t < rs.length:=by rw [wr2.1]; exact ht
   have ew:(bT m first A)[t]?=some (bT m first A)[t]:=Aa ht
   have er:rs[t]?=some rs[t]:=Aa htr
   have hwt:=wr2.2 t _ _ er ew
   have hww:(bT m first A)[t]∈wl cws:=by
     rcases reach_mem.mp (Ca ht) with e | ⟨f,_,hm2⟩
     · rw [e]; exact hfw
     · exact hm.sub _ hm2
   generalize hbw:rs[t]=b at hwt er
   generalize hwe:(bT m first A)[t]=w at hwt hww ew
   clear hbw hwe hd hd'
   obtain ⟨ds,d1,d2,d3⟩:=id hch
   obtain ⟨jw,hjw,ejw⟩:=Cd.mp hww
   have ejw2:(wl cws)[jw]?=some w:=by rw [Aa hjw,ejw]
   have edw:ds[jw]?=some (ds[jw]'(by omega)):=Aa (by omega)
   have hdlH:=d3 jw w _ ejw2 edw
   have hdv:=aX6 (mZ cws cws.length) d1 ejw2 edw
   generalize (ds[jw]'(by omega))=dl at hdlH hdv
   have hdl:=s2 _ _ hdlH
   have d22:Rd H2 ac (.dT (dU (wl cws) ds)):=d2.elim (λe=>.inl (s2 _ _ e)) λ⟨o,e⟩=>.inr ⟨o,s2 _ _ e⟩
   refine ⟨λσ' H'=>∃ (A:List (Nat × Wt)) (bs rs:List Addr) (v1 v2:Option V),σ'=[some (.ref bf),some (.ref ac),some (.ref ah),some (.ref pa),some (.ref pr),some (.int ((t + 1:Nat):Int)),v1,v2]/\Same H H'/\H' pa=some (.dK (fU A bs))/\WtsAt H' bs (A.map (·.2))/\H' pr=some (.lst (rs.map V.ref))/\WtsAt H' rs (bT m first A)/\
     Asking (chW cws) m first A/\t + 1<=(bT m first A).length/\(∀ (j:Nat) w,j < t + 1->(bT m first A)[j]?=some w->∀ f∈chW cws w,f∈A.map (·.1))/\A=dS (chW cws) m first (t + 1),?_,?_⟩
   · rintro σ' H' ⟨A',bs',rs',v1',v2',rfl,g1,g2,g3,g4,g5,g6,g7,g8,g9⟩
     exact ⟨1 + m.length - (t + 1),by omega,A',bs',rs',t + 1,v1',v2',rfl,g1,g2,g3,g4,g5,g6,g7,g8,g9,rfl⟩
   have hits:dS (chW cws) m first (t + 1)=(chW cws w).foldl (zH w) (dS (chW cws) m first t):=by
     show (match (bT m first (dS (chW cws) m first t))[t]? with | some w=>(chW cws w).foldl (zH w) (dS (chW cws) m first t) | none=>dS (chW cws) m first t)=_
     rw [<-hai,ew]
   walk_at "go"
   refine cJ rr2 (v:=.ref b) (dX (by rw [Ah,er]; rfl)) ?_
   walk_at "go"
   refine zS (k:=dH w) d22 hwt hdv ?_
   have rdl:=aM hdl
   have hcl5:=(cQ9 (cws.getD w.1 []) (w.2 - 1)).2
   have hcm:(((chW cws w).map one).map V.str).length=(chW cws w).length:=by rw [Ab,Ab]
   walk_at "go"
   have kt:∀ {H':Hp} {p:Addr} {u u':HO},H' p=some u->(∀ ws,u≠.tup ws)->∀ r w,H' r=some (.tup (wV w))->(upd H' p u') r=some (.tup (wV w)):=fun {H' p u u'} e ne r w h=>by
     rw [aK (λz=>by rw [z,e] at h; cases h; exact ne _ rfl)]
     exact h
   refine cT (xs:=((chW cws w).map one).map V.str) (λi σ H'=>∃ (A:List (Nat × Wt)) (bs rs:List Addr) (v2:Option V),σ=[some (.ref bf),some (.ref ac),some (.ref ah),some (.ref pa),some (.ref pr),some (.int (t:Int)),some (.ref b),v2]/\Same H H'/\H' pa=some (.dK (fU A bs))/\WtsAt H' bs (A.map (·.2))/\H' pr=some (.lst (rs.map V.ref))/\WtsAt H' rs (bT m first A)/\
       H' b=some (.tup (wV w))/\Asking (chW cws) m first A/\(bT m first A)[t]?=some w/\(∀ (j:Nat) v,j < t->(bT m first A)[j]?=some v->∀ f∈chW cws v,f∈A.map (·.1))/\(∀ f∈(chW cws w).take i,f∈A.map (·.1))/\A=((chW cws w).take i).foldl (zH w) (dS (chW cws) m first t))
     ⟨A,bs,rs,_,rfl,s2,ea2,wb2,er2,wr2,hwt,hask,ew,hcl,(λf hf=>(nomatch hf)),hai⟩ (λi σ H' _ ⟨_,_,_,_,_,e,_⟩=>aM (e _ _ hdlH)) ?_ ?_
   · clear hask ew hcl hrm htl hrl rr2 wr2 er2 wb2 ea2 er hai
     rintro i x σ H3 hx ⟨A,bs,rs,v2,rfl,s3,ea,wb,er,wr,hb,hask,ew,hcl,hpre,hfo⟩
     rw [Ah,Ah] at hx
     cases ef:(chW cws w)[i]? with
     | none=>rw [ef] at hx; cases hx
     | some f=>
       rw [ef] at hx
       cases hx
       have hfc:=Ai ef
       have htk:(chW cws w).take (i + 1)=(chW cws w).take i ++ [f]:=by rw [Bc,ef]; rfl
       have hbl:bs.length=A.length:=by rw [wb.1,Ab]
       have hAl:=aXF hm hfw hL hask
       have hfo1:((chW cws w).take (i + 1)).foldl (zH w) (dS (chW cws) m first t)=zH w A f:=by rw [htk,List.foldl_append,<-hfo]; rfl
       walk_at "go"
       refine cZB (neg:=true) (z:=one f) (.inl ea) ?_
       rw [if_pos rfl,kH hbl]
       refine gS (λhd=>?_) (λhd=>?_)
       · have hni:f ∉ A.map (·.1):=λz=>by rw [Au z] at hd; cases hd
         walk_at "go"
         refine eZ (z:=one f) ea (bC (by rw [pN hbl]; omega)) ?_
         rw [jT _ (aZC hbl hni),<-aZW (x:=(f,w)) hbl]
         have s4:Same H (upd H3 pa (.dK (fU (A ++ [(f,w)]) (bs ++ [b])))):=aW hpa s3
         have ea4:(upd H3 pa (.dK (fU (A ++ [(f,w)]) (bs ++ [b])))) pa=_:=aE
         have er4:(upd H3 pa (.dK (fU (A ++ [(f,w)]) (bs ++ [b])))) pr=_:=(aK (Ne.symm npr)).trans er
         have k4:=kt (u':=.dK (fU (A ++ [(f,w)]) (bs ++ [b]))) ea (λws z=>nomatch z)
         have wb4:=wb.keep k4
         have wr4:=wr.keep k4
         have hb4:=k4 _ _ hb
         generalize upd H3 pa (.dK (fU (A ++ [(f,w)]) (bs ++ [b])))=H4 at s4 ea4 er4 wb4 wr4 hb4 ⊢
         have ah4:=s4 _ _ hah
         clear k4 wb wr er ea s3 hb
         walk_at "go"
         refine uR ah4 λo=>?_
         have fz:(upd H4 ah (.frz o (.dT (gU m)))) ah=_:=aE
         have hkl:(gU m).length=m.length:=by unfold gU; rw [Ab]
         refine gQ (n:=m.length) (λD i ys Hc=>Same (upd H4 ah (.frz o (.dT (gU m)))) Hc/\∃ qs,ys=qs.map V.ref/\WtsAt Hc qs (eG (m.take i) f)) (bC (by omega)) (λD hD=>⟨aF hD _,[],rfl,rfl,λj r w hr=>(nomatch hr)⟩) (λD i ys Hc _ r h=>⟨r.1 _ _ fz,by omega⟩) (λD ys Hc _ r=>⟨r.1 _ _ fz,hkl⟩) ?_ ?_
         · rintro D i2 ys Hc x H' A' B' hD hi2 ⟨sm,qs,rfl,wq⟩ hDc ⟨rfl,kv,b2,hkv,rfl,hb2⟩ hA' hB'
           have em:m[i2]?=some m[i2]:=Aa hi2
           unfold gU at hkv
           rw [Ah,em] at hkv
           cases hkv
           have hbt:H' b2=some (.tup (wV m[i2].1)):=hb2
           have hv:bX (gU m) (dH m[i2].1)=some (.str (one m[i2].2)):=by
             rw [kD,lV hm.nd (w:=m[i2].1) (f:=m[i2].2) (Ca hi2)]
             rfl
           have tk:m.take (i2 + 1)=m.take i2 ++ [m[i2]]:=by rw [Bc,em]; rfl
           rw [tk] at hA' hB'
           generalize m[i2]=x2 at hbt hv hA' hB'
           walk_at "go"
           refine ⟨Wk.set rfl (Wk.refl _),?_⟩
           walk_at "go"
           refine zS (k:=dH x2.1) (.inr ⟨o,sm _ _ fz⟩) hbt hv ?_
           walk_at "go"
           rw [show decide (one x2.2=one f)=decide (x2.2=f) from tV _ _]
           refine gS (λhe=>?_) (λhe=>?_)
           · have he':=Ba he
             walk_at "go"
             refine hA' _ _ hDc ⟨aW hD sm,qs ++ [b2],by rw [Ak]; rfl,?_⟩
             rw [show eG (m.take i2 ++ [x2]) f=eG (m.take i2) f ++ [x2.1] by unfold eG; rw [List.filter_append,List.map_append]; simp [he']]
             exact (wq.app (.one hbt)).keep (kt hDc (λws z=>nomatch z))
           · have he':=Bp (Br.mpr he)
             walk_at "go"
             refine hB' _ hDc ⟨sm,qs,rfl,?_⟩
             rw [show eG (m.take i2 ++ [x2]) f=eG (m.take i2) f by unfold eG; rw [List.filter_append,List.map_append]; simp [he']]
             exact wq
         · rintro D ys Hc hD ⟨sm,qs,rfl,wq⟩ hDc _
           rw [Bs] at wq
           have hD4:H4 D=none:=by
             by_cases z:D=ah
             · rw [z,aE] at hD; cases hD
             · rw [aK z] at hD; exact hD
           have su:=oX ah4 (λo v z=>nomatch z) sm
           have eu:=dR (Hs:=H4) hDc (λo v z=>nomatch z)
           have wqu:WtsAt (unf H4 Hc) qs (eG m f):=wq.keep λr w h=>dR h (λo v z=>nomatch z)
           generalize unf H4 Hc=Hu at su eu wqu
           have eru:=su _ _ er4
           have hmr:=bN eru
           have hmd:=bN eu
           have nDr:pr≠D:=bJ er4 hD4
           have hq1:qs.length<=56:=by rw [wqu.1,aQH]; unfold ctm; exact Bf List.countP_le_length hml
           have hr1:rs.length<=57:=by rw [wr4.1]; exact Bf (nK hask.nd) (by omega)
           have hlen:(rs.map V.ref).length + (qs.map V.ref).length<=sizeLine:=bU (by rw [Ab,Ab]; omega)
           walk_at "go"
           have kr:=kt (u':=.lst (rs.map V.ref ++ qs.map V.ref)) eru (λws z=>nomatch z)
           have hRt:=(Ad.mp ew).1
           refine ⟨A ++ [(f,w)],bs ++ [b],rs ++ qs,_,rfl,aW hpr0 (s4.trans su),?_,?_,?_,?_,?_,hask.snoc hm.nd hni hfc (Ai ew),?_,λj v hj hv=>?_,λg hg=>?_,by rw [hfo1]; exact (if_neg hni).symm⟩
           · rw [aK npr]
             exact su _ _ ea4
           · rw [Ak]
             exact ((wb4.keep λr w h=>su _ _ h).app (.one (su _ _ hb4))).keep kr
           · rw [aE,Ak]
           · rw [lA]
             exact ((wr4.keep λr w h=>su _ _ h).app wqu).keep kr
           · exact kr _ _ (su _ _ hb4)
           · rw [lA,Ap hRt]
             exact ew
           · rw [lA,Ap (by omega)] at hv
             intro g hg
             rw [Ak]
             exact Bt _ (hcl j v hj hv g hg)
           · rw [htk] at hg
             rw [Ak]
             rcases Bj.mp hg with z | z
             · exact Bt _ (hpre g z)
             · rw [As.mp z]; exact Bd _ (As.mpr rfl)
       · have hin:f∈A.map (·.1):=by
           rw [Bool.not_eq_true,Bool.not_eq_false'] at hd
           exact Ba hd
         walk_at "go"
         refine ⟨A,bs,rs,_,rfl,s3,ea,wb,er,wr,hb,hask,ew,hcl,λg hg=>?_,by rw [hfo1]; exact (if_pos hin).symm⟩
         rw [htk] at hg
         rcases Bj.mp hg with z | z
         · exact hpre g z
         · rw [As.mp z]; exact hin
   · clear hask ew hcl hrm htl hrl rr2 wr2 er2 wb2 ea2 er hai
     rintro σ H3 ⟨A,bs,rs,v2,rfl,s3,ea,wb,er,wr,hb,hask,ew,hcl,hpre,hfo⟩
     rw [hcm,Bs] at hpre
     rw [hcm,Bs] at hfo
     walk_at "go"
     refine ⟨A,bs,rs,_,_,rfl,s3,ea,wb,er,wr,hask,(Ad.mp ew).1,λj v hj hv=>?_,by rw [hits]; exact hfo⟩
     by_cases hjt:j < t
     · exact hcl j v hjt hv
     · have:j=t:=by omega
       subst this
       rw [ew] at hv
       cases hv
       exact hpre
 · have hd':=Bp (Br.mpr hd)
   walk_at "go"
   refine q pa A bs H2 hpa s2 ea2 wb2 (hask.done λw hw f hf=>?_) (by rw [hai]; exact cQ2 (by rw [<-hai]; omega) (by have:=nK (m:=m) (first:=first) hask.nd; omega))
   obtain ⟨j,hj,ej⟩:=Cd.mp hw
   exact hcl j w (by omega) (by rw [Aa hj,ej]) f hf
theorem wG {m:List (Wt × Nat)} {w:Wt} {f:Nat}:dJ (gU m) (dH w) (.str (one f))=gU (uC m w f):=by
 have e:((gU m).any λkv=>decide (kv.1=dH w))=(dG m w).isSome:=by
   rw [dW,kD]
   cases dG m w <;> rfl
 unfold dJ uC
 rw [e]
 by_cases h:(dG m w).isSome=true
 · rw [if_pos h,if_pos h]
   unfold gU
   rw [Dc,Dc]
   refine De λx _=>?_
   show (if dH x.1=dH w then (dH x.1,V.str (one f)) else (dH x.1,V.str (one x.2)))=(λx:Wt × Nat=>(dH x.1,V.str (one x.2))) (if x.1=w then (x.1,f) else x)
   by_cases ex:x.1=w
   · rw [if_pos ex,if_pos (by rw [ex])]
   · rw [if_neg ex,if_neg (λz=>ex (mD z))]
 · rw [if_neg h,if_neg h]
   unfold gU
   rw [Ak]
   rfl
def kS:Sp:=λvs H Q _=>∃ (aa ah:Addr) (cws:List (List Nat)) (m:List (Wt × Nat)) (first:Wt) (A:List (Nat × Wt)) (bs:List Addr) (f0:Nat),vs=[.str (one f0),.ref aa,.ref ah]/\H aa=some (.dK (fU A bs))/\WtsAt H bs (A.map (·.2))/\Asking (chW cws) m first A/\H ah=some (.dT (gU m))/\(m.map (·.1)).Nodup/\first ∉ m.map (·.1)/\(∀ v f,(v,f) ∈ m->f ∈ chW cws v)/\f0 ∈ A.map (·.1)/\m.length<=56/\
 ∀ (m':List (Wt × Nat)) (H':Hp),(∀ b u,b≠ah->H b=some u->H' b=some u)->H' ah=some (.dT (gU m'))->m'.map (·.1)=m.map (·.1) ++ [first]->(∀ v f,(v,f)∈m'->f∈chW cws v)->(∀ f,ctm m' f=ctm m f + (if f=f0 then 1 else 0))->AlongR A f0 m m'->Q .non H'
theorem sc_hang_along:FnScope ["flag", "asked", "hung", "want", "given"] ["flag", "asked", "hung"] (aG dO):=⟨rfl,rfl,rfl,by decide +kernel,rfl,by decide +kernel,by decide +kernel⟩
theorem rF {Zw Zz Zx Zy:Addr} {f:Addr} {fd:FuncData} (F:Fun K "hang_along" "hang_along" dO f fd) (G:Gs K mg Zw Zz Zx Zy)  : FnOk P w K mg base CX0 1 f fd ["flag", "asked", "hung"] kS:=by
 refine F.ok sc_hang_along (λvs H Q E h=>?_) (λcdv A outer s H vs Q E hr h=>?_)
 · obtain ⟨aa,ah,cws,m,first,A,bs,f0,rfl,_⟩:=h; rfl
 obtain ⟨aa,ah,cws,m,first,A,bs,f0,rfl,haa,hwb,hask,hah,nd,hnf,hmc,hf0,hml,q⟩:=h
 refine ⟨_,(@aH _ _ _ (wZ Ay (aY pG (mv 0) dC (bF _)) (@aD _ _ _ _ _ (@aO _ _ 3 _ _ _ _ sc_hang_along.nd (by rfl) (by exact (Or.inl rfl)) (fM (Room.u1 hr) (mv 1) (mv 0) (λ_ _=>rfl)) (by rfl) (by first | exact Or.inl rfl | exact Or.inr rfl)) (@aD _ _ _ _ _ (@aO _ _ 4 _ _ _ _ sc_hang_along.nd (by rfl) (by exact (Or.inl rfl)) (fR Bw Cs (bXY (Room.u1 hr)) (mv 2) (aA (mv 3) aB)) (by rfl) (by first | exact Or.inl rfl | exact Or.inr rfl)) (@aD _ _ _ _ _ (dM (Room.u1 hr) (mv 2) (mv 3) (mv 0) rfl) (@aH _ _ _ (@aO _ _ 0 _ _ _ _ sc_hang_along.nd (by rfl) (by exact (Or.inl rfl)) (mv 4) (by rfl) (by first | exact Or.inl rfl | exact Or.inr rfl)))))))),?_⟩
 have hbl:bs.length=A.length:=by rw [hwb.1,Ab]
 have nah:aa≠ah:=λz=>by rw [z,hah] at haa; cases haa
 obtain ⟨x0,hx0,e0⟩:=Bg.mp hf0
 obtain ⟨j0,hj0,ej0⟩:=Cd.mp hx0
 have ej:A[j0]?=some (f0,x0.2):=by rw [Aa hj0,ej0,<-e0]
 walk_at "go"
 refine ⟨λn σ H'=>(∃ (m2:List (Wt × Nat)) (c j:Nat) (w:Wt) (v1 v2:Option V),σ=[some (.str (one c)),some (.ref aa),some (.ref ah),v1,v2]/\(∀ b u,b≠ah->H b=some u->H' b=some u)/\H' ah=some (.dT (gU m2))/\Along (chW cws) m A f0 m2 c j w/\(∀ m',AlongR A c m2 m'->AlongR A f0 m m')/\n=j + 1)\/
     (∃ (m':List (Wt × Nat)) (v1 v2:Option V),σ=[some .non,some (.ref aa),some (.ref ah),v1,v2]/\(∀ b u,b≠ah->H b=some u->H' b=some u)/\H' ah=some (.dT (gU m'))/\m'.map (·.1)=m.map (·.1) ++ [first]/\(∀ v f,(v,f)∈m'->f∈chW cws v)/\(∀ f,ctm m' f=ctm m f + (if f=f0 then 1 else 0))/\AlongR A f0 m m'/\n=0),
   ⟨_,.inl ⟨m,f0,j0,x0.2,none,none,rfl,λb u _ h=>h,hah,⟨rfl,hmc,λf=>rfl,ej,λv g i u hg _ _=>hg⟩,λ_ h=>h,rfl⟩⟩,?_⟩
 rintro n σ H2 (⟨m2,c,j,w,v1,v2,rfl,fr,eh,al,hR,rfl⟩ | ⟨m',v1,v2,rfl,fr,eh,hk,hc,hct,hR,rfl⟩)
 · walk_at "go"
   rw [show (!decide (V.str (one c)=V.non))=true from rfl]
   walk_at "go"
   have hjl:=(Ad.mp al.at_).1
   have ebj:bs[j]?=some (bs[j]'(by omega)):=Aa (by omega)
   have hbt:=hwb.2 j _ w ebj (by rw [Ah,al.at_]; rfl)
   have hav:=bQ2 hask.nd hbl al.at_ ebj
   generalize (bs[j]'(by omega))=b at hbt hav
   have nb:b≠ah:=λz=>by rw [z,hah] at hbt; cases hbt
   have haa2:=fr _ _ nah haa
   have hb2:=fr _ _ nb hbt
   have hkl:(gU m2).length < sizeLine:=by
     have:m2.length=m.length:=by rw [<-Ab (f:=(·.1)) (as:=m2),al.keys,Ab]
     unfold gU
     rw [Ab]
     exact bC (by omega)
   have hdd:isD H2 ah=true:=by unfold isD; rw [eh]
   refine ⟨_,λσ' H' h=>h,?_⟩
   walk_at "go"
   refine kY (z:=one c) (.inl haa2) hav ?_
   walk_at "go"
   refine aXT (k:=dH w) (.inl eh) hb2 ?_
   rw [kD]
   have fr2:∀ o,∀ b u,b≠ah->H b=some u->(upd H2 ah o) b=some u:=λo b u hb hu=>by rw [aK hb]; exact fr b u hb hu
   rcases (hask.ok j c w al.at_).2 with rfl | ⟨g,i,v,hij,hi,hg⟩
   · obtain ⟨l1,l2,l3,l4⟩:=al.last hask hnf
     rw [l1]
     walk_at "go"
     refine uE (k:=dH w) eh hb2 hkl ?_
     have hR':=hR _ (.stop al.at_ l1)
     have hpe:uC m2 w c=m2 ++ [(w,c)]:=by unfold uC; rw [l1]; rfl
     rw [wG,hpe]
     rw [hpe] at hR'
     walk_at "go"
     exact ⟨0,by omega,.inr ⟨m2 ++ [(w,c)],_,_,rfl,fr2 _,aE,l2,l3,l4,hR',rfl⟩⟩
   · obtain ⟨l1,l2⟩:=al.step hask nd hg hi hij
     rw [l1]
     walk_at "go"
     refine uE (k:=dH w) eh hb2 hkl ?_
     have hR':∀ m',AlongR A g (uC m2 w c) m'->AlongR A f0 m m':=λm' h=>hR _ (.step al.at_ l1 h)
     have hpe:uC m2 w c=m2.map λx=>if x.1=w then (x.1,c) else x:=by unfold uC; rw [l1]; rfl
     rw [wG,hpe]
     rw [hpe] at hR'
     walk_at "go"
     exact ⟨i + 1,by omega,.inl ⟨_,g,i,v,_,_,rfl,fr2 _,aE,l2,hR',rfl⟩⟩
 · walk_at "go"
   exact q m' H2 fr eh hk hc hct hR
def fY (aC:Addr):Sp:=λvs H Q _=>∃ (ea p q:Addr) (xs ys:List V),vs=[.ref ea,.ref p,.ref q]/\H ea=some (eV ea aC none)/\rdL H p=some xs/\rdL H q=some ys/\
 ∀ (dx l1 l2:Addr) (H':Hp),(∀ b u,b≠ea->H b=some u->H' b=some u)->H dx=none->dx≠ea->H' ea=some (eV ea aC (some dx))->H' dx=some (xdO dx [("flags",.ref l2),("wants",.ref l1)])->H' l1=some (.lst xs)->H' l2=some (.lst ys)->H l1=none->H l2=none->Q .non H'
theorem uO:FnScope ["self", "wants", "flags"] ["self", "wants", "flags"] (aG eT):=⟨rfl,rfl,rfl,by decide +kernel,rfl,by decide +kernel,by decide +kernel⟩
theorem tQ {Zw Zz Zx Zy:Addr} {f:Addr} {fd:FuncData} (F:Fun K "__init__" "Lack.__init__" eT f fd) (G:Gs K mg Zw Zz Zx Zy)  : FnOk P w K mg base CX0 1 f fd ["self", "wants", "flags"] (fY Zw):=by
 refine F.ok uO (λvs H Q E h=>?_) (λcdv A outer s H vs Q E hr h=>?_)
 · obtain ⟨ea,p,q,xs,ys,rfl,_⟩:=h; rfl
 obtain ⟨ea,p,q,xs,ys,rfl,he,hp,hq,qq⟩:=h
 refine ⟨_,(@aD _ _ _ _ _ (cE (vT rfl G.c_TowerError G.t1_TowerError G.t2_TowerError G.t3_TowerError (aA (mv 0) (aA (bK iP rfl G.b_list dE (aA (mv 1) aB)) (aA (bK iP rfl G.b_list dE (aA (mv 2) aB)) aB))))) (@aD _ _ _ _ _ (vG (mv 0) (bK iP rfl G.b_list dE (aA (mv 1) aB)) rfl) (@aH _ _ _ (vG (mv 0) (bK iP rfl G.b_list dE (aA (mv 2) aB)) rfl)))),?_⟩
 walk_at "go"
 intro l1 hl1
 have s1:=aF hl1 (.lst xs)
 generalize upd H l1 (.lst xs)=H1 at s1 ⊢
 have hq1:=aI s1 hq
 walk_at "go"
 intro l2 hl2
 have s2:=s1.trans (aF hl2 (.lst ys))
 generalize upd H1 l2 (.lst ys)=H2 at s2 ⊢
 have he2:=s2 _ _ he
 walk_at "go"
 refine ⟨ea,[.ref l1,.ref l2],Zw,Zz,none,rfl,by show 2<=sizeLine; decide,he2,(λ_ z=>nomatch z),G.xc_Lack,?_⟩
 have hp2:=aI s2 hp
 walk_at "go"
 intro l3 hl3
 have s3:=s2.trans (aF hl3 (.lst xs))
 have e3:(upd H2 l3 (.lst xs)) l3=_:=aE
 generalize upd H2 l3 (.lst xs)=H3 at s3 e3 ⊢
 have he3:=s3 _ _ he
 walk_at "go"
 refine ⟨ea,Zw,Zz,rfl,G.xc_Lack,G.xn_Lack_wants,.inl ⟨he3,λdx hdx=>?_⟩⟩
 have nde:dx≠ea:=λz=>by rw [z,he3] at hdx; cases hdx
 have fr4:∀ b u,b≠ea->H b=some u->(upd (upd H3 ea (eV ea Zw (some dx))) dx (xdO dx [("wants",.ref l3)])) b=some u:=λb u hb hu=>by
   have e:=s3 _ _ hu
   rw [aK (λz=>by rw [z,hdx] at e; cases e),aK hb]
   exact e
 have ee4:(upd (upd H3 ea (eV ea Zw (some dx))) dx (xdO dx [("wants",.ref l3)])) ea=some (eV ea Zw (some dx)):=by rw [aK nde.symm,aE]
 have ed4:(upd (upd H3 ea (eV ea Zw (some dx))) dx (xdO dx [("wants",.ref l3)])) dx=_:=aE
 have n3e:l3≠ea:=λz=>by rw [z,he3] at e3; cases e3
 have n3d:l3≠dx:=λz=>by rw [z,hdx] at e3; cases e3
 have el4:(upd (upd H3 ea (eV ea Zw (some dx))) dx (xdO dx [("wants",.ref l3)])) l3=some (.lst xs):=by rw [aK n3d,aK n3e]; exact e3
 have hqe:q≠ea:=λz=>by rw [z] at hq; unfold rdL at hq; rw [he] at hq; cases hq
 have hq4:rdL (upd (upd H3 ea (eV ea Zw (some dx))) dx (xdO dx [("wants",.ref l3)])) q=some ys:=by
   have hq3:=aI s3 hq
   rw [zB (λz=>by rw [z] at hq3; unfold rdL at hq3; rw [hdx] at hq3; cases hq3),zB hqe]
   exact hq3
 generalize upd (upd H3 ea (eV ea Zw (some dx))) dx (xdO dx [("wants",.ref l3)])=H4 at fr4 ee4 ed4 el4 hq4 ⊢
 walk_at "go"
 intro l4 hl4
 have s5:=aF hl4 (.lst ys)
 have e5:(upd H4 l4 (.lst ys)) l4=_:=aE
 have ee5:=s5 _ _ ee4
 have ed5:=s5 _ _ ed4
 have el5:=s5 _ _ el4
 have n4d:l4≠dx:=λz=>by rw [z,ed4] at hl4; cases hl4
 have n4e:l4≠ea:=λz=>by rw [z,ee4] at hl4; cases hl4
 have h40:H l4=none:=by
   cases e:H l4 with
   | none=>rfl
   | some u=>rw [fr4 _ _ n4e e] at hl4; cases hl4
 generalize upd H4 l4 (.lst ys)=H5 at s5 e5 ee5 ed5 el5 ⊢
 walk_at "go"
 refine ⟨ea,Zw,Zz,rfl,G.xc_Lack,G.xn_Lack_flags,.inr ⟨dx,_,ee5,ed5,(by show 1 < 100; decide),?_⟩⟩
 refine qq dx l3 l4 _ (λb u hb hu=>?_) (none_of s3 hdx) nde (by rw [aK nde.symm]; exact ee5) aE (by rw [aK n3d]; exact el5) (by rw [aK n4d]; exact e5) (none_of s2 hl3) h40
 have e:=s5 _ _ (fr4 b u hb hu)
 rw [aK (λz=>by have q9:=s3 _ _ hu; rw [z,hdx] at q9; cases q9)]
 exact e
structure LackOk (cws:List (List Nat)) (n:Nat->Int) (W:List Wt) (F:List Nat):Prop where
 sub:W.Sublist (wl cws)
 flags:∃ p:Nat->Bool,F=flagsT.cps.toList.filter p
 all:∀ w∈W,∀ f∈chW cws w,f∈F
 few:(F.map n).sum < (W.length:Int)
def ctn (fs:List Nat) (c:Nat):Nat:=fs.countP λx=>decide (x=c)
theorem mR (g:Nat->Nat):∀ L:List Nat,(L.map λc=>((g c:Nat):Int)).sum=(((L.map g).sum:Nat):Int)
 | []=>rfl
 | c :: r=>by
   rw [Ar,Cq,Ar,Cq,mR g r]
   omega
theorem cXP {cws:List (List Nat)} {n0:Nat->Int} {m:List (Wt × Nat)} {first:Wt} {A:List (Nat × Wt)} {fl:Nat->Option Int} {l r:List Wt} (hw:wl cws=l ++ first :: r) (hk:m.map (·.1)=l) (hL:∀ c∈cws,c.length<=7/\∀ d∈c,bL d) (hmo:HungOk cws m) (hfw:first∈wl cws)
   (hA:Asked (chW cws) m first A) (hct:∀ c,aL fl c=n0 c - (ctm m c:Int)/\0<=aL fl c) (h0:∀ c∈A.map (·.1),¬ 0 < aL fl c):LackOk cws n0 (jJ m first A (wl cws)) (flagsT.cps.toList.filter λc=>decide (c∈A.map (·.1))):=by
 have hAf:∀ c∈A.map (·.1),fP c:=λc hc=>by
   obtain ⟨x,hx,rfl⟩:=Bg.mp hc
   obtain ⟨j,hj,e⟩:=Cd.mp hx
   have hj2:A[j]?=some (x.1,x.2):=by rw [Aa hj,e]
   exact bQR hL (bZ2 hmo hfw hA.toAsking hj2) (hA.ok j _ _ hj2).1
 have hF:∀ c,c∈flagsT.cps.toList.filter (λc=>decide (c∈A.map (·.1))) ↔ c∈A.map (·.1):=λc=>by
   rw [Dp,Bl]
   exact ⟨λh=>h.2,λh=>⟨flags_mem.mpr (hAf c h),h⟩⟩
 have ndF:(flagsT.cps.toList.filter λc=>decide (c∈A.map (·.1))).Nodup:=List.Nodup.sublist El (by decide)
 have nd:=mZ cws cws.length
 replace nd:(wl cws).Nodup:=nd
 refine ⟨El,⟨_,rfl⟩,λw hwm f hf=>?_,?_⟩
 · refine (hF f).mpr ?_
   have h2:=(lackW_mem.mp hwm).2
   by_cases e:w=first
   · subst e
     exact hA.all1 f hf
   · cases eg:dG m w with
     | none=>rw [pW e eg] at h2; cases h2
     | some g=>
       rw [pR e eg] at h2
       exact hA.all w g (wJ eg) (Ba h2) f hf
 · have e1:(jJ m first A (wl cws)).length=1 + m.countP (λx=>decide (x.2∈A.map (·.1))):=by
     rw [hw] at nd ⊢
     exact bXK hk nd
   have e2:m.countP (λx=>decide (x.2∈A.map (·.1)))=m.countP (λx=>decide (x.2∈flagsT.cps.toList.filter λc=>decide (c∈A.map (·.1)))):=by
     congr 1
     funext x
     exact Cp.mpr (hF x.2).symm
   have e3:=cZ9 m ndF
   have e4:(flagsT.cps.toList.filter λc=>decide (c∈A.map (·.1))).map n0=(flagsT.cps.toList.filter λc=>decide (c∈A.map (·.1))).map λc=>((ctm m c:Nat):Int):=De λc hc=>by
     have h1:=hct c
     have h2:=h0 c ((hF c).mp hc)
     omega
   rw [e4,mR,e1,e2,e3]
   omega
def jV (aC:Addr):Sp:=λvs H Q E=>∃ (a b:Addr) (kvs:List (Key × V)) (f:Nat->Option Int) (cws:List (List Nat)),vs=[.ref a,.ref b]/\Rd H a (.dK kvs)/\Lk kvs f/\rdL H b=some ((cws.map bH).map V.str)/\cws.length<=8/\(∀ c∈cws,c.length<=7/\∀ d∈c,bL d)/\
 (∀ (r:Addr) (ps:List Addr) (fs:List Nat) (H':Hp),H r=none->Same H H'->H' r=some (.lst (ps.map V.ref))->(∀ p∈ps,p≠r)->Lsts H H' ps ((List.range cws.length).map (kW cws fs))->fs.length=(wl cws).length->(∀ (j:Nat) w g,(wl cws)[j]?=some w->fs[j]?=some g->g∈chW cws w)->(∀ c,(ctn fs c:Int)<=aL (bA (aL f)) c)->HungIs cws (aL (bA (aL f))) fs->Q (.ref r) H')/\
 (∀ (dx l1 l2:Addr) (rs:List Addr) (W:List Wt) (F:List Nat) (H':Hp),Same H H'->H' dx=some (xdO dx [("flags",.ref l2),("wants",.ref l1)])->H' l1=some (.lst (rs.map V.ref))->WtsAt H' rs W->H' l2=some (.lst ((F.map one).map V.str))->LackOk cws (aL (bA (aL f))) W F->LackIs cws (aL (bA (aL f))) W F->H l1=none->H l2=none->E (.ref aC) (some dx) H')
theorem sc_hang_all:FnScope ["locker", "words", "choices", "left", "hung", "first", "asked", "free", "wants"] ["locker", "words"] (aG cO):=⟨rfl,rfl,rfl,by decide +kernel,rfl,by decide +kernel,by decide +kernel⟩
theorem wQ {Zw Zz Zx Zy:Addr} {f:Addr} {fd:FuncData} (F:Fun K "hang_all" "hang_all" cO f fd) (G:Gs K mg Zw Zz Zx Zy) (c_choices_of:Cal P w K mg base 2 "choices_of" ["words"] kR) (c_plain_locker:Cal P w K mg base 1 "plain_locker" ["locker"] dY) (c_hoists_of:Cal P w K mg base 1 "hoists_of" ["words", "flags"] mC) (c_asked_from:Cal P w K mg base 1 "asked_from" ["first", "choices", "hung"] kU) (c_hang_along:Cal P w K mg base 1 "hang_along" ["flag", "asked", "hung"] kS) (c_Lack_init:zO P w K mg base 1 Zw ["self", "wants", "flags"] (fY Zw)):FnOk P w K mg base (CXr P w) 3 f fd ["locker", "words"] (jV Zw):=by
 refine F.okX sc_hang_all (λvs H Q E h=>?_) (λcdv A outer s H vs Q E hr h=>?_)
 · obtain ⟨a,b,kvs,f,cws,rfl,_⟩:=h; rfl
 obtain ⟨a,b,kvs,f,cws,rfl,ha,lk,hb,h8,hL,q,qe⟩:=h
 refine ⟨_,(@aD _ _ _ _ _ (@aO _ _ 2 _ _ _ _ sc_hang_all.nd (by rfl) (by exact (Or.inl rfl)) (aT c_choices_of hr (by decide) rfl (aA (mv 1) aB)) (by rfl) (by first | exact Or.inl rfl | exact Or.inr rfl)) (@aD _ _ _ _ _ (@aO _ _ 3 _ _ _ _ sc_hang_all.nd (by rfl) (by exact (Or.inr rfl)) (aT c_plain_locker hr (by decide) rfl (aA (mv 0) aB)) (by rfl) (by first | exact Or.inl rfl | exact Or.inr rfl)) (@aD _ _ _ _ _ (@aO _ _ 4 _ _ _ _ sc_hang_all.nd (by rfl) (by exact (Or.inr rfl)) wK (by rfl) (by first | exact Or.inl rfl | exact Or.inr rfl)) (@aD _ _ _ _ _ (tP (bQ PassesOwn.leaving rfl (mF (mv 2)) (aP (i:=5) sc_hang_all.nd rfl (Or.inr rfl)) (@aD _ _ _ _ _ (@aO _ _ 6 _ _ _ _ sc_hang_all.nd (by rfl) (by exact (Or.inr rfl)) (aT c_asked_from hr (by decide) rfl (aA (mv 5) (aA (mv 2) (aA (mv 4) aB)))) (by rfl) (by first | exact Or.inl rfl | exact Or.inr rfl)) (@aD _ _ _ _ _ (tP (oN (i:=7) sc_hang_all.nd rfl (Or.inl rfl) rfl (aXQ (mv 6)) (iE (N:=["flag", "left"]) ["locker", "words", "choices", "left", "hung", "first", "asked", "free", "wants"] (aG cO) [none,some 3] rfl rfl rfl (λx h=>cH h) (by decide +kernel)) (by decide +kernel) rfl (by decide +kernel) (λC s₀ H₀ ex=>(aP (i:=0) (show List.Nodup (["flag", "left"]:List Str) by decide +kernel) rfl (Or.inl rfl))) (λC s₀ H₀ ex=>(jD (aY cQX (fR Bw Cs (tJ (Room.u1 hr)) (mv 1) (aA (mv 0) (aA aJ aB))) aJ (bF _)))) (λC s₀ H₀ ex=>(mv 0)))) (@aD _ _ _ _ _ (cG (aY (dZZ hr.units0) (mv 7) (bP aB) (bF _)) (@aD _ _ _ _ _ (tP (oN (i:=8) sc_hang_all.nd rfl (Or.inl rfl) rfl (mF (mv 2)) (iE (N:=["want", "first", "asked", "hung"]) ["locker", "words", "choices", "left", "hung", "first", "asked", "free", "wants"] (aG cO) [none,some 5,some 6,some 4] rfl rfl rfl (λx h=>cH h) (by decide +kernel)) (by decide +kernel) rfl (by decide +kernel) (λC s₀ H₀ ex=>(aP (i:=0) (show List.Nodup (["want", "first", "asked", "hung"]:List Str) by decide +kernel) rfl (Or.inl rfl))) (λC s₀ H₀ ex=>(jD (PW.pt (mK (aY (dJH hr.units0) (mv 0) (mv 1) (bF _)) (lD (aY (cJI (Room.u1 hr)) (fR Bw Cs (bXY (Room.u1 hr)) (mv 3) (aA (mv 0) aB)) (mv 2) (by rfl))))))) (λC s₀ H₀ ex=>(mv 0)))) (@aH _ _ _ (nH oM rfl rfl rfl G.c_Lack G.xm_Lack c_Lack_init hr (by decide) (aA (mv 8) (aA (dD rfl (vB (kM rfl G.s_FLAGS)) (iE (N:=["flag", "asked"]) ["locker", "words", "choices", "left", "hung", "first", "asked", "free", "wants"] (aG cO) [none,some 6] rfl rfl rfl (λx h=>cH h) (by decide +kernel)) (by decide +kernel) rfl (by decide +kernel) (λC s₀ H₀ ex=>(aP (i:=0) (show List.Nodup (["flag", "asked"]:List Str) by decide +kernel) rfl (Or.inl rfl))) (λC s₀ H₀ ex=>(jD (aY (dJJ (Room.u1 hr)) (mv 0) (mv 1) (by rfl)))) (λC s₀ H₀ ex=>(mv 0))) aB))))) bI) (@aD _ _ _ _ _ (dM (Room.u1 hr) (mv 3) (bE bS (mv 7) aJ (λ_ _=>rfl)) (aU jY (fM (Room.u1 hr) (mv 3) (bE bS (mv 7) aJ (λ_ _=>rfl)) (λ_ _=>rfl)) aJ) rfl) (@aH _ _ _ (cE (aT c_hang_along hr (by decide) rfl (aA (bE bS (mv 7) aJ (λ_ _=>rfl)) (aA (mv 6) (aA (mv 4) aB)))))))))))) (@aH _ _ _ (aS (aT c_hoists_of hr (by decide) rfl (aA (mv 1) (aA (bX1 (dD rfl (mF (mv 2)) (iE (N:=["want", "hung"]) ["locker", "words", "choices", "left", "hung", "first", "asked", "free", "wants"] (aG cO) [none,some 4] rfl rfl rfl (λx h=>cH h) (by decide +kernel)) (by decide +kernel) rfl (by decide +kernel) (λC s₀ H₀ ex=>(aP (i:=0) (show List.Nodup (["want", "hung"]:List Str) by decide +kernel) rfl (Or.inl rfl))) (λC s₀ H₀ ex=>jB) (λC s₀ H₀ ex=>(fM (Room.u1 hr) (mv 1) (mv 0) (λ_ _=>rfl))))) aB))))))))),?_⟩
 have h7:∀ c∈cws,c.length<=7:=λc hc=>(hL c hc).1
 have hlw:(wl cws).length<=56:=Bf (aQ3 h7 _) (by omega)
 walk_at "go"
 refine ⟨b,cws,rfl,hb,h8,h7,λac H1 hac s1 hch=>?_⟩
 walk_at "go"
 refine ⟨a,kvs,f,rfl,ha.elim (λe=>.inl (s1 _ _ e)) (λ⟨o,e⟩=>.inr ⟨o,s1 _ _ e⟩),lk,λal H2 hal s2 el=>?_⟩
 walk_at "go"
 intro ah hah
 have s3:=s2.trans (aF hah (.dT []))
 have eh3:(upd H2 ah (.dT [])) ah=_:=aE
 have el3:=aF hah (.dT []) _ _ el
 generalize upd H2 ah (.dT [])=H3 at s3 eh3 el3 ⊢
 obtain ⟨ds,dl,ed,hds⟩:=hch
 rw [Bs] at ed
 have ed3:=s3 _ _ ed
 walk_at "go"
 refine uR ed3 λo=>?_
 have fz:(upd H3 ac (.frz o (.dT (dU (wl cws) ds)))) ac=_:=aE
 have kl:(dU (wl cws) ds).length=(wl cws).length:=sQ dl
 have nac:ah≠ac:=λz=>by have e:=s2 _ _ ed; rw [<-z,hah] at e; cases e
 have nla:al≠ac:=λz=>by rw [z,ed3] at el3; cases el3
 have nlh:al≠ah:=λz=>by rw [z,eh3] at el3; cases el3
 have s13:Same H1 H3:=s3
 have hah1:H1 ah=none:=none_of s2 hah
 generalize hn0:aL (bA (aL f))=n0
 refine bQ0 (λi σ H'=>∃ (m:List (Wt × Nat)) (kl2:List (Key × V)) (fl:Nat->Option Int) (v5 v6 v7 v8:Option V),σ=[some (.ref a),some (.ref b),some (.ref ac),some (.ref al),some (.ref ah),v5,v6,v7,v8]/\(∀ p u,p≠ac->p≠al->p≠ah->H1 p=some u->H' p=some u)/\H' ac=some (.frz o (.dT (dU (wl cws) ds)))/\H' ah=some (.dT (gU m))/\H' al=some (.dK kl2)/\Lk kl2 fl/\kl2.length<=27/\m.map (·.1)=(wl cws).take i/\(∀ v g,(v,g)∈m->g∈chW cws v)/\(∀ c,aL fl c=n0 c - (ctm m c:Int)/\0<=aL fl c)/\StateR cws n0 i m)
   ⟨[],_,bA (aL f),_,_,_,_,rfl,λp u h1 h2 h3 hu=>by rw [aK h1]; exact s13 _ _ hu,fz,by rw [aK nac]; exact eh3,by rw [aK nla]; exact el3,iK _,by unfold kvL; rw [Ab]; exact jG _ _,rfl,(λv g hv=>nomatch hv),λc=>?_,.zero⟩ (λi σ H' _ ⟨_,_,_,_,_,_,_,_,_,e,_⟩=>e) ?_ ?_
 · rw [hn0]
   refine ⟨by show n0 c=n0 c - ((0:Nat):Int); omega,?_⟩
   rw [<-hn0]
   show 0<=(bA (aL f) c).getD 0
   unfold bA
   split
   · rename_i h; exact Int.le_of_lt h.2
   · exact Fz 0
 · rintro i kv bf σ H4 hkv hbf ⟨m,kl2,fl,v5,v6,v7,v8,rfl,fr,ec,eh,el4,lkl,l27,hk,hmc,hct,hSt⟩
   have hi:i < (wl cws).length:=by rw [<-kl]; exact (Ad.mp hkv).1
   have ew:(wl cws)[i]?=some (wl cws)[i]:=Aa hi
   have ekv:kv=(dH (wl cws)[i],V.ref (ds[i]'(by omega))):=by
     unfold dU at hkv
     rw [Fa,ew,Aa (show i < ds.length by omega)] at hkv
     exact (Bi hkv).symm
   rw [ekv] at hbf
   have hnd:=mZ cws cws.length
   have hfw:(wl cws)[i]∈wl cws:=Ca hi
   have htk:(wl cws).take (i + 1)=(wl cws).take i ++ [(wl cws)[i]]:=by rw [Bc,ew]; rfl
   have hfn:(wl cws)[i] ∉ m.map (·.1):=by
     rw [hk]
     intro z
     obtain ⟨j,hj,ej⟩:=Cd.mp z
     rw [Bz] at hj
     rw [List.getElem_take] at ej
     have:=(Fi hnd).mp ej
     omega
   have hml:m.length<=56:=by
     have e:m.length=(m.map (·.1)).length:=(Ab _).symm
     rw [e,hk,Bz]
     omega
   have hmo:HungOk cws m:=⟨by rw [hk]; exact hnd.sublist (Ga ..),λx hx=>List.mem_of_mem_take (by rw [<-hk]; exact Bg.mpr ⟨x,hx,rfl⟩)⟩
   have hcr:ChRd H4 ac cws:=⟨ds,dl,.inr ⟨o,ec⟩,λj w d hw hd=>by
     have h1:=hds j w d (Ad.mp hw).1 hw hd
     exact fr d _ (λz=>by rw [z,ed] at h1; cases h1) (λz=>by rw [z,hal] at h1; cases h1) (λz=>by rw [z,hah1] at h1; cases h1) h1⟩
   replace hbf:H4 bf=some (.tup (wV (wl cws)[i])):=hbf
   clear ekv hkv
   generalize (wl cws)[i]=first at hbf ew hfw htk hfn
   walk_at "go"
   refine ⟨bf,ac,ah,cws,m,first,rfl,hbf,hfw,hcr,eh,hmo,hml,h8,hL,λpa A bs H5 hpa s5 ea wb hask hAf=>?_⟩
   have el5:=s5 _ _ el4
   have hbl:bs.length=A.length:=by rw [wb.1,Ab]
   have hA27:=aXF hmo hfw hL hask.toAsking
   have hdl5:=jS el5
   walk_at "go"
   refine bXS ea λoa=>?_
   have fza:(upd H5 pa (.frz oa (.dK (fU A bs)))) pa=_:=aE
   have nlp:al≠pa:=λz=>by rw [z,hpa] at el4; cases el4
   have elf:(upd H5 pa (.frz oa (.dK (fU A bs)))) al=_:=(aK nlp).trans el5
   refine gQ (n:=A.length) (λD i ys Hc=>Same (upd H5 pa (.frz oa (.dK (fU A bs)))) Hc/\ys=((((A.take i).map (·.1)).filter λc=>decide (0 < aL fl c)).map one).map V.str) (bC (by omega)) (λD hD=>⟨aF hD _,rfl⟩) (λD i ys Hc _ r h=>⟨r.1 _ _ fza,by rw [pN hbl]; exact h⟩) (λD ys Hc _ r=>⟨r.1 _ _ fza,pN hbl⟩) ?_ ?_
   · rintro D i2 ys Hc x H' A' B' hD hi2 ⟨sm,rfl⟩ hDc ⟨rfl,kv,hkv,rfl⟩ hA' hB'
     have eA:A[i2]?=some A[i2]:=Aa hi2
     unfold fU at hkv
     rw [Fa,eA,Aa (show i2 < bs.length by omega)] at hkv
     cases hkv
     have tk:A.take (i2 + 1)=A.take i2 ++ [A[i2]]:=by rw [Bc,eA]; rfl
     rw [tk,Ak,Eu] at hA' hB'
     generalize A[i2]=xa at hA' hB'
     have elc:=sm _ _ elf
     have hdc:=jS elc
     dsimp only [kV]
     walk_at "go"
     refine ⟨Wk.set rfl (Wk.refl _),?_⟩
     walk_at "go"
     refine sZ (z:=one xa.1) (.inl elc) ?_
     rw [lkl.val xa.1,kG]
     walk_at "go"
     refine gS (λhe=>?_) (λhe=>?_)
     · have he':=Ba he
       walk_at "go"
       refine hA' _ _ hDc ⟨aW hD sm,?_⟩
       rw [show ([xa].map (·.1)).filter (λc=>decide (0 < aL fl c))=[xa.1] by simp [he'],List.map_append,List.map_append]
       rfl
     · have he':=Bp (Br.mpr he)
       walk_at "go"
       refine hB' _ hDc ⟨sm,?_⟩
       rw [show ([xa].map (·.1)).filter (λc=>decide (0 < aL fl c))=[] by simp; omega,List.append_nil]
   · rintro D ys Hc hD ⟨sm,rfl⟩ hDc _
     rw [Bs] at hDc
     have su:=oX ea (λo v z=>nomatch z) sm
     have eu:=dR (Hs:=H5) hDc (λo v z=>nomatch z)
     refine oK ?_
     unfold aX3
     dsimp only
     generalize unf H5 Hc=H6 at su eu ⊢
     have s46:=s5.trans su
     have ea6:=su _ _ ea
     have wb6:WtsAt H6 bs (A.map (·.2)):=wb.keep λr w h=>su _ _ h
     have ec6:=s46 _ _ ec
     have eh6:=s46 _ _ eh
     have el6:=s46 _ _ el4
     have hbf6:=s46 _ _ hbf
     have fr6:∀ p u,p≠ac->p≠al->p≠ah->H1 p=some u->H6 p=some u:=λp u h1 h2 h3 hu=>s46 _ _ (fr p u h1 h2 h3 hu)
     have hD4:H4 D=none:=by
       have h5:H5 D=none:=by
         by_cases z:D=pa
         · rw [z,aE] at hD; cases hD
         · rw [aK z] at hD; exact hD
       exact none_of s5 h5
     clear sm hDc hD fza elf hdl5 el5
     walk_at "go"
     refine ⟨by decide,λpe hpe=>?_⟩
     refine aXC (neg:=false) (aI (aF hpe _) (aM eu)) cC (eJ _) rfl ?_
     have s67:=aF hpe (.lst [])
     generalize upd H6 pe (.lst [])=H7 at s67 ⊢
     have en:∀ xs:List V,jA xs []=xs.isEmpty:=λxs=>by cases xs <;> rfl
     rw [if_neg (by decide),en]
     have hfre:(A.map (·.1)).filter (λc=>decide (0 < aL fl c))=rT n0 m (oB (chW cws) m first):=by
       unfold rT
       rw [<-hAf]
       exact List.filter_congr λc _=>by rw [(hct c).1]
     cases hfr:(A.map (·.1)).filter (λc=>decide (0 < aL fl c)) with
     | nil=>
       rw [hfr] at eu
       rw [show (List.map V.str (List.map one [])).isEmpty=true from rfl]
       have ec7:=s67 _ _ ec6
       have eh7:=s67 _ _ eh6
       have ea7:=s67 _ _ ea6
       have hbf7:=s67 _ _ hbf6
       have fr7:∀ p u,p≠ac->p≠al->p≠ah->H1 p=some u->H7 p=some u:=λp u h1 h2 h3 hu=>s67 _ _ (fr6 p u h1 h2 h3 hu)
       clear eu wb6 hpe s67 fr6 fr ec6 eh6 ea6 hbf6 el6 su hD4 s46 hpa s5 ea wb el4 nlp
       walk_at "go"
       refine bZZ ec7 ?_
       refine gQ (n:=(wl cws).length) (λD i ys Hc=>Same H7 Hc/\∃ rs,ys=rs.map V.ref/\WtsAt Hc rs (jJ m first A ((wl cws).take i))) (bC (by omega)) (λD hD=>⟨aF hD _,[],rfl,rfl,λj r w hr=>nomatch hr⟩) (λD i ys Hc _ r h=>⟨r.1 _ _ ec7,by rw [kl]; exact h⟩) (λD ys Hc _ r=>⟨r.1 _ _ ec7,kl⟩) ?_ ?_
       · rintro D i2 ys Hc x H' A' B' hD hi2 ⟨sm,rs,rfl,hwt⟩ hDc ⟨rfl,kv,bk,hkv,rfl,hbk⟩ hA' hB'
         have ew2:(wl cws)[i2]?=some (wl cws)[i2]:=Aa hi2
         have ekv:kv=(dH (wl cws)[i2],V.ref (ds[i2]'(by omega))):=by
           unfold dU at hkv
           rw [Fa,ew2,Aa (show i2 < ds.length by omega)] at hkv
           exact (Bi hkv).symm
         rw [ekv] at hbk
         replace hbk:H' bk=some (.tup (wV (wl cws)[i2])):=hbk
         have tk:(wl cws).take (i2 + 1)=(wl cws).take i2 ++ [(wl cws)[i2]]:=by rw [Bc,ew2]; rfl
         rw [tk] at hA' hB'
         clear ekv hkv ew2 tk
         generalize (wl cws)[i2]=wx at hbk hA' hB'
         have ehc:=sm _ _ eh7
         have eac:=sm _ _ ea7
         have hfc:=sm _ _ hbf7
         have yes:jK m first A wx=true->A' (.ref bk) H':=λhb=>by
           refine hA' _ _ hDc ⟨aW hD sm,rs ++ [bk],by rw [Ak]; rfl,?_⟩
           rw [pL,hb,if_pos rfl]
           refine WtsAt.keep (hwt.app (.one hbk)) λr w h=>?_
           rw [aK (λz=>by rw [z,hDc] at h; cases h)]
           exact h
         have no:jK m first A wx=false->B' H':=λhb=>by
           refine hB' _ hDc ⟨sm,rs,rfl,?_⟩
           rw [pL,hb,if_neg (by decide),Bm]
           exact hwt
         clear hA' hB'
         walk_at "go"
         refine ⟨Wk.set rfl (Wk.refl _),?_⟩
         walk_at "go"
         refine dZP hbk hfc ?_
         have hd2:decide ((wx.1:Int)=(first.1:Int)/\(wx.2:Int)=(first.2:Int))=decide (wx=first):=Cp.mpr ⟨λh=>Prod.ext (by omega) (by omega),λh=>by rw [h]; exact ⟨rfl,rfl⟩⟩
         rw [hd2]
         by_cases e:wx=first
         · rw [Au e]
           walk_at "go"
           exact yes (vQ e)
         · rw [Aw e]
           have hdd:isD H' ah=true:=by unfold isD; rw [ehc]
           walk_at "go"
           refine aXT (k:=dH wx) (.inl ehc) hbk ?_
           rw [kD]
           cases eg:dG m wx with
           | none=>
             refine dXG (.inl eac) ?_
             walk_at "go"
             exact no (pW e eg)
           | some g=>
             have hlb:=pR (A:=A) e eg
             refine bJ2 (z:=one g) (.inl eac) ?_
             rw [kH hbl]
             refine gS (λhg=>?_) (λhg=>?_)
             · walk_at "go"
               exact yes (hlb.trans hg)
             · walk_at "go"
               exact no (hlb.trans (Br.mpr hg))
       · rintro D ys Hc hD ⟨sm,rs,rfl,hwt⟩ hDc _
         rw [Bs] at hwt
         have su:=aX2 sm
         have eu:=dR (Hs:=H7) hDc (λo v z=>nomatch z)
         have hwu:WtsAt (unf H7 Hc) rs (jJ m first A (wl cws)):=hwt.keep λr w h=>dR h λo v z=>nomatch z
         refine oK ?_
         unfold aX3
         dsimp only
         generalize unf H7 Hc=H8 at su eu hwu ⊢
         have ea8:=su _ _ ea7
         walk_at "go"
         refine cXR (λc=>if decide (c∈A.map (·.1))=true then some (.str (one c)) else none) (by decide) (λi3 c Hc2 A' B' hc sm2 hA'=>?_) (λD2 H9 hD2 s9 hr9=>?_)
         · have r:=hA' _ (Same.refl _)
           walk_at "go"
           refine ⟨Wk.set rfl (Wk.refl _),?_⟩
           walk_at "go"
           refine cZB (z:=one c) (neg:=false) (.inl (sm2 _ _ ea8)) ?_
           rw [if_neg (by decide),kH hbl]
           refine gS (λhg=>?_) (λhg=>?_)
           · rw [if_pos hg] at r
             walk_at "go"
             exact r
           · rw [if_neg hg] at r
             exact r
         · have ef:(Str.ofString "abcdefghijklmnopqrstuvw1234").cps.toList.filterMap (λc=>if decide (c∈A.map (·.1))=true then some (V.str (one c)) else none)=((flagsT.cps.toList.filter λc=>decide (c∈A.map (·.1))).map one).map V.str:=by
             rw [show (Str.ofString "abcdefghijklmnopqrstuvw1234")=flagsT from rfl]
             generalize flagsT.cps.toList=L
             induction L with
             | nil=>rfl
             | cons c r ih=>
               rw [Cr,Ep]
               by_cases hg:decide (c∈A.map (·.1))=true
               · rw [if_pos hg,if_pos hg,Ar,Ar,<-ih]
               · rw [if_neg hg,if_neg hg,<-ih]
           rw [ef] at hr9
           have eD9:=s9 _ _ eu
           walk_at "go"
           refine ⟨by show 2<=sizeLine; decide,λea hea=>⟨ea,D,D2,_,_,rfl,aE,aI (aF hea _) (aM eD9),aI (aF hea _) (aM hr9),λdx l1 l2 H' frx hdx nde e1 e2 e3 e4 hl1 hl2=>⟨rfl,some dx,e1,?_⟩⟩⟩
           have n1:l1≠ea:=λz=>by rw [z,e1] at e3; cases e3
           have n2:l2≠ea:=λz=>by rw [z,e1] at e4; cases e4
           have go9:∀ b u,H9 b=some u->(del H' ea) b=some u:=λb u hu=>by
             have nb:b≠ea:=λz=>by rw [z,hea] at hu; cases hu
             rw [dQ nb]
             exact frx b u nb (by rw [aK nb]; exact hu)
           have hto:∀ b u,H b=some u->H9 b=some u:=λb u hu=>by
             refine s9 _ _ (su _ _ (fr7 b u (λz=>by rw [z,hac] at hu; cases hu) (λz=>?_) (λz=>?_) (s1 _ _ hu)))
             · have:=s1 _ _ hu
               rw [z,hal] at this
               cases this
             · have:=s1 _ _ hu
               rw [z,hah1] at this
               cases this
           refine qe dx l1 l2 rs _ _ (del H' ea) (λb u hu=>go9 _ _ (hto b u hu)) ((dQ nde).trans e2) ((dQ n1).trans e3) (hwu.keep λr w h=>go9 _ _ (s9 _ _ h)) ((dQ n2).trans e4) ?_ ?_ (none_of hto (by rw [aK n1] at hl1; exact hl1)) (none_of hto (by rw [aK n2] at hl2; exact hl2))
           · rw [hn0]
             refine cXP (l:=(wl cws).take i) (r:=(wl cws).drop (i + 1)) (fl:=fl) ?_ hk hL hmo hfw hask hct (λc hc=>?_)
             · have e:=List.take_append_drop (i + 1) (wl cws)
               rw [htk,List.append_assoc] at e
               exact e.symm
             · have:=List.filter_eq_nil_iff.mp hfr c hc
               rw [Bl] at this
               exact this
           · rw [hn0]
             refine ⟨i,m,first,hSt,ew,by rw [<-hfre,hfr],?_,?_⟩
             · rw [<-hAf]
             · rw [<-hAf]
     | cons f0 fr0=>
       rw [hfr] at eu
       rw [show (List.map V.str (List.map one (f0 :: fr0))).isEmpty=false from rfl]
       have hf0m:f0∈(A.map (·.1)).filter (λc=>decide (0 < aL fl c)):=by rw [hfr]; exact Al
       rw [Dp,Bl] at hf0m
       obtain ⟨hf0A,hf0p⟩:=hf0m
       obtain ⟨n1,hn1⟩:∃ n1,fl f0=some n1:=by
         cases e:fl f0 with
         | none=>rw [show aL fl f0=0 by unfold aL; rw [e]; rfl] at hf0p; omega
         | some n=>exact ⟨n,rfl⟩
       have hcn1:aL fl f0=n1:=by unfold aL; rw [hn1]; rfl
       have el7:=s67 _ _ el6
       have ea7:=s67 _ _ ea6
       have eh7:=s67 _ _ eh6
       have ec7:=s67 _ _ ec6
       have eD7:=s67 _ _ eu
       have wb7:WtsAt H7 bs (A.map (·.2)):=wb6.keep λr w h=>s67 _ _ h
       have hdl7:=jS el7
       have at0:atI (List.map V.str (List.map one (f0 :: fr0))) 0=some (V.str (one f0)):=dX (show (List.map V.str (List.map one (f0 :: fr0)))[0]?=some (V.str (one f0)) from rfl)
       walk_at "go"
       refine cJ (aM eD7) (v:=.str (one f0)) at0 ?_
       walk_at "go"
       refine kY (z:=one f0) (.inl el7) (by rw [lkl.val f0,hn1]; rfl) ?_
       walk_at "go"
       refine cJ (aM eD7) (v:=.str (one f0)) at0 ?_
       walk_at "go"
       refine eZ (z:=one f0) el7 (bC (by omega)) ?_
       have nDl:D≠al:=λz=>by rw [z] at hD4; rw [hD4] at el4; cases el4
       have npl:pa≠al:=λz=>by rw [z] at hpa; rw [hpa] at el4; cases el4
       have nhl:ah≠al:=Ne.symm nlh
       have ncl:ac≠al:=Ne.symm nla
       have el8:(upd H7 al (.dK (dJ kl2 (Sum.inr (one f0)) (V.int (n1 - 1))))) al=_:=aE
       have ea8:(upd H7 al (.dK (dJ kl2 (Sum.inr (one f0)) (V.int (n1 - 1))))) pa=_:=(aK npl).trans ea7
       have eh8:(upd H7 al (.dK (dJ kl2 (Sum.inr (one f0)) (V.int (n1 - 1))))) ah=_:=(aK nhl).trans eh7
       have ec8:(upd H7 al (.dK (dJ kl2 (Sum.inr (one f0)) (V.int (n1 - 1))))) ac=_:=(aK ncl).trans ec7
       have eD8:(upd H7 al (.dK (dJ kl2 (Sum.inr (one f0)) (V.int (n1 - 1))))) D=_:=(aK nDl).trans eD7
       have wb8:WtsAt (upd H7 al (.dK (dJ kl2 (Sum.inr (one f0)) (V.int (n1 - 1))))) bs (A.map (·.2)):=wb7.keep λr w h=>by
         rw [aK (λz=>by rw [z,el7] at h; cases h)]
         exact h
       have fr8:∀ p u,p≠ac->p≠al->p≠ah->H1 p=some u->(upd H7 al (.dK (dJ kl2 (Sum.inr (one f0)) (V.int (n1 - 1))))) p=some u:=λp u h1 h2 h3 hu=>by
         rw [aK h2]
         exact s67 _ _ (fr6 p u h1 h2 h3 hu)
       generalize upd H7 al (.dK (dJ kl2 (Sum.inr (one f0)) (V.int (n1 - 1))))=H8 at el8 ea8 eh8 ec8 eD8 wb8 fr8 ⊢
       walk_at "go"
       refine cJ (aM eD8) (v:=.str (one f0)) at0 ?_
       walk_at "go"
       refine ⟨pa,ah,cws,m,first,A,bs,f0,rfl,ea8,wb8,hask.toAsking,eh8,hmo.nd,hfn,hmc,hf0A,hml,λm' H9 fr9 eh9 hk9 hc9 hct9 hR9=>?_⟩
       walk_at "go"
       refine ⟨m',_,_,_,_,_,_,rfl,λp u h1 h2 h3 hu=>fr9 p u h3 (fr8 p u h1 h2 h3 hu),fr9 _ _ (Ne.symm nac) ec8,eh9,fr9 _ _ nlh el8,lkl.put f0 (n1 - 1),?_,?_,hc9,λc=>?_,.succ (c:=f0) hSt ew (by rw [<-hAf]; exact hask.nd) (by rw [<-hfre,hfr]; rfl) (by rw [<-hAf]; exact hR9)⟩
       · have hv:bX kl2 (Sum.inr (one f0))≠none:=by rw [lkl.val f0,hn1]; exact λz=>nomatch z
         have e:=Dq List.length (wX kl2 (Sum.inr (one f0)) (.int (n1 - 1)) hv)
         rw [Ab,Ab] at e
         omega
       · rw [hk9,hk,htk]
       · have h1:=hct c
         have h2:=hct9 c
         have h3:aL (λd=>if d=f0 then some (n1 - 1) else fl d) c=if c=f0 then n1 - 1 else aL fl c:=by
           show ((if c=f0 then some (n1 - 1) else fl c):Option Int).getD 0=_
           by_cases z:c=f0
           · rw [if_pos z,if_pos z]; rfl
           · rw [if_neg z,if_neg z]; rfl
         rw [h3]
         by_cases z:c=f0
         · subst z
           rw [if_pos rfl] at h2 ⊢
           omega
         · rw [if_neg z] at h2 ⊢
           omega
 · rintro σ H4 ⟨m,kl2,fl,v5,v6,v7,v8,rfl,fr,ec,eh,el4,lkl,l27,hk,hmc,hct,hSt⟩
   rw [kl,Bs] at hk
   rw [kl] at hSt
   have ec5:=oH (Hs:=H3) ec (λo v z=>by rw [ed3] at z; cases z)
   have eh5:=dR (Hs:=H3) eh (λo v z=>nomatch z)
   have sh5:Same H (unf H3 H4):=λb u hu=>by
     have h1:=s1 _ _ hu
     have h4:=fr b u (λz=>by rw [z,hac] at hu; cases hu) (λz=>by rw [z,hal] at h1; cases h1) (λz=>by rw [z,hah1] at h1; cases h1) h1
     by_cases hf:∃ o v,u=.frz o v
     · obtain ⟨o',v',rfl⟩:=hf
       exact kL h4 (s13 _ _ h1)
     · exact dR h4 λo v z=>hf ⟨o,v,z⟩
   unfold aX3
   dsimp only
   generalize unf H3 H4=H5 at ec5 eh5 sh5 ⊢
   have hml:m.length=(wl cws).length:=by rw [<-hk,Ab]
   have hnd:(m.map (·.1)).Nodup:=by rw [hk]; exact mZ cws cws.length
   walk_at "go"
   refine uR ec5 λo2=>?_
   have fz2:(upd H5 ac (.frz o2 (.dT (dU (wl cws) ds)))) ac=_:=aE
   have eh6:(upd H5 ac (.frz o2 (.dT (dU (wl cws) ds)))) ah=_:=(aK nac).trans eh5
   refine gQ (n:=(wl cws).length) (λD i ys Hc=>Same (upd H5 ac (.frz o2 (.dT (dU (wl cws) ds)))) Hc/\ys=(((m.take i).map (·.2)).map one).map V.str) (bC (by omega)) (λD hD=>⟨aF hD _,rfl⟩) (λD i ys Hc _ r h=>⟨r.1 _ _ fz2,by rw [kl]; exact h⟩) (λD ys Hc _ r=>⟨r.1 _ _ fz2,kl⟩) ?_ ?_
   · rintro D i2 ys Hc x H' A' B' hD hi2 ⟨sm,rfl⟩ hDc ⟨rfl,kv,bk,hkv,rfl,hbk⟩ hA' hB'
     have ew2:(wl cws)[i2]?=some (wl cws)[i2]:=Aa hi2
     have ekv:kv=(dH (wl cws)[i2],V.ref (ds[i2]'(by omega))):=by
       unfold dU at hkv
       rw [Fa,ew2,Aa (show i2 < ds.length by omega)] at hkv
       exact (Bi hkv).symm
     rw [ekv] at hbk
     have em:m[i2]?=some m[i2]:=Aa (by omega)
     have e1:m[i2].1=(wl cws)[i2]:=by
       have e0:(m.map (·.1))[i2]?=some (wl cws)[i2]:=by rw [hk]; exact ew2
       rw [Ah,em] at e0
       exact Bi e0
     have tk:m.take (i2 + 1)=m.take i2 ++ [m[i2]]:=by rw [Bc,em]; rfl
     rw [tk] at hA'
     replace hbk:H' bk=some (.tup ((dH m[i2].1).map kV)):=by rw [e1]; exact hbk
     have hval:bX (gU m) (dH m[i2].1)=some (.str (one m[i2].2)):=by
       have hm2:(m[i2].1,m[i2].2)∈m:=Ai em
       rw [kD,lV hnd hm2]
       rfl
     clear ekv hkv ew2 tk e1 em
     generalize m[i2]=mx at hbk hA' hval
     have ehc:=sm _ _ eh6
     walk_at "go"
     refine ⟨Wk.set rfl (Wk.refl _),?_⟩
     walk_at "go"
     refine zS (k:=dH mx.1) (.inl ehc) hbk hval ?_
     refine hA' _ _ hDc ⟨aW hD sm,?_⟩
     rw [Ak,Ak,Ak]
     rfl
   · rintro D ys Hc hD ⟨sm,rfl⟩ hDc _
     rw [<-hml,Bs] at hDc
     have su:=oX ec5 (λo v z=>nomatch z) sm
     have eu:=dR (Hs:=H5) hDc (λo v z=>nomatch z)
     generalize unf H5 Hc=H6 at su eu ⊢
     have s06:=sh5.trans su
     refine ⟨b,D,cws,m.map (·.2),rfl,aI s06 hb,aM eu,h8,h7,λr ps H7 hr s7 er hne hls=>?_⟩
     refine q r ps (m.map (·.2)) H7 (none_of s06 hr) (s06.trans s7) er hne (hls.older s06) (by rw [Ab,hml]) (λj w g hw hg=>?_) (λc=>?_) (by rw [hn0]; exact ⟨m,hSt,rfl⟩)
     · rw [<-hk,Ah] at hw
       rw [Ah] at hg
       cases em:m[j]? with
       | none=>rw [em] at hw; cases hw
       | some x=>
         rw [em] at hw hg
         cases hw
         cases hg
         exact hmc x.1 x.2 (Ai em)
     · rw [hn0]
       have h1:=hct c
       have h2:ctn (m.map (·.2)) c=ctm m c:=by
         unfold ctn ctm
         rw [List.countP_map]
         rfl
       rw [h2]
       omega
def CanH (n:Nat->Int) (cws:List (List Nat)):Prop:=∃ fs:List Nat,fs.length=(wl cws).length/\(∀ (j:Nat) w g,(wl cws)[j]?=some w->fs[j]?=some g->g∈chW cws w)/\∀ c,(ctn fs c:Int)<=n c
theorem aXV (x:Nat):∀ {F:List Nat},F.Nodup->(F.map λc=>if x=c then 1 else 0).sum=if x∈F then 1 else 0
 | [],_=>rfl
 | c :: r,h=>by
   have n1:=Bu.mp h
   rw [Ar,Cq,aXV x n1.2]
   by_cases e:x=c
   · subst e
     rw [if_pos rfl,if_neg n1.1,if_pos Al]
   · rw [if_neg e]
     by_cases m:x∈r
     · rw [if_pos m,if_pos (Am _ m)]
     · rw [if_neg m,if_neg λz=>(Az.mp z).elim e m]
theorem aQS (g h:Nat->Nat):∀ F:List Nat,(F.map λc=>g c + h c).sum=(F.map g).sum + (F.map h).sum
 | []=>rfl
 | c :: r=>by
   rw [Ar,Cq,aQS g h r,Ar,Cq,Ar,Cq]
   omega
theorem aQ4 {F:List Nat} (nd:F.Nodup):∀ fs:List Nat,(F.map (ctn fs)).sum=fs.countP λx=>decide (x∈F)
 | []=>by
   have:∀ F:List Nat,(F.map (ctn [])).sum=0:=λF=>by
     induction F with
     | nil=>rfl
     | cons c r ih=>rw [Ar,Cq,ih]; rfl
   rw [this]
   rfl
 | x :: r=>by
   have e:ctn (x :: r)=λc=>ctn r c + if x=c then 1 else 0:=by
     funext c
     unfold ctn
     rw [Dm]
     by_cases h:x=c
     · rw [if_pos h,if_pos (Au h)]
     · rw [if_neg h,if_neg (by rw [Bl]; exact h)]
   rw [e,aQS,aQ4 nd r,aXV x nd,Dm]
   by_cases h:x∈F
   · rw [if_pos h,if_pos (Au h)]
   · rw [if_neg h,if_neg (by rw [Bl]; exact h)]
theorem pU {α β:Type} {p:α->Bool} {q:β->Bool}:∀ (L:List α) (M:List β),L.length=M.length->(∀ (j:Nat) a b,L[j]?=some a->M[j]?=some b->p a=true->q b=true)->L.countP p<=M.countP q
 | [],_,_,_=>Ck _
 | a :: L,[],h,_=>by cases h
 | a :: L,b :: M,h,hpq=>by
   rw [Dm,Dm]
   have ih:=pU L M (by simpa using h) λj x y hx hy=>hpq (j + 1) x y hx hy
   have h0:=hpq 0 a b rfl rfl
   by_cases pa:p a=true
   · rw [if_pos pa,if_pos (h0 pa)]; omega
   · rw [if_neg pa]; omega
theorem xD {g h:Nat->Int} (e:∀ c,g c<=h c):∀ F:List Nat,(F.map g).sum<=(F.map h).sum
 | []=>Fz _
 | c :: r=>by
   rw [Ar,Cq,Ar,Cq]
   have:=xD e r
   have:=e c
   omega
theorem aXZ {W L:List Wt} (s:W.Sublist L):W.length<=L.countP λw=>decide (w∈W):=by
 have h:=s.countP_le (p:=λw=>decide (w∈W))
 have e:W.countP (λw=>decide (w∈W))=W.length:=List.countP_eq_length.mpr λw hw=>Au hw
 omega
theorem cQE {cws:List (List Nat)} {n:Nat->Int} {W:List Wt} {F:List Nat} (h:LackOk cws n W F):F.Nodup:=by
 obtain ⟨p,rfl⟩:=h.flags
 exact List.Nodup.sublist El (by decide)
theorem wC {cws:List (List Nat)} {n:Nat->Int} {W:List Wt} {F:List Nat} (h:LackOk cws n W F):¬ CanH n cws:=by
 rintro ⟨fs,hl,hch,hct⟩
 have h1:=aXZ h.sub
 have h2:((wl cws).countP λw=>decide (w∈W))<=fs.countP λx=>decide (x∈F):=pU _ _ hl.symm λj w g hw hg hp=>Au (h.all w (Ba hp) g (hch j w g hw hg))
 have h3:=aQ4 (cQE h) fs
 have h4:=xD hct F
 rw [mR (ctn fs) F] at h4
 have h5:=h.few
 omega
def pO:Sp:=λvs H Q _=>∃ (a b:Addr) (kvs:List (Key × V)) (f:Nat->Option Int) (cws:List (List Nat)),vs=[.ref a,.ref b]/\Rd H a (.dK kvs)/\Lk kvs f/\rdL H b=some ((cws.map bH).map V.str)/\cws.length<=8/\(∀ c∈cws,c.length<=7/\∀ d∈c,bL d)/\
 (CanH (aL (bA (aL f))) cws->∀ H',Same H H'->Q .non H')/\(∀ (t l1 l2:Addr) (rs:List Addr) (W:List Wt) (F:List Nat) (H':Hp),Same H H'->H t=none->H' t=some (.tup [.ref l1,.ref l2])->H' l1=some (.lst (rs.map V.ref))->WtsAt H' rs W->H' l2=some (.lst ((F.map one).map V.str))->LackOk cws (aL (bA (aL f))) W F->H l1=none->H l2=none->Q (.ref t) H')
theorem sc_lack_of:FnScope ["locker", "words", "lack"] ["locker", "words"] (aG gK):=⟨rfl,rfl,rfl,by decide +kernel,rfl,by decide +kernel,by decide +kernel⟩
theorem zL {Zw Zz Zx Zy:Addr} {f:Addr} {fd:FuncData} (F:Fun K "lack_of" "lack_of" gK f fd) (G:Gs K mg Zw Zz Zx Zy) (c_hang_all:uG P w K mg base 3 "hang_all" ["locker", "words"] (jV Zw)):FnOk P w K mg base CX0 4 f fd ["locker", "words"] pO:=by
 refine F.ok sc_lack_of (λvs H Q E h=>?_) (λcdv A outer s H vs Q E hr h=>?_)
 · obtain ⟨a,b,kvs,f,cws,rfl,_⟩:=h; rfl
 obtain ⟨a,b,kvs,f,cws,rfl,ha,lk,hb,h8,hL,q1,q2⟩:=h
 refine ⟨_,(@aD _ _ _ _ _ (cJU (i:=2) rfl rfl rfl sc_lack_of.nd rfl rfl rfl G.c_Lack (λpins R=>(@aH _ _ _ (cE (aXL c_hang_all (qJ rfl) hr (by decide) rfl (aA (mv 0) (aA (mv 1) aB)))))) (λpins ea=>(@aH _ _ _ (aS (oW (aA (wW (K:=K) rfl (mv 2) rfl) (aA (wW (K:=K) rfl (mv 2) rfl) aB))))))) (@aH _ _ _ (aS dC))),?_⟩
 walk_at "go"
 refine ⟨a,b,kvs,f,cws,rfl,ha,lk,hb,h8,hL,λrh ps fs H1 hrh s1 er hne hls hfl hch hct _=>?_,λdx l1 l2 rs W F H1 s1 ed el1 hwt el2 hlo _ hn1 hn2=>⟨G.m_Lack,λea hea=>?_⟩⟩
 · walk_at "go"
   exact q1 ⟨fs,hfl,hch,hct⟩ _ s1
 · have k2:=aF hea (qW ea (.ref Zw) (some dx))
   have e2:(upd H1 ea (qW ea (.ref Zw) (some dx))) ea=_:=aE
   have ed2:=k2 _ _ ed
   generalize upd H1 ea (qW ea (.ref Zw) (some dx))=H2 at k2 e2 ed2 ⊢
   walk_at "go"
   refine ⟨ea,Zw,dx,_,_,rfl,.inl e2,ed2,G.xx_Lack,G.xn_Lack_wants,rfl,?_⟩
   walk_at "go"
   refine ⟨ea,Zw,dx,_,_,rfl,.inl e2,ed2,G.xx_Lack,G.xn_Lack_flags,rfl,?_⟩
   walk_at "go"
   refine ⟨by show 2<=sizeLine; decide,λt ht=>?_⟩
   have s3:=k2.trans (aF ht (.tup [.ref l1,.ref l2]))
   exact q2 t l1 l2 rs W F _ (s1.trans s3) (none_of (s1.trans k2) ht) aE (s3 _ _ el1) ⟨hwt.1,λj p w hp hw=>s3 _ _ (hwt.2 j p w hp hw)⟩ (s3 _ _ el2) hlo hn1 hn2
theorem iV {ks:List Nat} {j:Nat} {x:V} (h:(ks.map λk=>V.int ((k:Nat):Int))[j]?=some x):∃ k,ks[j]?=some k/\x=.int ((k:Nat):Int):=by
 rw [Ah] at h
 cases e:ks[j]? with
 | none=>rw [e] at h; cases h
 | some k=>rw [e] at h; cases h; exact ⟨k,rfl,rfl⟩
def cK:List Nat->Nat->List (List Nat)
 | _,0=>[[]]
 | ks,m + 1=>(List.range ks.length).flatMap λj=>(cK (ks.drop (j + 1)) m).map λl=>ks.getD j 0 :: l
theorem iW (ks:List Nat):cK ks 0=[[]]:=by cases ks <;> rfl
theorem jF (ks:List Nat) (m:Nat):cK ks (m + 1)=(List.range ks.length).flatMap λj=>(cK (ks.drop (j + 1)) m).map λl=>ks.getD j 0 :: l:=by rw [cK]
theorem xK {x:Nat} {l:List Nat}:∀ {ks:List Nat},(x :: l).Sublist ks->∃ j,j < ks.length/\ks.getD j 0=x/\l.Sublist (ks.drop (j + 1))
 | [],h=>by cases h
 | k :: ks,h=>by
   rcases List.sublist_cons_iff.mp h with e | ⟨r,e,hr⟩
   · obtain ⟨j,h1,h2,h3⟩:=xK e
     exact ⟨j + 1,Nat.succ_lt_succ h1,h2,h3⟩
   · cases e
     exact ⟨0,Nat.succ_pos _,rfl,hr⟩
theorem mem_combs:∀ {m:Nat} {ks l:List Nat},l∈cK ks m ↔ l.Sublist ks/\l.length=m
 | 0,ks,l=>by
   rw [iW,As]
   constructor
   · rintro rfl
     exact ⟨List.nil_sublist _,rfl⟩
   · exact λh=>List.eq_nil_of_length_eq_zero h.2
 | m + 1,ks,l=>by
   rw [jF,Fm]
   constructor
   · rintro ⟨j,hj,hl⟩
     rw [Cb] at hj
     obtain ⟨l',h1,rfl⟩:=Bg.mp hl
     obtain ⟨h2,h3⟩:=mem_combs.mp h1
     refine ⟨?_,by rw [Be,h3]⟩
     have e:ks.getD j 0 :: ks.drop (j + 1)=ks.drop j:=by
       rw [Ac,Aa hj]
       exact (List.drop_eq_getElem_cons hj).symm
     have h4:(ks.getD j 0 :: l').Sublist (ks.getD j 0 :: ks.drop (j + 1)):=h2.cons_cons _
     rw [e] at h4
     exact h4.trans (List.drop_sublist _ _)
   · rintro ⟨h1,h2⟩
     cases l with
     | nil=>cases h2
     | cons x l=>
       obtain ⟨j,h3,h4,h5⟩:=xK h1
       exact ⟨j,List.mem_range.mpr h3,List.mem_map.mpr ⟨l,mem_combs.mpr ⟨h5,by simpa using h2⟩,by rw [h4]⟩⟩
theorem nD {α β:Type} (f:α->List β) (b:Nat):∀ (L:List α),(∀ x∈L,(f x).length<=b)->(L.flatMap f).length<=L.length * b
 | [],_=>Ck _
 | x :: r,h=>by
   rw [Fe,Aj,Be,Nat.succ_mul]
   have h1:=nD f b r λy hy=>h y (Am _ hy)
   have h2:=h x Al
   omega
theorem iH:∀ {m:Nat} {ks:List Nat},ks.length<=6->(cK ks m).length<=6 ^ m
 | 0,ks,_=>by rw [iW]; decide
 | m + 1,ks,h=>by
   rw [jF]
   refine Bf (nD _ (6 ^ m) _ λj _=>?_) ?_
   · rw [Ab]
     exact iH (by rw [Co]; omega)
   · rw [Bx,Nat.pow_succ,Nat.mul_comm]
     exact Nat.mul_le_mul_left _ h
theorem bZL (ks:List Nat) (j:Nat):(ks.map λk=>V.int ((k:Nat):Int)).drop j=((ks.drop j).map λk=>V.int ((k:Nat):Int)):=(List.map_drop ..).symm
theorem aZK {xs:List V} {k:Nat}:qV xs (some ((k:Nat):Int)) none=xs.drop k:=by
 unfold qV
 show (xs.drop (if ((k:Nat):Int) < 0 then (((k:Nat):Int) + (xs.length:Int)).toNat else min ((k:Nat):Int).toNat xs.length)).take (xs.length - (if ((k:Nat):Int) < 0 then (((k:Nat):Int) + (xs.length:Int)).toNat else min ((k:Nat):Int).toNat xs.length))=_
 rw [if_neg (by omega),Ei]
 by_cases h:k<=xs.length
 · rw [Nat.min_eq_left h,Bo (by rw [Co]; omega)]
 · rw [Gh (by omega),List.drop_length,List.take_nil,List.drop_eq_nil_of_le (by omega)]
def nA (ks:List Nat) (m i:Nat):List (List Nat):=(List.range i).flatMap λj=>(cK (ks.drop (j + 1)) m).map λl=>ks.getD j 0 :: l
theorem xL (ks:List Nat) (m i:Nat):nA ks m (i + 1)=nA ks m i ++ (cK (ks.drop (i + 1)) m).map λl=>ks.getD i 0 :: l:=by
 unfold nA
 rw [Ce,Dz,Fe,List.flatMap_nil,Bm]
theorem dJ2 {m:Nat} (h:m<=7):6 ^ m<=279936:=Bf (Nat.pow_le_pow_right (by decide) h) (by decide)
theorem aQC {ks:List Nat} {m i:Nat} (h:ks.length<=6):(nA ks m i).length<=i * 6 ^ m:=by
 have:=nD (λj=>(cK (ks.drop (j + 1)) m).map λl=>ks.getD j 0 :: l) (6 ^ m) (List.range i) λj _=>by
   rw [Ab]
   exact iH (by rw [Co]; omega)
 rwa [Bx] at this
theorem yB {ps:List Addr} {j:Nat} {x:V} (h:(ps.map V.ref)[j]?=some x):∃ p,ps[j]?=some p/\x=.ref p:=by
 rw [Ah] at h
 cases e:ps[j]? with
 | none=>rw [e] at h; cases h
 | some p=>rw [e] at h; cases h; exact ⟨p,rfl,rfl⟩
theorem yS (k:Nat) (L:List (List Nat)):(List.range L.length).map (λj=>V.int ((k:Nat):Int) :: ((L.getD j []).map λk=>V.int ((k:Nat):Int)))=(L.map λl=>k :: l).map λl=>(l.map λk=>V.int ((k:Nat):Int)):=by
 rw [Dc]
 have h:∀ n,n<=L.length->(List.range n).map (λj=>V.int ((k:Nat):Int) :: ((L.getD j []).map λk=>V.int ((k:Nat):Int)))=(L.take n).map ((λl=>(l.map λk=>V.int ((k:Nat):Int))) ∘ λl=>k :: l):=λn=>by
   induction n with
   | zero=>intro _; rfl
   | succ n ih=>
     intro hn
     have e:L[n]?=some L[n]:=Aa (by omega)
     rw [Ce,Ak,ih (by omega),Bc,e,Ak]
     refine Dq _ ?_
     show [V.int ((k:Nat):Int) :: ((L.getD n []).map λk=>V.int ((k:Nat):Int))]=[((k :: L[n]).map λk=>V.int ((k:Nat):Int))]
     rw [Ac,e]
     rfl
 have r:=h L.length (Ag _)
 rwa [Bs] at r
def cM (n:Nat):Sp:=λvs H Q _=>∃ (b:Addr) (ks:List Nat) (m:Nat),vs=[.ref b,.int ((m:Nat):Int)]/\rdL H b=some (ks.map λk=>V.int ((k:Nat):Int))/\ks.length<=6/\m < n/\m<=7/\
 ∀ (r:Addr) (ps:List Addr) (H':Hp),H r=none->Same H H'->H' r=some (.lst (ps.map V.ref))->Lsts H H' ps ((cK ks m).map λl=>(l.map λk=>V.int ((k:Nat):Int)))->(∀ p∈ps,p≠r)->Q (.ref r) H'
theorem mL:∀ vs H Q E,¬ cM 0 vs H Q E:=λvs H Q E ⟨_,_,_,_,_,_,h,_⟩=>Ey _ h
theorem sc_rising_lists:FnScope ["numbers", "many", "lists", "at", "number", "behind"] ["numbers", "many"] (aG cI):=⟨rfl,rfl,rfl,by decide +kernel,rfl,by decide +kernel,by decide +kernel⟩
theorem nY {Zw Zz Zx Zy:Addr} {f:Addr} {fd:FuncData} {d n:Nat} (F:Fun K "rising_lists" "rising_lists" cI f fd) (G:Gs K mg Zw Zz Zx Zy) (c_rising_lists:Cal P w K mg base (d + 1) "rising_lists" ["numbers", "many"] (cM n)):FnOk P w K mg base CX0 (d + 2) f fd ["numbers", "many"] (cM (n + 1)):=by
 refine F.ok sc_rising_lists (λvs H Q E h=>?_) (λcdv A outer s H vs Q E hr h=>?_)
 · obtain ⟨b,ks,m,rfl,_⟩:=h; rfl
 obtain ⟨b,ks,m,rfl,hb,h6,hmn,h7,q⟩:=h
 refine ⟨_,(@aD _ _ _ _ _ (cG (aY vX (mv 1) aJ (bF _)) (@aH _ _ _ (aS (bP (aA (bP aB) aB)))) bI) (@aD _ _ _ _ _ (@aO _ _ 2 _ _ _ _ sc_rising_lists.nd (by rfl) (by exact (Or.inl rfl)) (bP aB) (by rfl) (by first | exact Or.inl rfl | exact Or.inr rfl)) (@aD _ _ _ _ _ (bQ Ay rfl (uP rfl G.b_enumerate (aA (mv 0) aB)) (mJ (K:=K) (i:=3) (j:=4) (by rfl) (by rfl) sc_rising_lists.nd (by rfl) (by exact (Or.inl rfl)) (by exact Or.inl rfl) (by rfl) (by exact (Or.inr rfl)) (by exact Or.inl rfl)) (@aD _ _ _ _ _ (@aO _ _ 5 _ _ _ _ sc_rising_lists.nd (by rfl) (by exact (Or.inl rfl)) (aT c_rising_lists hr (Ag _) rfl (aA (xN dJQ (mv 0) (tU (aU cD (mv 3) aJ)) cXJ) (aA (aU jY (mv 1) aJ) aB))) (by rfl) (by first | exact Or.inl rfl | exact Or.inr rfl)) (@aH _ _ _ (cE (cX Bh Dt Du wB (mv 2) (aA (dD rfl (bW (mv 5)) (iE (N:=["rest", "number"]) ["numbers", "many", "lists", "at", "number", "behind"] (aG cI) [none,some 4] rfl rfl rfl (λx h=>cH h) (by decide +kernel)) (by decide +kernel) rfl (by decide +kernel) (λC s₀ H₀ ex=>(aP (i:=0) (show List.Nodup (["rest", "number"]:List Str) by decide +kernel) rfl (Or.inl rfl))) (λC s₀ H₀ ex=>jB) (λC s₀ H₀ ex=>(aU cD (bP (aA (mv 1) aB)) (mv 0)))) aB)))))) (@aH _ _ _ (aS (mv 2)))))),?_⟩
 cases m with
 | zero=>
   walk_at "go"
   rw [show decide (((0:Nat):Int)=0)=true from rfl]
   walk_at "go"
   refine ⟨by decide,λp hp=>?_⟩
   have s1:=aF hp (.lst [])
   have e1:(upd H p (.lst [])) p=some (.lst ((([]:List Nat)).map λk=>V.int ((k:Nat):Int))):=aE
   generalize upd H p (.lst [])=H1 at s1 e1 ⊢
   walk_at "go"
   refine ⟨by show 1<=sizeLine; decide,λr hr=>?_⟩
   have s2:=aF hr (.lst [.ref p])
   have npr:p≠r:=λz=>by rw [z,hr] at e1; cases e1
   refine q r [p] _ (none_of s1 hr) (s1.trans s2) aE ?_ (λz hz=>by rw [As.mp hz]; exact npr)
   rw [iW]
   exact Lsts.snoc (ps:=[]) (fs:=[]) .nil hp (s2 _ _ e1)
 | succ m=>
   have h6m:=dJ2 (m:=m + 1) h7
   rw [Nat.pow_succ] at h6m
   walk_at "go"
   rw [show decide (((m + 1:Nat):Int)=0)=false from Aw (by omega)]
   walk_at "go"
   refine ⟨by decide,λp hp=>?_⟩
   have s1:=aF hp (.lst [])
   have e1:(upd H p (.lst [])) p=some (.lst (([]:List Addr).map V.ref)):=aE
   generalize upd H p (.lst [])=H1 at s1 e1 ⊢
   have hb1:=aI s1 hb
   walk_at "go"
   refine aQU (xs:=(ks.map λk=>V.int ((k:Nat):Int))) (λi σ H'=>∃ (ps:List Addr) (v3 v4 v5:Option V),σ=[some (.ref b),some (.int ((m + 1:Nat):Int)),some (.ref p),v3,v4,v5]/\Same H H'/\H' p=some (.lst (ps.map V.ref))/\Lsts H H' ps ((nA ks m i).map λl=>(l.map λk=>V.int ((k:Nat):Int)))/\∀ z∈ps,z≠p)
     ⟨[],_,_,_,rfl,s1,e1,.nil,λz hz=>nomatch hz⟩ (λi σ H' _ ⟨_,_,_,_,_,e,_⟩=>aI e hb) ?_ ?_
   · rintro i x σ H2 pt hx ⟨ps,v3,v4,v5,rfl,s2,e2,ls,nd⟩ hpt
     obtain ⟨k,ek,rfl⟩:=iV hx
     have hi:i < ks.length:=(Ad.mp ek).1
     have hps:ps.length=(nA ks m i).length:=by rw [ls.1,Ab]
     have hpl:=aQC (m:=m) (i:=i) h6
     have hpl2:i * 6 ^ m<=5 * 6 ^ m:=Nat.mul_le_mul_right _ (by omega)
     have s3:=s2.trans (aF hpt (.tup [.int ((0 + i:Nat):Int),.int ((k:Nat):Int)]))
     have s23:=aF hpt (.tup [.int ((0 + i:Nat):Int),.int ((k:Nat):Int)])
     have et3:(upd H2 pt (.tup [.int ((0 + i:Nat):Int),.int ((k:Nat):Int)])) pt=some (.tup [.int ((0 + i:Nat):Int),.int ((k:Nat):Int)]):=aE
     generalize upd H2 pt (.tup [.int ((0 + i:Nat):Int),.int ((k:Nat):Int)])=H3 at s3 s23 et3 ⊢
     have hb3:=aI s3 hb
     have tt3:=iU et3
     walk_at "go"
     rw [show ((0 + i:Nat):Int) + 1=((i + 1:Nat):Int) by omega]
     intro ra hra
     rw [aZK,bZL]
     have s4:=aF hra (.lst ((ks.drop (i + 1)).map λk=>V.int ((k:Nat):Int)))
     have e4:rdL (upd H3 ra (.lst ((ks.drop (i + 1)).map λk=>V.int ((k:Nat):Int)))) ra=some ((ks.drop (i + 1)).map λk=>V.int ((k:Nat):Int)):=cC
     generalize upd H3 ra (.lst ((ks.drop (i + 1)).map λk=>V.int ((k:Nat):Int)))=H4 at s4 e4 ⊢
     have s24:=s23.trans s4
     walk_at "go"
     rw [show ((m + 1:Nat):Int) - 1=((m:Nat):Int) by omega]
     refine ⟨ra,ks.drop (i + 1),m,rfl,e4,by rw [Co]; omega,by omega,by omega,λrb qs H5 hrb s5 e5 lq nq=>?_⟩
     have s25:=s24.trans s5
     have rb5:=aM e5
     have rp5:=aM (s25 _ _ e2)
     have hqs:qs.length=(cK (ks.drop (i + 1)) m).length:=by rw [lq.1,Ab]
     have hql:(cK (ks.drop (i + 1)) m).length<=6 ^ m:=iH (by rw [Co]; omega)
     walk_at "go"
     refine bJ9 (λj=>V.int ((k:Nat):Int) :: (((cK (ks.drop (i + 1)) m).getD j []).map λk=>V.int ((k:Nat):Int))) rb5 (by rw [Ab,hqs]; exact Nat.lt_of_le_of_lt (Bf hql (Bf (Nat.le_mul_of_pos_right _ (by decide:0 < 6)) h6m)) (by decide)) (λj x Hc A B hx sm hA=>?_) (λD Hd us hD sd eD hul lu nu=>?_)
     · obtain ⟨u,eu,rfl⟩:=yB hx
       have hj:j < (cK (ks.drop (i + 1)) m).length:=by rw [<-hqs]; exact (Ad.mp eu).1
       obtain ⟨l,el⟩:∃ l,(cK (ks.drop (i + 1)) m)[j]?=some l:=⟨_,Aa hj⟩
       have hu:=sm _ _ (lq.2 j u (l.map λk=>V.int ((k:Nat):Int)) eu (by rw [Ah,el]; rfl)).2
       have hll:l.length=m:=(mem_combs.mp (Ai el)).2
       have hgl:(cK (ks.drop (i + 1)) m).getD j []=l:=by rw [Ac,el]; rfl
       rw [hgl] at hA
       walk_at "go"
       refine ⟨Wk.set rfl (Wk.refl _),?_⟩
       walk_at "go"
       refine ⟨by show 1<=sizeLine; decide,λp6 hp6=>?_⟩
       have s6:=aF hp6 (.lst [V.int ((k:Nat):Int)])
       have e6:(upd Hc p6 (.lst [V.int ((k:Nat):Int)])) p6=some (.lst [V.int ((k:Nat):Int)]):=aE
       have hu6:=s6 _ _ hu
       generalize upd Hc p6 (.lst [V.int ((k:Nat):Int)])=H6 at s6 e6 hu6 ⊢
       refine qC (bN e6) (bN hu6) (bU (by rw [Ab]; show 1 + _<=_; omega)) λp7 hp7=>?_
       exact hA p7 _ (none_of s6 hp7) (s6.trans (aF hp7 _)) aE
     · rw [Ab,hqs,yS] at lu
       rw [Ab] at hul
       have s2d:=s25.trans sd
       have e2d:=s2d _ _ e2
       have npD:∀ z∈us,z≠p:=λz hz zp=>by
         obtain ⟨g,_,h1,_⟩:=lu.mem hz
         rw [zp,s25 _ _ e2] at h1
         cases h1
       have hek:ks.getD i 0=k:=by rw [Ac,ek]; rfl
       walk_at "go"
       refine cX3 (bN e2d) (bN eD) (Bf (by rw [Ab,Ab,hps,hul,hqs]; omega:_<=279936) (by decide)) ?_
       walk_at "go"
       refine ⟨ps ++ us,_,_,_,rfl,aW hp (s2.trans s2d),by rw [Ak]; exact aE,?_,λz hz=>?_⟩
       · rw [xL,Ak,hek]
         refine Lsts.put ?_ λz hz=>?_
         · exact (ls.keep s2d).app (lu.older (s2.trans s25))
         · rcases Bj.mp hz with e | e
           · exact nd z e
           · exact npD z e
       · rcases Bj.mp hz with e | e
         · exact nd z e
         · exact npD z e
   · rintro σ H2 ⟨ps,v3,v4,v5,rfl,s2,e2,ls,nd⟩
     walk_at "go"
     refine q p ps H2 hp s2 e2 ?_ nd
     rw [jF]
     rw [Ab] at ls
     exact ls
theorem aQK {α:Type} (F:α->V):∀ xs:List α,(List.range xs.length).filterMap (λj=>(xs[j]?).map F)=xs.map F:=λxs=>by
 have h:∀ n,n<=xs.length->(List.range n).filterMap (λj=>(xs[j]?).map F)=(xs.take n).map F:=λn=>by
   induction n with
   | zero=>intro _; rfl
   | succ n ih=>
     intro hn
     have e:xs[n]?=some xs[n]:=Aa (by omega)
     rw [fN (y:=F xs[n]) (by rw [e]; rfl),ih (by omega),Bc,e,Ak]
     rfl
 have r:=h xs.length (Ag _)
 rw [Bs] at r
 exact r
def eQR:Option (List Nat)->Str
 | none=>⟨#[45]⟩
 | some cs=>bH cs
def HalV (H:Hp) (v:V):Option (List Nat)->Prop
 | none=>v=.non
 | some cs=>∃ p,v=.ref p/\H p=some (.lst ((cs.map one).map V.str))
def HalOk (hs:List (Option (List Nat))):Prop:=∀ cs,some cs∈hs->cF (cs.map one)=true
structure HalsAt (H:Hp) (vs:List V) (hs:List (Option (List Nat))):Prop where
 len:vs.length=hs.length
 val:∀ (j:Nat) v h,vs[j]?=some v->hs[j]?=some h->HalV H v h
theorem HalV.keep {H H':Hp} {v:V} {h:Option (List Nat)} (a:HalV H v h) (s:∀ p xs,H p=some (.lst xs)->v=.ref p->H' p=some (.lst xs)):HalV H' v h:=by
 cases h with
 | none=>exact a
 | some cs=>
   obtain ⟨p,e,hp⟩:=a
   exact ⟨p,e,s p _ hp e⟩
theorem HalsAt.keep {H H':Hp} {vs:List V} {hs:List (Option (List Nat))} (a:HalsAt H vs hs) (s:Same H H'):HalsAt H' vs hs:=⟨a.len,λj v h hv hh=>(a.val j v h hv hh).keep λp xs hp _=>s _ _ hp⟩
theorem HalsAt.nil {H:Hp}:HalsAt H [] []:=⟨rfl,λj v h hv=>nomatch hv⟩
theorem HalsAt.snoc {H:Hp} {vs:List V} {hs:List (Option (List Nat))} {v:V} {h:Option (List Nat)} (a:HalsAt H vs hs) (b:HalV H v h):HalsAt H (vs ++ [v]) (hs ++ [h]):=by
 refine ⟨by rw [Aj,Aj,a.len]; rfl,λj x g hx hg=>?_⟩
 by_cases hj:j < vs.length
 · rw [Ap hj] at hx
   rw [Ap (by rw [<-a.len]; exact hj)] at hg
   exact a.val j x g hx hg
 · have e:j=vs.length:=by
     have:=(Ad.mp hx).1
     rw [Aj] at this
     have:j < vs.length + 1:=this
     omega
   subst e
   rw [Av (Ag _),Fn] at hx
   rw [a.len,Av (Ag _),Fn] at hg
   cases hx
   cases hg
   exact b
theorem HalV.ne {H:Hp} {r:Addr} {vs:List V} {h:Option (List Nat)} {j:Nat} {v:V} (hr:H r=some (.lst vs)) (hj:vs[j]?=some v) (a:HalV H v h):v≠.ref r:=λz=>by
 cases h with
 | none=>rw [show v=.non from a] at z; cases z
 | some cs=>
   obtain ⟨p,e,hp⟩:=a
   rw [z] at e
   cases e
   rw [hr] at hp
   cases hp
   obtain ⟨u,_,hu⟩:=lF hj
   rw [z] at hu
   cases hu
theorem HalsAt.put {H:Hp} {r:Addr} {vs us:List V} {hs:List (Option (List Nat))} (hr:H r=some (.lst vs)) (a:HalsAt H vs hs):HalsAt (upd H r (.lst us)) vs hs:=⟨a.len,λj v h hv hh=>(a.val j v h hv hh).keep λp xs hp e=>by
 rw [aK (λz=>(a.val j v h hv hh).ne hr hv (by rw [<-z]; exact e))]
 exact hp⟩
theorem HalsAt.at {H:Hp} {vs:List V} {hs:List (Option (List Nat))} (a:HalsAt H vs hs) {j:Nat} {v:V} (hv:vs[j]?=some v):∃ h,hs[j]?=some h/\HalV H v h:=by
 have hj:j < hs.length:=by rw [<-a.len]; exact (Ad.mp hv).1
 exact ⟨hs[j],Aa hj,a.val j v _ hv (Aa hj)⟩
theorem vI {K:PySem.W.Frag} {g:TG} {tests:TT} {te:TE} {σ0:St} {H1:Hp} {Q:VK} {a:Addr} {xs:List V} {hs:List (Option (List Nat))} (ha:rdL H1 a=some xs) (hl:xs.length < sizeLine) (hx:xs.length=hs.length)
   (step:∀ (i:Nat) x h Hc (A:VK) (B:Hp->Prop),xs[i]?=some x->hs[i]?=some h->Same H1 Hc->(∀ v Hd,Same Hc Hd->HalV Hd v h->(∀ p,v=.ref p->Hc p=none)->A v Hd)->
     g x σ0 Hc λσ2 H2=>Wk σ0 σ2/\tests σ2 H2 λb H3=>if b=true then te σ2 H3 A else B H3)
   (fin:∀ D Hd vs,H1 D=none->Same H1 Hd->Hd D=some (.lst vs)->HalsAt Hd vs hs->(∀ p,V.ref p∈vs->H1 p=none)->Q (.ref D) Hd):eF g tests te σ0 Q (Itl K a) H1:=by
 refine gQ (n:=xs.length) (λD i ys Hc=>Same H1 Hc/\HalsAt Hc ys (hs.take i)/\∀ p,V.ref p∈ys->H1 p=none) hl (λD hD=>⟨aF hD _,.nil,λp hp=>nomatch hp⟩)
   (λD i ys Hc _ r h=>⟨xs,xs[i],bD (aI r.1 ha),by simp [h]⟩) (λD ys Hc _ r=>⟨xs,bD (aI r.1 ha),Nat.le_refl _⟩) ?_ ?_
 · rintro D i ys Hc x H' A B hD hi ⟨sm,at',fr⟩ hDc ⟨rfl,hz⟩ ha' hb
   have hi2:i < hs.length:=by omega
   have eh:hs[i]?=some hs[i]:=Aa hi2
   refine step i x hs[i] H' A B (hz xs (bD (aI sm ha))) eh sm (λv Hd sd hv hn=>?_)
   refine ha' _ _ (sd _ _ hDc) ⟨aW hD (sm.trans sd),?_,λp hp=>?_⟩
   · rw [Bc,eh]
     refine HalsAt.snoc ((at'.keep sd).put (sd _ _ hDc)) (hv.keep λp zs hp e=>?_)
     rw [aK (λz=>by have:=hn p e; rw [z,hDc] at this; cases this)]
     exact hp
   · rcases Bj.mp hp with e | e
     · exact fr p e
     · exact none_of sm (hn p (As.mp e).symm)
 · rintro D ys Hc hD ⟨sm,at',fr⟩ hDc _
   rw [hx,Bs] at at'
   exact fin D Hc ys hD sm hDc at' fr
theorem aJY {f:Nat->Option Int} (hf0:∀ c,0<=aL f c) (c:Nat):aL (bA (aL f)) c<=aL f c:=by
 show (bA (aL f) c).getD 0<=_
 unfold bA
 split
 · exact Fz _
 · exact hf0 c
theorem LackOk.plain {cws:List (List Nat)} {f:Nat->Option Int} {W:List Wt} {F:List Nat} (hf0:∀ c,0<=aL f c) (h:LackOk cws (aL (bA (aL f))) W F):LackOk cws (aL f) W F:=by
 refine ⟨h.sub,h.flags,h.all,?_⟩
 have e:F.map (aL f)=F.map (aL (bA (aL f))):=De λc hc=>by
   obtain ⟨p,hp⟩:=h.flags
   rw [hp] at hc
   exact (gL (flags_mem.mp (Dp.mp hc).1) (hf0 c)).symm
 rw [e]
 exact h.few
theorem jN {cws:List (List Nat)}:∀ i,i<=cws.length->(wlP cws i).length=fV cws i
 | 0,_=>rfl
 | i + 1,h=>by
   have e:cws[i]?=some cws[i]:=Aa (by omega)
   rw [jX,Aj,jN i (by omega),sP e]
   unfold lO
   rw [Ab,Bx,Ac,e]
   rfl
theorem dJG {cws:List (List Nat)} {i k:Nat} {cw:List Nat} (hi:cws[i]?=some cw) (hk:k < cw.length):(wl cws)[fV cws i + k]?=some (i,1 + k):=by
 have hil:=(Ad.mp hi).1
 have h:∀ n,i < n->n<=cws.length->(wlP cws n)[fV cws i + k]?=some (i,1 + k):=λn=>by
   induction n with
   | zero=>intro h; omega
   | succ n ih=>
     intro h1 h2
     rw [jX]
     by_cases hn:i=n
     · subst hn
       have e:=jN (cws:=cws) i (by omega)
       rw [Av (by omega),show fV cws i + k - (wlP cws i).length=k by omega]
       unfold lO
       rw [Ah,Ac,hi]
       show ((List.range cw.length)[k]?).map _=_
       rw [Fs hk]
       rfl
     · have r:=ih (by omega) (by omega)
       rw [Ap (Ad.mp r).1]
       exact r
 exact h cws.length hil (Ag _)
def Hg (cw h:List Nat):Prop:=h.length=cw.length/\∀ (k g:Nat),h[k]?=some g->g∈chs cw k
inductive Hgs:List (List Nat)->List (List Nat)->Prop
 | nil:Hgs [] []
 | cons {cw h:List Nat} {cws hs:List (List Nat)}:Hg cw h->Hgs cws hs->Hgs (cw :: cws) (h :: hs)
theorem Hgs.app {xs ys hs gs:List (List Nat)} (a:Hgs xs hs) (b:Hgs ys gs):Hgs (xs ++ ys) (hs ++ gs):=by
 induction a with
 | nil=>exact b
 | cons h _ ih=>exact .cons h ih
theorem Hgs.split:∀ {xs ys hs:List (List Nat)},Hgs (xs ++ ys) hs->∃ h1 h2,hs=h1 ++ h2/\Hgs xs h1/\Hgs ys h2
 | [],ys,hs,h=>⟨[],hs,rfl,.nil,h⟩
 | x :: xs,ys,_,.cons a b=>by
   obtain ⟨h1,h2,rfl,p,q⟩:=Hgs.split b
   exact ⟨_ :: h1,h2,rfl,.cons a p,q⟩
theorem oG (xs ys:List Nat) (c:Nat):ctn (xs ++ ys) c=ctn xs c + ctn ys c:=Fx
theorem tZ (xs ys:List (List Nat)) (c:Nat):ctn (xs ++ ys).flatten c=ctn xs.flatten c + ctn ys.flatten c:=by rw [List.flatten_append,oG]
theorem Hgs.sub {cws cws':List (List Nat)} (s:cws'.Sublist cws):∀ {hs:List (List Nat)},Hgs cws hs->∃ hs',Hgs cws' hs'/\∀ c,ctn hs'.flatten c<=ctn hs.flatten c:=by
 induction s with
 | slnil=>intro hs h; exact ⟨hs,h,λc=>Ag _⟩
 | cons a s ih=>
   rintro _ (_ | ⟨h1,h2⟩)
   obtain ⟨hs',p,q⟩:=ih h2
   exact ⟨hs',p,λc=>by rw [Ej,oG]; have:=q c; omega⟩
 | cons_cons a s ih=>
   rintro _ (_ | ⟨h1,h2⟩)
   obtain ⟨hs',p,q⟩:=ih h2
   exact ⟨_ :: hs',.cons h1 p,λc=>by rw [Ej,oG,Ej,oG]; have:=q c; omega⟩
def CanL (n:Nat->Int) (cws:List (List Nat)):Prop:=∃ hs,Hgs cws hs/\∀ c,(ctn hs.flatten c:Int)<=n c
theorem Hgs.len {cws hs:List (List Nat)} (h:Hgs cws hs):hs.length=cws.length:=by
 induction h with
 | nil=>rfl
 | cons _ _ ih=>rw [Be,Be,ih]
theorem bXE {cws:List (List Nat)} {j:Nat} {w:Wt}:∀ i,i<=cws.length->(wlP cws i)[j]?=some w->∃ (a k:Nat) (cw:List Nat),a < i/\cws[a]?=some cw/\k < cw.length/\w=(a,1 + k)/\j=fV cws a + k
 | 0,_,h=>by cases h
 | i + 1,hi,h=>by
   rw [jX] at h
   have hl:=jN (cws:=cws) i (by omega)
   by_cases hj:j < (wlP cws i).length
   · rw [Ap hj] at h
     obtain ⟨a,k,cw,p,q⟩:=bXE i (by omega) h
     exact ⟨a,k,cw,by omega,q⟩
   · rw [Av (by omega)] at h
     have e:cws[i]?=some cws[i]:=Aa (by omega)
     unfold lO at h
     rw [Ah,Ac,e] at h
     have hlt:j - (wlP cws i).length < (cws[i]).length:=by
       have hn:¬ (cws[i]).length<=j - (wlP cws i).length:=λz=>by
         rw [List.getElem?_eq_none (by rw [Bx]; exact z)] at h
         cases h
       omega
     refine ⟨i,j - (wlP cws i).length,cws[i],by omega,e,hlt,?_,by omega⟩
     rw [Fs (by exact hlt)] at h
     cases h
     rfl
theorem Hgs.at {cws hs:List (List Nat)} (h:Hgs cws hs):∀ {i:Nat} {cw:List Nat},cws[i]?=some cw->∃ g,hs[i]?=some g/\Hg cw g:=by
 induction h with
 | nil=>intro i cw e; cases e
 | cons a b ih=>
   intro i cw e
   cases i with
   | zero=>cases e; exact ⟨_,rfl,a⟩
   | succ i=>exact ih e
theorem Hgs.offsL {cws hs:List (List Nat)} (h:Hgs cws hs):∀ (i:Nat),(hs.take i).flatten.length=fV cws i:=by
 induction h with
 | nil=>intro i; cases i <;> rfl
 | cons a b ih=>
   intro i
   cases i with
   | zero=>rfl
   | succ i=>
     have:=ih i
     unfold fV at this ⊢
     rw [Fq,Ej,Aj,this,Fq,Ar,Cq,a.1]
theorem bJO {hs:List (List Nat)} {i k:Nat} {g:List Nat} (h:hs[i]?=some g) (hk:k < g.length):hs.flatten[(hs.take i).flatten.length + k]?=g[k]? := by
 have e:hs=hs.take i ++ (g :: hs.drop (i + 1)):=by
   obtain ⟨h1,h2⟩:=Ad.mp h
   rw [<-h2,<-List.drop_eq_getElem_cons h1,List.take_append_drop]
 have e2:hs.flatten=(hs.take i).flatten ++ (g ++ (hs.drop (i + 1)).flatten):=by
   have:=Dq List.flatten e
   rwa [List.flatten_append,Ej] at this
 rw [e2,Av (by omega),Eo,Ap hk]
theorem CanL.canH {n:Nat->Int} {cws:List (List Nat)} (h:CanL n cws):CanH n cws:=by
 obtain ⟨hs,hg,hc⟩:=h
 refine ⟨hs.flatten,?_,λj w g hw hf=>?_,hc⟩
 · have h1:=hg.offsL cws.length
   rw [show hs.take cws.length=hs from Bo (Nat.le_of_eq hg.len)] at h1
   rw [h1]
   exact (jN _ (Ag _)).symm
 · obtain ⟨a,k,cw,ha,hcw,hk,rfl,rfl⟩:=bXE cws.length (Ag _) hw
   obtain ⟨h,hh,hgh⟩:=hg.at hcw
   rw [<-hg.offsL a,bJO hh (by rw [hgh.1]; exact hk)] at hf
   unfold chW
   rw [Ac,hcw,show (a,1 + k).2 - 1=k by show 1 + k - 1=k; omega]
   exact hgh.2 k g hf
def lK:List (List Nat)->List Nat->List (List Nat)
 | [],_=>[]
 | cw :: r,fs=>fs.take cw.length :: lK r (fs.drop cw.length)
theorem kI:∀ {cws:List (List Nat)} {fs:List Nat},fs.length=(cws.map List.length).sum->(lK cws fs).flatten=fs
 | [],fs,h=>by rw [List.eq_nil_of_length_eq_zero h]; rfl
 | cw :: r,fs,h=>by
   rw [Ar,Cq] at h
   rw [lK,Ej,kI (by rw [Co]; omega),List.take_append_drop]
theorem xB:∀ {cws:List (List Nat)} {fs:List Nat},fs.length=(cws.map List.length).sum->(∀ (i k g:Nat) cw,cws[i]?=some cw->k < cw.length->fs[fV cws i + k]?=some g->g∈chs cw k)->Hgs cws (lK cws fs)
 | [],fs,h,_=>.nil
 | cw :: r,fs,h,hc=>by
   rw [Ar,Cq] at h
   refine .cons ⟨by rw [Bz]; omega,λk g hk=>?_⟩ (xB (by rw [Co]; omega) λi k g cw' hi hk hg=>?_)
   · have hkl:k < cw.length:=by
       have:=(Ad.mp hk).1
       rw [Bz] at this
       omega
     rw [List.getElem?_take,if_pos hkl] at hk
     exact hc 0 k g cw rfl hkl (by rw [show fV (cw :: r) 0=0 from rfl,Nat.zero_add]; exact hk)
   · refine hc (i + 1) k g cw' hi hk ?_
     rw [List.getElem?_drop] at hg
     rw [show fV (cw :: r) (i + 1)=cw.length + fV r i by unfold fV; rw [Fq,Ar,Cq],Nat.add_assoc]
     exact hg
theorem vF (cws:List (List Nat)):(wl cws).length=(cws.map List.length).sum:=by
 have h:=jN (cws:=cws) cws.length (Ag _)
 unfold fV at h
 rw [Bs] at h
 exact h
theorem zA {cws:List (List Nat)} {fs:List Nat} (hl:fs.length=(wl cws).length) (hch:∀ (j:Nat) w g,(wl cws)[j]?=some w->fs[j]?=some g->g∈chW cws w):Hgs cws (lK cws fs):=by
 refine xB (hl.trans (vF cws)) λi k g cw hi hk hg=>?_
 have h:=hch _ _ g (dJG hi hk) hg
 unfold chW at h
 rw [Ac,hi,show (i,1 + k).2 - 1=k by show 1 + k - 1=k; omega] at h
 exact h
theorem CanH.canL {n:Nat->Int} {cws:List (List Nat)} (h:CanH n cws):CanL n cws:=by
 obtain ⟨fs,hl,hch,hc⟩:=h
 exact ⟨lK cws fs,zA hl hch,by rw [kI (hl.trans (vF cws))]; exact hc⟩
theorem CanH.sub {n:Nat->Int} {cws cws':List (List Nat)} (h:CanH n cws) (s:cws'.Sublist cws):CanH n cws':=by
 obtain ⟨hs,hg,hc⟩:=h.canL
 obtain ⟨hs',p,q⟩:=hg.sub s
 exact CanL.canH ⟨hs',p,λc=>by have:=hc c; have:=q c; omega⟩
theorem CanH.nil {n:Nat->Int} (h:∀ c,0<=n c):CanH n []:=CanL.canH ⟨[],.nil,h⟩
theorem CanH.more {n m:Nat->Int} {cws cws':List (List Nat)} {fs:List Nat} (hl:fs.length=(wl cws).length) (hch:∀ (j:Nat) w g,(wl cws)[j]?=some w->fs[j]?=some g->g∈chW cws w) (h:CanH m cws') (e:∀ c,(ctn fs c:Int) + m c<=n c):CanH n (cws ++ cws'):=by
 obtain ⟨hs,hg,hc⟩:=h.canL
 refine CanL.canH ⟨_,(zA hl hch).app hg,λc=>?_⟩
 rw [tZ,kI (hl.trans (vF cws))]
 have:=e c
 have:=hc c
 omega
theorem HalsAt.get {H:Hp} {vs:List V} {hs:List (Option (List Nat))} (a:HalsAt H vs hs) {k:Nat} (hk:k < hs.length):∃ v,atI vs (k:Int)=some v/\vs[k]?=some v/\HalV H v (hs.getD k none):=by
 have hv:k < vs.length:=by rw [a.len]; exact hk
 refine ⟨vs[k],dX (Aa hv),Aa hv,?_⟩
 refine a.val k _ _ (Aa hv) ?_
 rw [Ac,Aa hk]
 rfl
def aV (hs:List (Option (List Nat))) (n:Nat):List Nat:=(List.range hs.length).filter λk=>(hs.getD k none).isSome && !decide (k=n)
theorem gE {hs:List (Option (List Nat))} {n k:Nat} (h:k∈aV hs n):k < hs.length/\(hs.getD k none).isSome=true/\k≠n:=by
 obtain ⟨h1,h2⟩:=Dp.mp h
 rw [Em,Bool.not_eq_true',decide_eq_false_iff_not] at h2
 exact ⟨Cb.mp h1,h2.1,h2.2⟩
theorem iQ {hs:List (Option (List Nat))} {n:Nat} (hn:n < hs.length):(aV hs n).length + 1<=hs.length:=by
 have h1:(aV hs n).Sublist ((List.range hs.length).filter λk=>!decide (k=n)):=by
   have e:aV hs n=((List.range hs.length).filter λk=>!decide (k=n)).filter λk=>(hs.getD k none).isSome:=by
     unfold aV
     rw [List.filter_filter]
   rw [e]
   exact El
 have h2:=h1.length_le
 have h3:=List.length_eq_countP_add_countP (p:=λk=>decide (k=n)) (l:=List.range hs.length)
 rw [Bx] at h3
 have h4:1<=(List.range hs.length).countP λk=>decide (k=n):=by
   refine List.countP_pos_iff.mpr ⟨n,Cb.mpr hn,Au rfl⟩
 have h5:((List.range hs.length).filter λk=>!decide (k=n)).length=(List.range hs.length).countP λk=>!decide (k=n):=Ew.symm
 have h6:((List.range hs.length).countP λa=>¬ (decide (a=n))=true)=(List.range hs.length).countP λk=>!decide (k=n):=by
   congr 1
   funext k
   cases decide (k=n) <;> rfl
 omega
def oth (hs:List (Option (List Nat))) (n:Nat) (i:Nat):Option V:=if ((hs.getD i none).isSome && !decide (i=n))=true then some (V.int ((i:Nat):Int)) else none
theorem bX3 (hs:List (Option (List Nat))) (n m:Nat):(List.range m).filterMap (oth hs n)=((List.range m).filter λk=>(hs.getD k none).isSome && !decide (k=n)).map λk=>V.int ((k:Nat):Int):=by
 induction List.range m with
 | nil=>rfl
 | cons a r ih=>
   by_cases h:((hs.getD a none).isSome && !decide (a=n))=true
   · rw [Dh (b:=V.int ((a:Nat):Int)) (by unfold oth; rw [if_pos h]),List.filter_cons_of_pos (p:=λk=>(hs.getD k none).isSome && !decide (k=n)) h,Ar,ih]
   · rw [Ds (by unfold oth; rw [if_neg h]),List.filter_cons_of_neg (p:=λk=>(hs.getD k none).isSome && !decide (k=n)) h,ih]
def kA:Sp:=λvs H Q _=>∃ (a:Addr) (us:List V) (hs:List (Option (List Nat))) (n:Nat),vs=[.ref a,.int ((n:Nat):Int)]/\rdL H a=some us/\HalsAt H us hs/\hs.length<=7/\
 ∀ (r:Addr) (H':Hp),H r=none->Same H H'->H' r=some (.lst ((aV hs n).map λk=>V.int ((k:Nat):Int)))->Q (.ref r) H'
theorem pF:FnScope ["halyards", "number"] ["halyards", "number"] (aG cN):=⟨rfl,rfl,rfl,by decide +kernel,rfl,by decide +kernel,by decide +kernel⟩
theorem qG {Zw Zz Zx Zy:Addr} {f:Addr} {fd:FuncData} (F:Fun K "others_hung" "others_hung" cN f fd) (G:Gs K mg Zw Zz Zx Zy)  : FnOk P w K mg base CX0 1 f fd ["halyards", "number"] kA:=by
 refine F.ok pF (λvs H Q E h=>?_) (λcdv A outer s H vs Q E hr h=>?_)
 · obtain ⟨a,us,hs,n,rfl,_⟩:=h; rfl
 obtain ⟨a,us,hs,n,rfl,ha,hat,h7,q⟩:=h
 refine ⟨_,(@aH _ _ _ (aS (dD rfl (uP rfl G.b_enumerate (aA (mv 0) aB)) (iE (N:=["other", "hoist", "number"]) ["halyards", "number"] (aG cN) [none,none,some 1] rfl rfl rfl (λx h=>cH h) (by decide +kernel)) (by decide +kernel) rfl (by decide +kernel) (λC s₀ H₀ ex=>(mJ (K:=K) (i:=0) (j:=1) (by rfl) (by rfl) (show List.Nodup (["other", "hoist", "number"]:List Str) by decide +kernel) (by rfl) (by exact Or.inl rfl) (by exact Or.inr rfl) (by rfl) (by exact Or.inl rfl) (by exact Or.inr rfl))) (λC s₀ H₀ ex=>(jD (PW.pt (uV (aY pG (mv 1) dC (bF _)) (oO (aY zD (mv 0) (mv 2) (bF _))))))) (λC s₀ H₀ ex=>(mv 0))))),?_⟩
 have hul:=hat.len
 walk_at "go"
 refine bXV (xs:=us) (oth hs n) ha (bC (by omega)) (λi x Hc p A B hx sm hp hA hB=>?_) (λD Hd hD sD hd=>?_)
 · have hi:i < hs.length:=by rw [<-hul]; exact (Ad.mp hx).1
   have hv:=hat.val i x (hs.getD i none) hx (by rw [Ac,Aa hi]; rfl)
   have tp:lC (upd Hc p (.tup [.int ((0 + i:Nat):Int),x])) p=some [.int ((0 + i:Nat):Int),x]:=mW
   rw [Nat.zero_add] at tp hA hB ⊢
   walk_at "go"
   refine ⟨Wk.set rfl (Wk.set rfl (Wk.refl _)),?_⟩
   walk_at "go"
   cases eh:hs.getD i none with
   | none=>
     rw [eh] at hv
     obtain rfl:x=V.non:=hv
     rw [show decide (V.non=V.non)=true from rfl]
     walk_at "go"
     exact hB (by unfold oth; rw [eh]; rfl) _ (Same.refl _)
   | some cs=>
     rw [eh] at hv
     obtain ⟨pc,rfl,_⟩:=hv
     rw [show decide (V.ref pc=V.non)=false from Aw (λz=>nomatch z)]
     walk_at "go"
     by_cases hn:i=n
     · rw [Au (show ((i:Nat):Int)=((n:Nat):Int) by omega)]
       exact hB (by unfold oth; rw [eh,Au hn]; rfl) _ (Same.refl _)
     · rw [Aw (show ¬ ((i:Nat):Int)=((n:Nat):Int) by omega)]
       walk_at "go"
       exact hA _ (by unfold oth; rw [eh,Aw hn]; rfl) _ (Same.refl _)
 · rw [hul,bX3] at hd
   exact q D Hd hD sD hd
def aX (hs:List (Option (List Nat))) (ks:List Nat):List Nat:=ks.flatMap λk=>(hs.getD k none).getD []
theorem kJ (hs:List (Option (List Nat))) (A B:List Nat):aX hs (A ++ B)=aX hs A ++ aX hs B:=Dz ..
theorem sF {hs:List (Option (List Nat))} (ok:HalOk hs) (k:Nat):((hs.getD k none).getD []).length<=7:=by
 cases e:hs[k]? with
 | none=>rw [Ac,e]; exact Ck _
 | some h=>
   rw [Ac,e]
   cases h with
   | none=>exact Ck _
   | some cs=>
     have:=eQ (ok cs (Ai e))
     rw [Ab] at this
     exact this.2
theorem iJ {hs:List (Option (List Nat))} (ok:HalOk hs):∀ ks:List Nat,(aX hs ks).length<=7 * ks.length
 | []=>Ck _
 | k :: r=>by
   show (((hs.getD k none).getD []) ++ aX hs r).length<=_
   rw [Aj,Be]
   have:=sF ok k
   have:=iJ ok r
   omega
def jU:Sp:=λvs H Q _=>∃ (a b:Addr) (us:List V) (hs:List (Option (List Nat))) (ks:List Nat),vs=[.ref a,.ref b]/\rdL H a=some us/\HalsAt H us hs/\HalOk hs/\rdL H b=some (ks.map λk=>V.int ((k:Nat):Int))/\ks.length<=7/\(∀ k∈ks,k < hs.length)/\
 ∀ (r:Addr) (H':Hp),H r=none->Same H H'->H' r=some (.lst (((aX hs ks).map one).map V.str))->Q (.ref r) H'
theorem sc_flags_on:FnScope ["halyards", "numbers", "flags", "number"] ["halyards", "numbers"] (aG fI):=⟨rfl,rfl,rfl,by decide +kernel,rfl,by decide +kernel,by decide +kernel⟩
theorem vR {Zw Zz Zx Zy:Addr} {f:Addr} {fd:FuncData} (F:Fun K "flags_on" "flags_on" fI f fd) (G:Gs K mg Zw Zz Zx Zy)  : FnOk P w K mg base CX0 1 f fd ["halyards", "numbers"] jU:=by
 refine F.ok sc_flags_on (λvs H Q E h=>?_) (λcdv A outer s H vs Q E hr h=>?_)
 · obtain ⟨a,b,us,hs,ks,rfl,_⟩:=h; rfl
 obtain ⟨a,b,us,hs,ks,rfl,ha,hat,ok,hb,h7,hk,q⟩:=h
 refine ⟨_,(@aD _ _ _ _ _ (@aO _ _ 2 _ _ _ _ sc_flags_on.nd (by rfl) (by exact (Or.inl rfl)) (bP aB) (by rfl) (by first | exact Or.inl rfl | exact Or.inr rfl)) (@aD _ _ _ _ _ (bQ Ay rfl (bW (mv 1)) (aP (i:=3) sc_flags_on.nd rfl (Or.inl rfl)) (@aH _ _ _ (cG (aY pG (bE bS (mv 0) (mv 3) (λ_ _=>rfl)) dC (bF _)) (@aH _ _ _ (cE (cX Bh Dt Du wB (mv 2) (aA (bE bS (mv 0) (mv 3) (λ_ _=>rfl)) aB)))) bI))) (@aH _ _ _ (aS (mv 2))))),?_⟩
 walk_at "go"
 refine ⟨by decide,λp hp=>?_⟩
 have sp:=aF hp (.lst [])
 have hb1:=aI sp hb
 walk_at "go"
 refine cT (xs:=(ks.map λk=>V.int ((k:Nat):Int))) (λi σ H'=>∃ v,σ=[some (.ref a),some (.ref b),some (.ref p),v]/\Same H H'/\H' p=some (.lst (((aX hs (ks.take i)).map one).map V.str)))
   ⟨_,rfl,sp,aE⟩ (λi σ H' _ ⟨_,_,e,_⟩=>aI e hb) ?_ ?_
 · rintro i x σ H2 hx ⟨v,rfl,s2,e2⟩
   obtain ⟨k,hki,rfl⟩:=iV hx
   have hkl:=hk k (Ai hki)
   obtain ⟨u,au,_,hv⟩:=(hat.keep s2).get hkl
   have r2:=aI s2 ha
   have ft:aX hs (ks.take (i + 1))=aX hs (ks.take i) ++ (hs.getD k none).getD []:=by
     rw [Bc,hki,kJ]
     show _ ++ (_ ++ [])=_
     rw [Bm]
   walk_at "go"
   refine cJ r2 au ?_
   walk_at "go"
   cases eh:hs.getD k none with
   | none=>
     rw [eh] at hv ft
     rw [show u=.non from hv,show decide (V.non=V.non)=true from rfl]
     walk_at "go"
     exact ⟨_,rfl,s2,by rw [ft]; show _=some (HO.lst (((_ ++ []).map one).map V.str)); rw [Bm]; exact e2⟩
   | some cs=>
     have h7c:=sF ok k
     rw [eh] at hv ft h7c
     obtain ⟨pc,rfl,hpc⟩:=hv
     rw [show decide (V.ref pc=V.non)=false from Aw (λz=>nomatch z)]
     have m2:=bN e2
     have rc:=aM hpc
     have l2:=iJ ok (ks.take i)
     rw [Bz] at l2
     have hln:(((aX hs (ks.take i)).map one).map V.str).length + ((cs.map one).map V.str).length<=sizeLine:=bU (by rw [Ab,Ab,Ab,Ab]; have:cs.length<=7:=h7c; omega)
     walk_at "go"
     refine cJ r2 au ?_
     walk_at "go"
     refine ⟨_,rfl,aW hp s2,?_⟩
     rw [aE,ft,Ak,Ak]
     rfl
 · rintro σ H2 ⟨v,rfl,s2,e2⟩
   rw [Bo (by rw [Ab]; exact Ag _)] at e2
   walk_at "go"
   exact q p H2 hp s2 e2
theorem zI {os:List Nat} {m:Nat} (h:os.length < m):cK os m=[]:=by
 cases e:cK os m with
 | nil=>rfl
 | cons l r=>
   have:=mem_combs.mp (show l∈cK os m by rw [e]; exact Al)
   have h2:=this.1.length_le
   omega
theorem qF:∀ os:List Nat,cK os os.length=[os]
 | []=>iW []
 | k :: r=>by
   rw [Be,jF,Be,List.range_succ_eq_map,Fe]
   have h1:((cK ((k :: r).drop (0 + 1)) r.length).map λl=>(k :: r).getD 0 0 :: l)=[k :: r]:=by
     show ((cK r r.length).map λl=>k :: l)=_
     rw [qF r]
     rfl
   rw [h1,List.flatMap_map]
   have h2:((List.range r.length).flatMap λj=>(cK ((k :: r).drop (j.succ + 1)) r.length).map λl=>(k :: r).getD j.succ 0 :: l)=[]:=by
     rw [List.flatMap_eq_nil_iff]
     intro j hj
     rw [zI (by rw [Co,Be]; have:=Cb.mp hj; omega)]
     rfl
   rw [h2]
   rfl
def dB (os:List Nat):List (List Nat):=(List.range (os.length + 1)).flatMap λm=>cK os m
def nQ (os:List Nat) (i:Nat):List (List Nat):=(List.range i).flatMap λm=>cK os m
theorem kX (os:List Nat) (i:Nat):nQ os (i + 1)=nQ os i ++ cK os i:=by
 unfold nQ
 rw [Ce,Dz]
 congr 1
 show cK os i ++ []=_
 rw [Bm]
theorem mem_sets {os l:List Nat}:l∈dB os ↔ l.Sublist os:=by
 unfold dB
 rw [Fm]
 constructor
 · rintro ⟨m,_,h⟩
   exact (mem_combs.mp h).1
 · intro h
   exact ⟨l.length,Cb.mpr (Nat.lt_succ_of_le h.length_le),mem_combs.mpr ⟨h,rfl⟩⟩
theorem mS {os:List Nat}:∀ {i:Nat},os.length<=6->i<=6->(nQ os i).length<=i * 6 ^ 5
 | 0,_,_=>Ck _
 | i + 1,h,hi=>by
   rw [kX,Aj,Nat.succ_mul]
   have h1:=mS (i:=i) h (by omega)
   have h2:(cK os i).length<=6 ^ 5:=Bf (iH h) (Nat.pow_le_pow_right (by decide) (by omega))
   omega
def qA:Sp:=λvs H Q _=>∃ (b:Addr) (os:List Nat),vs=[.ref b]/\rdL H b=some (os.map λk=>V.int ((k:Nat):Int))/\os.length<=5/\
 ∀ (r:Addr) (ps:List Addr) (H':Hp),H r=none->Same H H'->H' r=some (.lst (ps.map V.ref))->Lsts H H' ps ((dB os).map λl=>(l.map λk=>V.int ((k:Nat):Int)))->(∀ p∈ps,p≠r)->Q (.ref r) H'
theorem sc_sets_of:FnScope ["others", "sets", "many"] ["others"] (aG gJ):=⟨rfl,rfl,rfl,by decide +kernel,rfl,by decide +kernel,by decide +kernel⟩
theorem zJ {Zw Zz Zx Zy:Addr} {f:Addr} {fd:FuncData} (F:Fun K "sets_of" "sets_of" gJ f fd) (G:Gs K mg Zw Zz Zx Zy) (c_rising_lists:Cal P w K mg base 9 "rising_lists" ["numbers", "many"] (cM 8)):FnOk P w K mg base CX0 10 f fd ["others"] qA:=by
 refine F.ok sc_sets_of (λvs H Q E h=>?_) (λcdv A outer s H vs Q E hr h=>?_)
 · obtain ⟨b,os,rfl,_⟩:=h; rfl
 obtain ⟨b,os,rfl,hb,h5,q⟩:=h
 refine ⟨_,(@aD _ _ _ _ _ (@aO _ _ 1 _ _ _ _ sc_sets_of.nd (by rfl) (by exact (Or.inl rfl)) (bP aB) (by rfl) (by first | exact Or.inl rfl | exact Or.inr rfl)) (@aD _ _ _ _ _ (bQ Ay rfl (dP rfl G.b_range (aA (aU cD (aZ fB rfl G.b_len cP (aA (mv 0) aB)) aJ) aB)) (aP (i:=2) sc_sets_of.nd rfl (Or.inl rfl)) (@aH _ _ _ (cE (cX Bh Dt Du wB (mv 1) (aA (aT c_rising_lists hr (by decide) rfl (aA (mv 0) (aA (mv 2) aB))) aB))))) (@aH _ _ _ (aS (mv 1))))),?_⟩
 have hbl:((os.map λk=>V.int ((k:Nat):Int))).length=os.length:=Ab ..
 walk_at "go"
 refine ⟨by decide,λp hp=>?_⟩
 have s1:=aF hp (.lst [])
 have e1:(upd H p (.lst [])) p=some (.lst (([]:List Addr).map V.ref)):=aE
 generalize upd H p (.lst [])=H1 at s1 e1 ⊢
 have hb1:=aI s1 hb
 walk_at "go"
 rw [hbl]
 refine ⟨⟨by omega,by omega⟩,?_⟩
 refine fT (λi σ H'=>∃ (ps:List Addr) (v:Option V),σ=[some (.ref b),some (.ref p),v]/\Same H H'/\H' p=some (.lst (ps.map V.ref))/\Lsts H H' ps ((nQ os i).map λl=>(l.map λk=>V.int ((k:Nat):Int)))/\∀ z∈ps,z≠p)
   ⟨[],_,rfl,s1,e1,.nil,λz hz=>nomatch hz⟩ ?_ ?_
 · rintro i σ H2 hi ⟨ps,v,rfl,s2,e2,ls,nd⟩
   have hi6:i<=os.length:=by omega
   have hb2:=aI s2 hb
   have hps:ps.length=(nQ os i).length:=by rw [ls.1,Ab]
   have hpl:=mS (os:=os) (i:=i) (by omega) (by omega)
   walk_at "go"
   rw [show (0:Int) + (i:Int)=((i:Nat):Int) by omega]
   refine ⟨b,os,i,rfl,hb2,by omega,by omega,by omega,λrb qs H5 hrb s5 e5 lq nq=>?_⟩
   have hqs:qs.length=(cK os i).length:=by rw [lq.1,Ab]
   have hql:(cK os i).length<=6 ^ 5:=Bf (iH (by omega)) (Nat.pow_le_pow_right (by decide) (by omega))
   have e25:=s5 _ _ e2
   have m5:=bN e25
   have r5:=aM e5
   have hln:(ps.map V.ref).length + (qs.map V.ref).length<=sizeLine:=bU (by rw [Ab,Ab,hps,hqs]; omega)
   walk_at "go"
   have npq:∀ z∈qs,z≠p:=λz hz zp=>by
     obtain ⟨g,_,h1,_⟩:=lq.mem hz
     rw [zp,e2] at h1
     cases h1
   have nd2:∀ z∈ps ++ qs,z≠p:=λz hz=>(Bj.mp hz).elim (nd z) (npq z)
   refine ⟨ps ++ qs,_,rfl,aW hp (s2.trans s5),?_,?_,nd2⟩
   · rw [aE,Ak]
   · rw [kX,Ak]
     exact ((ls.keep s5).app (lq.older s2)).put nd2
 · rintro σ H2 ⟨ps,v,rfl,s2,e2,ls,nd⟩
   rw [show ((os.length:Int) + 1).toNat=os.length + 1 by omega] at ls
   walk_at "go"
   exact q p ps H2 hp s2 e2 ls nd
def bO (hs:List (Option (List Nat))) (cw ks:List Nat):List (List Nat):=cw :: ks.map λk=>rdC ((hs.getD k none).getD [])
theorem fL (ks:List Nat):((ks.map λk=>V.int ((k:Nat):Int))).length=ks.length:=Ab ..
def hX:Sp:=λvs H Q _=>∃ (a b:Addr) (us:List V) (hs:List (Option (List Nat))) (cw ks:List Nat),vs=[.ref a,.str (bH cw),.ref b]/\rdL H a=some us/\HalsAt H us hs/\HalOk hs/\rdL H b=some (ks.map λk=>V.int ((k:Nat):Int))/\ks.length<=7/\(∀ k∈ks,k < hs.length/\(hs.getD k none).isSome=true)/\
 ∀ (r:Addr) (H':Hp),H r=none->Same H H'->H' r=some (.lst (((bO hs cw ks).map bH).map V.str))->Q (.ref r) H'
theorem rH:FnScope ["halyards", "word", "lowered"] ["halyards", "word", "lowered"] (aG cW):=⟨rfl,rfl,rfl,by decide +kernel,rfl,by decide +kernel,by decide +kernel⟩
theorem rG {Zw Zz Zx Zy:Addr} {f:Addr} {fd:FuncData} (F:Fun K "words_with" "words_with" cW f fd) (G:Gs K mg Zw Zz Zx Zy) (c_read_of:uG P w K mg base 4 "read_of" ["flags"] (qK Zy)):FnOk P w K mg base CX0 5 f fd ["halyards", "word", "lowered"] hX:=by
 refine F.ok rH (λvs H Q E h=>?_) (λcdv A outer s H vs Q E hr h=>?_)
 · obtain ⟨a,b,us,hs,cw,ks,rfl,_⟩:=h; rfl
 obtain ⟨a,b,us,hs,cw,ks,rfl,ha,hat,ok,hb,h7,hk,q⟩:=h
 refine ⟨_,(@aH _ _ _ (aS (aU cD (bP (aA (mv 1) aB)) (dD rfl (bW (mv 2)) (iE (N:=["other", "halyards"]) ["halyards", "word", "lowered"] (aG cW) [none,some 0] rfl rfl rfl (λx h=>cH h) (by decide +kernel)) (by decide +kernel) rfl (by decide +kernel) (λC s₀ H₀ ex=>(aP (i:=0) (show List.Nodup (["other", "halyards"]:List Str) by decide +kernel) rfl (Or.inl rfl))) (λC s₀ H₀ ex=>jB) (λC s₀ H₀ ex=>(oP c_read_of aZ6 hr (by decide) rfl (aA (bE bS (mv 1) (mv 0) (λ_ _=>rfl)) aB))))))),?_⟩
 walk_at "go"
 refine ⟨by show 1<=sizeLine; decide,λp hp=>?_⟩
 have s1:=aF hp (.lst [V.str (bH cw)])
 have e1:(upd H p (.lst [V.str (bH cw)])) p=some (.lst [V.str (bH cw)]):=aE
 generalize upd H p (.lst [V.str (bH cw)])=H1 at s1 e1 ⊢
 have hb1:=aI s1 hb
 have ha1:=aI s1 ha
 walk_at "go"
 refine qB (xs:=(ks.map λk=>V.int ((k:Nat):Int))) (λj=>(ks[j]?).map λk=>V.str (bH (rdC ((hs.getD k none).getD [])))) hb1 (bC (by rw [fL]; omega)) (λj x Hc A B hx sm hA hB=>?_) (λD Hd hD sD hd=>?_)
 · obtain ⟨k,hki,rfl⟩:=iV hx
   obtain ⟨hkl,hks⟩:=hk k (Ai hki)
   obtain ⟨u,au,_,hv⟩:=(hat.keep (s1.trans sm)).get hkl
   have hA2:=hA (V.str (bH (rdC ((hs.getD k none).getD [])))) (by rw [hki]; rfl)
   have r2:=aI sm ha1
   cases eh:hs.getD k none with
   | none=>rw [eh] at hks; cases hks
   | some cs=>
     rw [eh] at hv hA2
     obtain ⟨pc,rfl,hpc⟩:=hv
     have hb:=ok cs (by
       rw [Ac,Aa hkl] at eh
       rw [<-show hs[k]=some cs from eh]
       exact Ca hkl)
     have h7c:=eQ hb
     walk_at "go"
     refine ⟨Wk.set rfl (Wk.refl _),?_⟩
     walk_at "go"
     refine cJ r2 au ?_
     walk_at "go"
     refine ⟨pc,cs.map one,rfl,aM hpc,by omega,bQG cs,λ_ H3 s3=>?_,λhf=>?_⟩
     · have e:bXB (cs.map one)=bH (rdC cs):=by unfold bXB; rw [aJO]
       rw [e]
       exact hA2 _ s3
     · rw [hb] at hf; cases hf
 · rw [fL,aQK,show ks.map (λk=>V.str (bH (rdC ((hs.getD k none).getD []))))=((ks.map λk=>rdC ((hs.getD k none).getD [])).map bH).map V.str by rw [Dc,Dc]; rfl] at hd
   refine qC (bN (sD _ _ e1)) (bN hd) (bU (by rw [Ab,Ab,Ab]; show 1 + _<=_; omega)) λr hr=>?_
   exact q r _ (none_of (s1.trans sD) hr) (s1.trans (sD.trans (aF hr _))) aE
def fW (f:Nat->Option Int) (hs:List (Option (List Nat))) (L:List Nat):Nat->Option Int:=bA λc=>aL f c + cnt (aX hs L) c
def tE (f:Nat->Option Int) (hs:List (Option (List Nat))) (L:List Nat) (c:Nat):Int:=aL (bA (aL (fW f hs L))) c
def aZM (f:Nat->Option Int) (hs:List (Option (List Nat))) (n:Nat) (cw ks:List Nat):Prop:=CanH (tE f hs (n :: ks)) (bO hs cw ks)
def PaperH (H:Hp) (f:Nat->Option Int) (hs:List (Option (List Nat))) (n:Nat) (cw ks:List Nat) (t:Addr):Prop:=∃ (c l1 l2:Addr) (rs:List Addr) (W:List Wt) (F:List Nat),H t=some (.tup [.ref c,.ref l1,.ref l2])/\H c=some (.lst (ks.map λk=>V.int ((k:Nat):Int)))/\H l1=some (.lst (rs.map V.ref))/\WtsAt H rs W/\H l2=some (.lst ((F.map one).map V.str))/\LackOk (bO hs cw ks) (tE f hs (n :: ks)) W F
theorem PaperH.keep {H H':Hp} {f:Nat->Option Int} {hs:List (Option (List Nat))} {n:Nat} {cw ks:List Nat} {t:Addr} (h:PaperH H f hs n cw ks t) (s:Same H H'):PaperH H' f hs n cw ks t:=by
 obtain ⟨c,l1,l2,rs,W,F,h1,h2,h3,h4,h5,h6⟩:=h
 exact ⟨c,l1,l2,rs,W,F,s _ _ h1,s _ _ h2,s _ _ h3,⟨h4.1,λj p w hp hw=>s _ _ (h4.2 j p w hp hw)⟩,s _ _ h5,h6⟩
theorem PaperH.put {H:Hp} {f:Nat->Option Int} {hs:List (Option (List Nat))} {n:Nat} {cw ks:List Nat} {t p:Addr} {o:HO} (h:PaperH H f hs n cw ks t) (h0:∀ c l1 l2,H t=some (.tup [.ref c,.ref l1,.ref l2])->c≠p/\l1≠p/\l2≠p) (hn:∀ xs,H p≠some (.tup xs)):PaperH (upd H p o) f hs n cw ks t:=by
 obtain ⟨c,l1,l2,rs,W,F,h1,h2,h3,h4,h5,h6⟩:=h
 obtain ⟨n1,n2,n3⟩:=h0 _ _ _ h1
 refine ⟨c,l1,l2,rs,W,F,?_,?_,?_,⟨h4.1,λj q w hq hw=>?_⟩,?_,h6⟩
 · rw [aK λz=>hn _ (by rw [<-z]; exact h1)]; exact h1
 · rw [aK n1]; exact h2
 · rw [aK n2]; exact h3
 · have e:=h4.2 j q w hq hw
   rw [aK λz=>hn _ (by rw [<-z]; exact e)]; exact e
 · rw [aK n3]; exact h5
def pP (f:Nat->Option Int) (hs:List (Option (List Nat))) (n:Nat) (cw ks:List Nat) (j:Nat):Prop:=(dB (aV hs n))[j]?=some ks/\aZM f hs n cw ks/\∀ (i:Nat) l,i < j->(dB (aV hs n))[i]?=some l->¬ aZM f hs n cw l
theorem cQG {cs:List Nat} (hb:cF (cs.map one)=true):∀ d∈rdC cs,bL d:=by
 have h:∀ i,i<=cs.length->∀ d∈rdC (cs.take i),bL d:=λi=>by
   induction i with
   | zero=>intro _ d hd; rw [Ec] at hd; cases hd
   | succ i ih=>
     intro hi d hd
     have hci:cs[i]?=some cs[i]:=Aa (by omega)
     have hrl:(rdC (cs.take i)).length=i:=jC (by omega)
     rw [mH hci] at hd
     obtain ⟨c,e1,e2,e3⟩:=iZ hb (i:=i) (z:=one cs[i]) (by rw [Ah,hci]; rfl)
     have ec:cs[i]=c:=one_inj.mp e1
     rcases Bj.mp hd with e | e
     · exact ih (by omega) d e
     · rw [As.mp e,ec]
       unfold stp
       rcases e3 with l | ⟨sb,lt⟩
       · rw [if_neg (hJ l)]; exact l
       · rw [if_pos sb,Ac,Aa (by omega)]
         exact ih (by omega) _ (Ca _)
 have r:=h cs.length (Ag _)
 rwa [Bs] at r
theorem xE {xs:List Addr} {u:Addr} (h:xs[xs.length - 1]?=some u):atI (xs.map V.ref) (-1)=some (.ref u):=by
 have hl:0 < xs.length:=by have:=(Ad.mp h).1; omega
 unfold atI
 rw [show ixN (xs.map V.ref).length (-1)=some (xs.length - 1) by
   rw [Ab]
   unfold ixN
   rw [if_neg (by omega),if_pos (by omega)]
   exact Dq some (by omega)]
 show (xs.map V.ref)[xs.length - 1]?=_
 rw [Ah,h]
 rfl
theorem aZB (os:List Nat):∃ A,dB os=A ++ [os]:=by
 refine ⟨nQ os os.length,?_⟩
 show nQ os (os.length + 1)=_
 rw [kX]
 congr 1
 exact qF os
def PapOk (H:Hp) (f:Nat->Option Int) (hs:List (Option (List Nat))) (n:Nat) (cw:List Nat) (p:Addr) (l:List Nat) (u:Addr):Prop:=PaperH H f hs n cw l u/\∀ c l1 l2,H u=some (.tup [.ref c,.ref l1,.ref l2])->c≠p/\l1≠p/\l2≠p
theorem PapOk.keep {H H':Hp} {f:Nat->Option Int} {hs:List (Option (List Nat))} {n:Nat} {cw:List Nat} {p:Addr} {l:List Nat} {u:Addr} (h:PapOk H f hs n cw p l u) (s:Same H H'):PapOk H' f hs n cw p l u:=by
 refine ⟨h.1.keep s,λc l1 l2 e=>?_⟩
 obtain ⟨c0,k1,k2,_,_,_,h1,_⟩:=h.1
 have:=s _ _ h1
 rw [this] at e
 cases e
 exact h.2 _ _ _ h1
theorem PapOk.put {H:Hp} {f:Nat->Option Int} {hs:List (Option (List Nat))} {n:Nat} {cw:List Nat} {p:Addr} {l:List Nat} {u:Addr} {xs ys:List V} (h:PapOk H f hs n cw p l u) (hp:H p=some (.lst xs)):PapOk (upd H p (.lst ys)) f hs n cw p l u:=by
 have hn:∀ zs,H p≠some (.tup zs):=λzs z=>by rw [hp] at z; cases z
 refine ⟨h.1.put h.2 hn,λc l1 l2 e=>?_⟩
 obtain ⟨c0,k1,k2,_,_,_,h1,_⟩:=h.1
 rw [aK λz=>hn _ (by rw [<-z]; exact h1)] at e
 exact h.2 _ _ _ e
theorem mM {hs:List (Option (List Nat))} {cw ks:List Nat} (ok:HalOk hs) (hc:cw.length<=7/\∀ d∈cw,bL d) (hk:∀ k∈ks,k < hs.length/\(hs.getD k none).isSome=true):∀ c∈bO hs cw ks,c.length<=7/\∀ d∈c,bL d:=λc hcm=>by
 rcases Az.mp hcm with e | e
 · rw [e]; exact hc
 · obtain ⟨k,hkm,rfl⟩:=Bg.mp e
   obtain ⟨hkl,hks⟩:=hk k hkm
   cases eh:hs.getD k none with
   | none=>rw [eh] at hks; cases hks
   | some cs=>
     have hb:=ok cs (by
       rw [Ac,Aa hkl] at eh
       rw [<-show hs[k]=some cs from eh]
       exact Ca hkl)
     have h7c:=eQ hb
     rw [Ab] at h7c
     refine ⟨by show (rdC cs).length<=7; rw [oJ]; exact h7c.2,?_⟩
     exact cQG hb
def lW (aC:Addr):Sp:=λvs H Q E=>∃ (a b:Addr) (kvs:List (Key × V)) (f:Nat->Option Int) (us:List V) (hs:List (Option (List Nat))) (n:Nat) (cw:List Nat),vs=[.ref a,.ref b,.int ((n:Nat):Int),.str (bH cw)]/\H a=some (.dK kvs)/\Lk kvs f/\(∀ c,0<=aL f c)/\rdL H b=some us/\HalsAt H us hs/\HalOk hs/\hs.length<=6/\n < hs.length/\cw.length<=7/\(∀ d∈cw,bL d)/\
 (∀ (t L p:Addr) (ts:List Addr) (ks:List Nat) (j:Nat) (H':Hp),Same H H'->H t=none->H' t=some (.tup [.ref L,.ref p])->H L=none->H' L=some (.lst (ks.map λk=>V.int ((k:Nat):Int)))->pP f hs n cw ks j->H p=none->H' p=some (.lst (ts.map V.ref))->ts.length=j->(∀ (i:Nat) u l,ts[i]?=some u->(dB (aV hs n))[i]?=some l->PaperH H' f hs n cw l u)->Q (.ref t) H')/\
 ((∀ l,l.Sublist (aV hs n)->¬ aZM f hs n cw l)->∀ (dx l1 l2:Addr) (rs:List Addr) (W:List Wt) (F:List Nat) (H':Hp),Same H H'->H' dx=some (xdO dx [("flags",.ref l2),("wants",.ref l1)])->H' l1=some (.lst (rs.map V.ref))->WtsAt H' rs W->H' l2=some (.lst ((F.map one).map V.str))->LackOk (bO hs cw (aV hs n)) (tE f hs (n :: aV hs n)) W F->H l1=none->H l2=none->E (.ref aC) (some dx) H')
theorem sc_least_set:FnScope ["locker", "halyards", "number", "word", "papers", "lowered", "more", "lack"] ["locker", "halyards", "number", "word"] (aG eO):=⟨rfl,rfl,rfl,by decide +kernel,rfl,by decide +kernel,by decide +kernel⟩
theorem uQ {Zw Zz Zx Zy:Addr} {f:Addr} {fd:FuncData} (F:Fun K "least_set" "least_set" eO f fd) (G:Gs K mg Zw Zz Zx Zy) (c_sets_of:Cal P w K mg base 10 "sets_of" ["others"] qA) (c_Lack_init:zO P w K mg base 1 Zw ["self", "wants", "flags"] (fY Zw)) (c_others_hung:Cal P w K mg base 1 "others_hung" ["halyards", "number"] kA) (c_put_in:Cal P w K mg base 2 "put_in" ["locker", "flags"] mP) (c_lack_of:Cal P w K mg base 4 "lack_of" ["locker", "words"] pO) (c_flags_on:Cal P w K mg base 1 "flags_on" ["halyards", "numbers"] jU) (c_words_with:Cal P w K mg base 5 "words_with" ["halyards", "word", "lowered"] hX):FnOk P w K mg base (CXr P w) 11 f fd ["locker", "halyards", "number", "word"] (lW Zw):=by
 refine F.okX sc_least_set (λvs H Q E h=>?_) (λcdv A outer s H vs Q E hr h=>?_)
 · obtain ⟨a,b,kvs,f,us,hs,n,cw,rfl,_⟩:=h; rfl
 obtain ⟨a,b,kvs,f,us,hs,n,cw,rfl,ha,lk,hf0,hb,hat,ok,h6,hn,hc7,hcL,q,qe⟩:=h
 refine ⟨_,(@aD _ _ _ _ _ (@aO _ _ 4 _ _ _ _ sc_least_set.nd (by rfl) (by exact (Or.inl rfl)) (bP aB) (by rfl) (by first | exact Or.inl rfl | exact Or.inr rfl)) (@aD _ _ _ _ _ (PS.nox (bQ Ay rfl (bW (aT c_sets_of hr (by decide) rfl (aA (aT c_others_hung hr (by decide) rfl (aA (mv 1) (aA (mv 2) aB))) aB))) (aP (i:=5) sc_least_set.nd rfl (Or.inl rfl)) (@aD _ _ _ _ _ (@aO _ _ 6 _ _ _ _ sc_least_set.nd (by rfl) (by exact (Or.inl rfl)) (aT c_put_in hr (by decide) rfl (aA (mv 0) (aA (aT c_flags_on hr (by decide) rfl (aA (mv 1) (aA (aU cD (bP (aA (mv 2) aB)) (mv 5)) aB))) aB))) (by rfl) (by first | exact Or.inl rfl | exact Or.inr rfl)) (@aD _ _ _ _ _ (@aO _ _ 7 _ _ _ _ sc_least_set.nd (by rfl) (by exact (Or.inl rfl)) (aT c_lack_of hr (by decide) rfl (aA (mv 6) (aA (aT c_words_with hr (by decide) rfl (aA (mv 1) (aA (mv 3) (aA (mv 5) aB)))) aB))) (by rfl) (by first | exact Or.inl rfl | exact Or.inr rfl)) (@aD _ _ _ _ _ (cG (aY rV (mv 7) dC (bF _)) (@aH _ _ _ (aS (oW (aA (mv 5) (aA (mv 4) aB))))) bI) (@aH _ _ _ (cE (cX Bh Cg Ci nR (mv 4) (aA (oW (aA (mv 5) (aA (bE bS (mv 7) aJ (λ_ _=>rfl)) (aA (bE bS (mv 7) aJ (λ_ _=>rfl)) aB)))) aB))))))))) (@aH _ _ _ (nH oM rfl rfl rfl G.c_Lack G.xm_Lack c_Lack_init hr (by decide) (aA (bE bS (bE bS (mv 4) (cZG cZK aJ) (λ_ _=>rfl)) aJ (λ_ _=>rfl)) (aA (bE bS (bE bS (mv 4) (cZG cZK aJ) (λ_ _=>rfl)) aJ (λ_ _=>rfl)) aB)))))),?_⟩
 have hol:=iQ hn
 walk_at "go"
 refine ⟨by decide,λp hp=>?_⟩
 have s1:=aF hp (.lst [])
 have e1:(upd H p (.lst [])) p=some (.lst (([]:List Addr).map V.ref)):=aE
 generalize upd H p (.lst [])=H1 at s1 e1 ⊢
 walk_at "go"
 refine ⟨b,us,hs,n,rfl,aI s1 hb,hat.keep s1,by omega,λro H2 hro s2 eo=>?_⟩
 walk_at "go"
 refine ⟨ro,aV hs n,rfl,aM eo,by omega,λrS ps H3 hrS s3 eS ls nd=>?_⟩
 have s13:=s2.trans s3
 walk_at "go"
 have hps:ps.length=(dB (aV hs n)).length:=by rw [ls.1,Ab]
 have hpl:(ps.map V.ref).length=(dB (aV hs n)).length:=by rw [Ab,hps]
 have hsl:(dB (aV hs n)).length<=6 * 6 ^ 5:=Bf (mS (i:=(aV hs n).length + 1) (by omega) (by omega)) (Nat.mul_le_mul_right _ (by omega))
 have e13:=s13 _ _ e1
 have s03:=s1.trans s13
 have lat:∀ (j:Nat) c l,ps[j]?=some c->(dB (aV hs n))[j]?=some l->H3 c=some (.lst (l.map λk=>V.int ((k:Nat):Int)))/\c≠p/\H c=none:=λj c l hc hl=>by
   obtain ⟨h1,h2⟩:=ls.2 j c (l.map λk=>V.int ((k:Nat):Int)) hc (by rw [Ah,hl]; rfl)
   exact ⟨h2,(λz=>by rw [z,s2 _ _ e1] at h1; cases h1),none_of (s1.trans s2) h1⟩
 have npS:rS≠p:=λz=>by rw [z,s2 _ _ e1] at hrS; cases hrS
 have hsub:∀ (j:Nat) l,(dB (aV hs n))[j]?=some l->l.Sublist (aV hs n):=λj l h=>mem_sets.mp (Ai h)
 refine cT (xs:=ps.map V.ref) (λi σ H'=>∃ (ts:List Addr) (v5 v6 v7:Option V),σ=[some (.ref a),some (.ref b),some (.int ((n:Nat):Int)),some (.str (bH cw)),some (.ref p),v5,v6,v7]/\Same H H'/\(∀ z u,z≠p->H3 z=some u->H' z=some u)/\H' p=some (.lst (ts.map V.ref))/\ts.length=i/\
     (∀ (j:Nat) u l,ts[j]?=some u->(dB (aV hs n))[j]?=some l->PapOk H' f hs n cw p l u)/\∀ (j:Nat) l,j < i->(dB (aV hs n))[j]?=some l->¬ aZM f hs n cw l)
   ⟨[],_,_,_,rfl,s03,λz u _ h=>h,e13,rfl,λj u l hu=>(nomatch hu),λj l hj=>absurd hj (Ey _)⟩ (λi σ H' _ ⟨_,_,_,_,_,_,fr,_⟩=>aM (fr _ _ npS eS)) ?_ ?_
 · rintro i x σ H4 hx ⟨ts,v5,v6,v7,rfl,s4,fr4,e4,htl,hpap,hno⟩
   have hi:i < (dB (aV hs n)).length:=by rw [<-hpl]; exact (Ad.mp hx).1
   obtain ⟨l,hl⟩:∃ l,(dB (aV hs n))[i]?=some l:=⟨_,Aa hi⟩
   obtain ⟨c,hc,rfl⟩:=yB hx
   obtain ⟨lc3,ncp,hcn⟩:=lat i c l hc hl
   have lc:=fr4 _ _ ncp lc3
   have hlk:∀ k∈l,k < hs.length/\(hs.getD k none).isSome=true:=λk hk=>by
     have:=gE ((hsub i l hl).subset hk)
     exact ⟨this.1,this.2.1⟩
   have hll:l.length<=5:=by have:=(hsub i l hl).length_le; omega
   have hb4:=aI s4 hb
   have hat4:=hat.keep s4
   walk_at "go"
   refine ⟨by show 1<=sizeLine; decide,λp5 hp5=>?_⟩
   have s5:=aF hp5 (.lst [V.int ((n:Nat):Int)])
   have e5:(upd H4 p5 (.lst [V.int ((n:Nat):Int)])) p5=some (.lst [V.int ((n:Nat):Int)]):=aE
   generalize upd H4 p5 (.lst [V.int ((n:Nat):Int)])=H5 at s5 e5 ⊢
   walk_at "go"
   refine qC (bN e5) (bN (s5 _ _ lc)) (bU (by rw [fL]; show 1 + _<=_; omega)) λp6 hp6=>?_
   have s6:=aF hp6 (.lst ((n :: l).map λk=>V.int ((k:Nat):Int)))
   have e6:rdL (upd H5 p6 (.lst ((n :: l).map λk=>V.int ((k:Nat):Int)))) p6=some ((n :: l).map λk=>V.int ((k:Nat):Int)):=cC
   change yU _ (upd H5 p6 (.lst ((n :: l).map λk=>V.int ((k:Nat):Int)))) _
   generalize upd H5 p6 (.lst ((n :: l).map λk=>V.int ((k:Nat):Int)))=H6 at s6 e6 ⊢
   have s46:=s5.trans s6
   walk_at "go"
   refine ⟨b,p6,us,hs,n :: l,rfl,aI s46 hb4,hat4.keep s46,ok,e6,by show l.length + 1<=7; omega,λk hk=>by rcases Az.mp hk with e | e; (· rw [e]; exact hn); (· exact (hlk k e).1),λr7 H7 hr7 s7 e7=>?_⟩
   have s47:=s46.trans s7
   have fl7:=iJ ok (n :: l)
   walk_at "go"
   refine ⟨a,r7,kvs,f,aX hs (n :: l),rfl,s47 _ _ (s4 _ _ ha),lk,hf0,aM e7,by rw [Be] at fl7; omega,λr8 kws H8 hr8 s8 e8 lk8=>?_⟩
   have s48:=s47.trans s8
   walk_at "go"
   refine ⟨b,c,us,hs,cw,l,rfl,aI s48 hb4,hat4.keep s48,ok,aM (s48 _ _ lc),by omega,hlk,λr9 H9 hr9 s9 e9=>?_⟩
   have s49:=s48.trans s9
   walk_at "go"
   refine ⟨r8,r9,kws,fW f hs (n :: l),bO hs cw l,rfl,.inl (s9 _ _ e8),lk8,aM e9,by unfold bO; rw [Be,Ab]; omega,mM ok ⟨hc7,hcL⟩ hlk,λhcan H10 s10=>?_,λt0 l1 l2 rs W F H10 s10 ht0 e10 el1 hwt el2 hlo hn1 hn2=>?_⟩
   · have s410:=s49.trans s10
     walk_at "go"
     rw [show decide (V.non=V.non)=true from rfl]
     walk_at "go"
     refine ⟨by show 2<=sizeLine; decide,λt ht=>?_⟩
     have s11:=s410.trans (aF ht (.tup [.ref c,.ref p]))
     exact q t c p ts l i _ (s4.trans s11) (none_of (s4.trans s410) ht) aE hcn (s11 _ _ lc) ⟨hl,hcan,hno⟩ hp (s11 _ _ e4) htl λj u l' hu hl'=>((hpap j u l' hu hl').1.keep s11)
   · have s410:=s49.trans s10
     have n1:l1≠p:=λz=>by rw [z,s49 _ _ e4] at hn1; cases hn1
     have n2:l2≠p:=λz=>by rw [z,s49 _ _ e4] at hn2; cases hn2
     have m10:=bN (s410 _ _ e4)
     have r10:=aM (s410 _ _ e4)
     have hln:(ts.map V.ref).length < sizeLine:=bC (by rw [Ab,htl]; omega)
     walk_at "go"
     rw [show decide (V.ref t0=V.non)=false from Aw (λz=>nomatch z)]
     walk_at "go"
     refine fQ e10 (v:=.ref l1) rfl ?_
     walk_at "go"
     refine fQ e10 (v:=.ref l2) rfl ?_
     walk_at "go"
     refine ⟨by show 3<=sizeLine; decide,λtp htp=>?_⟩
     have s11:=aF htp (.tup [.ref c,.ref l1,.ref l2])
     have e11:(upd H10 tp (.tup [.ref c,.ref l1,.ref l2])) tp=some (.tup [.ref c,.ref l1,.ref l2]):=aE
     generalize upd H10 tp (.tup [.ref c,.ref l1,.ref l2])=H11 at s11 e11 ⊢
     have s411:=s410.trans s11
     have ep:=s411 _ _ e4
     have m11:=bN ep
     walk_at "go"
     have pnew:PapOk H11 f hs n cw p l tp:=⟨⟨c,l1,l2,rs,W,F,e11,s411 _ _ lc,s11 _ _ el1,⟨hwt.1,λj q w hq hw=>s11 _ _ (hwt.2 j q w hq hw)⟩,s11 _ _ el2,hlo⟩,λc' k1 k2 e=>by rw [e11] at e; cases e; exact ⟨ncp,n1,n2⟩⟩
     refine ⟨ts ++ [tp],_,_,_,rfl,aW hp (s4.trans s411),λz u hz h=>by rw [aK hz]; exact s411 _ _ (fr4 z u hz h),by rw [aE,Ak]; rfl,by rw [Aj,htl]; rfl,λj u l' hu hl'=>?_,λj l' hj hl'=>?_⟩
     · by_cases hjl:j < ts.length
       · rw [Ap hjl] at hu
         exact ((hpap j u l' hu hl').keep s411).put ep
       · have ej:j=ts.length:=by
           have:=(Ad.mp hu).1
           rw [Aj] at this
           have:j < ts.length + 1:=this
           omega
         rw [ej,Av (Ag _),Fn] at hu
         cases hu
         rw [ej,htl,hl] at hl'
         cases hl'
         exact pnew.put ep
     · by_cases ej:j=i
       · rw [ej,hl] at hl'
         cases hl'
         exact wC hlo
       · exact hno j l' (by omega) hl'
 · rintro σ H4 ⟨ts,v5,v6,v7,rfl,s4,fr4,e4,htl,hpap,hno⟩
   rw [hpl] at htl hno
   obtain ⟨A0,hA0⟩:=aZB (aV hs n)
   have hlen:(dB (aV hs n)).length=A0.length + 1:=by rw [hA0,Aj]; rfl
   have hlast:(dB (aV hs n))[ts.length - 1]?=some (aV hs n):=by
     rw [htl,hlen,hA0,Nat.add_sub_cancel,Av (Ag _),Fn]
     rfl
   have hu:ts[ts.length - 1]?=some (ts[ts.length - 1]'(by omega)):=Aa (by omega)
   have hpp:=hpap _ _ _ hu hlast
   have au:=xE hu
   generalize ts[ts.length - 1]'(by omega)=u at hpp au
   obtain ⟨⟨c,l1,l2,rs,W,F,h1,h2,h3,h4,h5,h6⟩,_⟩:=hpp
   have r4:=aM e4
   walk_at "go"
   refine cJ r4 au ?_
   walk_at "go"
   refine fQ h1 (v:=.ref l1) rfl ?_
   walk_at "go"
   refine cJ r4 au ?_
   walk_at "go"
   refine fQ h1 (v:=.ref l2) rfl ?_
   walk_at "go"
   refine ⟨by show 2<=sizeLine; decide,λea hea=>⟨ea,l1,l2,_,_,rfl,aE,aI (aF hea _) (aM h3),aI (aF hea _) (aM h5),λdx k1 k2 H' frx hdx nde g1 g2 g3 g4 hk1 hk2=>⟨rfl,some dx,g1,?_⟩⟩⟩
   have n1:k1≠ea:=λz=>by rw [z,g1] at g3; cases g3
   have n2:k2≠ea:=λz=>by rw [z,g1] at g4; cases g4
   have go9:∀ b u,H4 b=some u->(del H' ea) b=some u:=λb u hu=>by
     have nb:b≠ea:=λz=>by rw [z,hea] at hu; cases hu
     rw [dQ nb]
     exact frx b u nb (by rw [aK nb]; exact hu)
   refine qe (λl hl=>?_) dx k1 k2 rs W F (del H' ea) (λb u hu=>go9 _ _ (s4 _ _ hu)) ((dQ nde).trans g2) ((dQ n1).trans g3) ⟨h4.1,λj q w hq hw=>go9 _ _ (h4.2 j q w hq hw)⟩ ((dQ n2).trans g4) h6 (none_of s4 (by rw [aK n1] at hk1; exact hk1)) (none_of s4 (by rw [aK n2] at hk2; exact hk2))
   obtain ⟨j,hj,ej⟩:=Cd.mp (mem_sets.mpr hl)
   exact hno j l hj (by rw [Aa hj,ej])
theorem wH:∀ {cws:List (List Nat)} {fs:List Nat} {i:Nat} {cw:List Nat},cws[i]?=some cw->(lK cws fs)[i]?=some ((fs.drop (fV cws i)).take cw.length)
 | [],_,i,_,h=>by cases h
 | c :: r,fs,0,cw,h=>by cases h; rfl
 | c :: r,fs,i + 1,cw,h=>by
   show (lK r (fs.drop c.length))[i]?=_
   rw [wH (show r[i]?=some cw from h),List.drop_drop]
   rfl
theorem cQT (cs:List Nat) (c:Nat):cnt cs c=(ctn cs c:Int):=by
 unfold cnt ctn
 refine Dq (λn:Nat=>(n:Int)) (List.countP_congr λx _=>?_)
 simp
theorem jW {α:Type} {p:List α->Prop} (h0:p []) (h1:∀ l a,p l->p (l ++ [a])):∀ l,p l:=λl=>by
 have h:∀ r:List α,p r.reverse:=λr=>by
   induction r with
   | nil=>exact h0
   | cons a r ih=>rw [List.reverse_cons]; exact h1 _ _ ih
 have:=h l.reverse
 rwa [List.reverse_reverse] at this
def eU (hs:List (Option (List Nat))) (zs:List (Nat × List Nat)):List (Option (List Nat)):=zs.foldl (λh z=>h.set z.1 (some z.2)) hs
theorem gM (hs:List (Option (List Nat))) (zs:List (Nat × List Nat)) (z:Nat × List Nat):eU hs (zs ++ [z])=(eU hs zs).set z.1 (some z.2):=by
 unfold eU
 rw [List.foldl_append]
 rfl
theorem fA (hs:List (Option (List Nat))):∀ zs:List (Nat × List Nat),(eU hs zs).length=hs.length:=λzs=>by
 refine jW (p:=λzs=>(eU hs zs).length=hs.length) rfl (λzs z ih=>?_) zs
 rw [gM,Ef,ih]
theorem pQ (hs:List (Option (List Nat))) {k:Nat}:∀ zs:List (Nat × List Nat),(∀ z∈zs,z.1≠k)->(eU hs zs).getD k none=hs.getD k none:=λzs=>by
 refine jW (p:=λzs=>(∀ z∈zs,z.1≠k)->(eU hs zs).getD k none=hs.getD k none) (λ_=>rfl) (λzs z ih=>?_) zs
 · intro h
   rw [gM,Ac,Cv (h z (Bd _ Al)),<-Ac]
   exact ih λy hy=>h y (Bt _ hy)
theorem aQ8 (hs:List (Option (List Nat))):∀ (zs:List (Nat × List Nat)),(zs.map (·.1)).Nodup->(∀ z∈zs,z.1 < hs.length)->∀ z∈zs,(eU hs zs).getD z.1 none=some z.2:=λzs=>by
 refine jW (p:=λzs=>(zs.map (·.1)).Nodup->(∀ z∈zs,z.1 < hs.length)->∀ z∈zs,(eU hs zs).getD z.1 none=some z.2) (λ_ _ z hz=>nomatch hz) (λzs y ih=>?_) zs
 · intro nd hl z hz
   rw [Ak,Ar,Gk] at nd
   rw [gM]
   rcases Bj.mp hz with e | e
   · have ne:y.1≠z.1:=λq=>(Cu.mp nd).2.2 z.1 (List.mem_map_of_mem e) y.1 Al q.symm
     rw [Ac,Cv ne,<-Ac]
     exact ih (Cu.mp nd).1 (λw hw=>hl w (Bt _ hw)) z e
   · rw [As.mp e,Ac,Da (by rw [fA]; exact hl y (Bd _ Al))]
     rfl
theorem aQR {hs:List (Option (List Nat))} (ok:HalOk hs):∀ zs:List (Nat × List Nat),(∀ z∈zs,cF (z.2.map one)=true)->HalOk (eU hs zs):=λzs=>by
 refine jW (p:=λzs=>(∀ z∈zs,cF (z.2.map one)=true)->HalOk (eU hs zs)) (λ_=>ok) (λzs z ih=>?_) zs
 intro h cs hcs
 rw [gM] at hcs
 rcases List.mem_or_eq_of_mem_set hcs with e | e
 · exact ih (λy hy=>h y (Bt _ hy)) cs e
 · cases e
   exact h z (Bd _ Al)
theorem xH {hs:List (Option (List Nat))}:∀ {L:List Nat} {gs:List (List Nat)},L.length=gs.length->(∀ z∈L.zip gs,hs.getD z.1 none=some z.2)->aX hs L=gs.flatten
 | [],[],_,_=>rfl
 | k :: L,g :: gs,hl,h=>by
   show ((hs.getD k none).getD []) ++ aX hs L=g ++ gs.flatten
   rw [show hs.getD k none=some g from h (k,g) List.mem_cons_self,xH (by simpa using hl) λz hz=>h z (List.mem_cons_of_mem _ hz)]
   rfl
 | [],_ :: _,hl,_=>by cases hl
 | _ :: _,[],hl,_=>by cases hl
theorem HalsAt.set {H:Hp} {vs:List V} {hs:List (Option (List Nat))} {k:Nat} {v:V} {h:Option (List Nat)} (a:HalsAt H vs hs) (b:HalV H v h):HalsAt H (vs.set k v) (hs.set k h):=by
 refine ⟨by rw [Ef,Ef,a.len],λj u g hu hg=>?_⟩
 by_cases e:k=j
 · subst e
   have h1:=(Ad.mp hu).1
   have h2:=(Ad.mp hg).1
   rw [Ef] at h1 h2
   rw [Da h1] at hu
   rw [Da h2] at hg
   cases hu
   cases hg
   exact b
 · rw [Cv e] at hu hg
   exact a.val j u g hu hg
theorem zW {H H':Hp} {p D:Addr} {xs:List V} (h:rdL H p=some xs) (n:p≠D) (fr:∀ z u,z≠D->H z=some u->H' z=some u):rdL H' p=some xs:=by
 refine aI (H:=λz=>if z=p then H z else none) (λz u e=>?_) ?_
 · dsimp only at e
   by_cases zp:z=p
   · rw [if_pos zp] at e; rw [zp] at e ⊢; exact fr p u n e
   · rw [if_neg zp] at e; cases e
 · unfold rdL at h ⊢
   dsimp only
   rw [if_pos rfl]
   exact h
theorem bJC {α β:Type} {L:List α} {M:List β} {i:Nat} {a:α} {b:β} (h1:L[i]?=some a) (h2:M[i]?=some b):(L.zip M).take (i + 1)=(L.zip M).take i ++ [(a,b)]:=by
 rw [Bc]
 congr 1
 have:(L.zip M)[i]?=some (a,b):=by rw [List.getElem?_zip_eq_some]; exact ⟨h1,h2⟩
 rw [this]
 rfl
theorem dJK {cw:List Nat} {k c:Nat} (hL:∀ d∈cw,bL d) (hk:k < cw.length) (h:c∈chs cw k):fP c:=by
 rcases ch_iff.mp h with e | ⟨m,_,h4,_,e⟩
 · left
   rw [e,Ac,Aa hk]
   exact hL _ (Ca hk)
 · right
   rw [e]
   unfold dF
   omega
theorem bZQ:∀ {cws gs:List (List Nat)},Hgs cws gs->(∀ c∈cws,1<=c.length/\c.length<=7/\∀ d∈c,bL d)->(∀ g∈gs,cF (g.map one)=true/\∀ c∈g,fP c)
 | _,_,.nil,_,g,hg=>nomatch hg
 | _,_,.cons (cw:=cw) (h:=h) a b,hW,g,hg=>by
   rcases Az.mp hg with e | e
   · rw [e]
     obtain ⟨h1,h7,hL⟩:=hW cw Al
     refine ⟨xT hL (by rw [a.1]; exact h1) (by rw [a.1]; exact h7) (by rw [a.1]; exact Ag _) λk hk=>?_,λc hc=>?_⟩
     · exact a.2 k _ (by rw [Ac,Aa hk]; rfl)
     · obtain ⟨k,hk,ek⟩:=Cd.mp hc
       exact dJK hL (by rw [<-a.1]; exact hk) (a.2 k c (by rw [Aa hk,ek]))
   · exact bZQ b (λc hc=>hW c (Am _ hc)) g e
theorem Hgs.lens:∀ {cws gs:List (List Nat)},Hgs cws gs->gs.length=cws.length
 | _,_,.nil=>rfl
 | _,_,.cons _ b=>by rw [Be,Be,b.lens]
theorem nM (f:Nat->Option Int) (hs:List (Option (List Nat))) (L:List Nat) (c:Nat):0<=aL (fW f hs L) c:=by
 show 0<=(bA _ c).getD 0
 unfold bA
 split
 · rename_i h; exact Int.le_of_lt h.2
 · exact Fz _
theorem tK (hs:List (Option (List Nat))) (n:Nat):(aV hs n).Nodup:=List.Nodup.sublist El List.nodup_range
theorem mQ {hs:List (Option (List Nat))} {n:Nat} {ks:List Nat} (h:ks.Sublist (aV hs n)):(n :: ks).Nodup:=Bu.mpr ⟨λz=>(gE (h.subset z)).2.2 rfl,(tK hs n).sublist h⟩
theorem oY {hs:List (Option (List Nat))} {cw ks:List Nat} (ok:HalOk hs) (h1:1<=cw.length) (hc:cw.length<=7/\∀ d∈cw,bL d) (hk:∀ k∈ks,k < hs.length/\(hs.getD k none).isSome=true):∀ c∈bO hs cw ks,1<=c.length/\c.length<=7/\∀ d∈c,bL d:=λc hcm=>by
 refine ⟨?_,mM ok hc hk c hcm⟩
 rcases Az.mp hcm with e | e
 · rw [e]; exact h1
 · obtain ⟨k,hkm,rfl⟩:=Bg.mp e
   obtain ⟨hkl,hks⟩:=hk k hkm
   cases eh:hs.getD k none with
   | none=>rw [eh] at hks; cases hks
   | some cs=>
     have hb:=ok cs (by
       rw [Ac,Aa hkl] at eh
       rw [<-show hs[k]=some cs from eh]
       exact Ca hkl)
     have h7c:=eQ hb
     rw [Ab] at h7c
     show 1<=(rdC cs).length
     rw [oJ]
     exact h7c.1
def lH (H:Hp) (a b:Addr) (kvs:List (Key × V)) (f:Nat->Option Int) (us:List V) (hs:List (Option (List Nat))) (n:Nat) (cw:List Nat):Prop:=H a=some (.dK kvs)/\Lk kvs f/\(∀ c,0<=aL f c)/\rdL H b=some us/\HalsAt H us hs/\HalOk hs/\hs.length<=6/\n < hs.length/\1<=cw.length/\cw.length<=7/\(∀ d∈cw,bL d)
def sI (aC:Addr):Sp:=λvs H Q E=>∃ (a b:Addr) (kvs:List (Key × V)) (f:Nat->Option Int) (us:List V) (hs:List (Option (List Nat))) (n:Nat) (cw:List Nat),vs=[.ref a,.ref b,.int ((n:Nat):Int),.str (bH cw)]/\lH H a b kvs f us hs n cw/\
 (∀ (t L B R:Addr) (ks:List Nat) (gs:List (List Nat)) (j:Nat) (vs':List V) (kws:List (Key × V)) (H':Hp),Same H H'->H t=none->H' t=some (.tup [.ref L,.ref B,.ref R])->H L=none->H' L=some (.lst (ks.map λk=>V.int ((k:Nat):Int)))->pP f hs n cw ks j->Hgs (bO hs cw ks) gs->(∀ c,cnt gs.flatten c<=aL (fW f hs (n :: ks)) c)->H B=none->H' B=some (.lst vs')->HalsAt H' vs' (eU hs ((n :: ks).zip gs))->H R=none->H' R=some (.dK kws)->Lk kws (bA λc=>aL (fW f hs (n :: ks)) c - cnt gs.flatten c)->(∀ p,V.ref p∈vs'->H p=none)->(∃ fs,HungIs (bO hs cw ks) (tE f hs (n :: ks)) fs/\gs=lK (bO hs cw ks) fs)->Q (.ref t) H')/\
 ((∀ l,l.Sublist (aV hs n)->¬ aZM f hs n cw l)->∀ (dx l1 l2:Addr) (rs:List Addr) (W:List Wt) (F:List Nat) (H':Hp),Same H H'->H' dx=some (xdO dx [("flags",.ref l2),("wants",.ref l1)])->H' l1=some (.lst (rs.map V.ref))->WtsAt H' rs W->H' l2=some (.lst ((F.map one).map V.str))->LackOk (bO hs cw (aV hs n)) (tE f hs (n :: aV hs n)) W F->H l1=none->H l2=none->E (.ref aC) (some dx) H')
theorem sc_hauled:FnScope ["locker", "halyards", "number", "word", "lowered", "rehung", "more", "behind", "at", "hoist"] ["locker", "halyards", "number", "word"] (aG iA):=⟨rfl,rfl,rfl,by decide +kernel,rfl,by decide +kernel,by decide +kernel⟩
theorem aJC {Zw Zz Zx Zy:Addr} {f:Addr} {fd:FuncData} (F:Fun K "hauled" "hauled" iA f fd) (G:Gs K mg Zw Zz Zx Zy) (c_put_in:Cal P w K mg base 2 "put_in" ["locker", "flags"] mP) (c_least_set:uG P w K mg base 11 "least_set" ["locker", "halyards", "number", "word"] (lW Zw)) (c_flags_on:Cal P w K mg base 1 "flags_on" ["halyards", "numbers"] jU) (c_hang_all:uG P w K mg base 3 "hang_all" ["locker", "words"] (jV Zw)) (c_taken:uG P w K mg base 3 "taken" ["locker", "flags"] (xR Zx)) (c_words_with:Cal P w K mg base 5 "words_with" ["halyards", "word", "lowered"] hX):FnOk P w K mg base (CXr P w) 12 f fd ["locker", "halyards", "number", "word"] (sI Zw):=by
 refine F.okX sc_hauled (λvs H Q E h=>?_) (λcdv A outer s H vs Q E hr h=>?_)
 · obtain ⟨a,b,kvs,f,us,hs,n,cw,rfl,_⟩:=h; rfl
 obtain ⟨a,b,kvs,f,us,hs,n,cw,rfl,⟨ha,lk,hf0,hb,hat,ok,h6,hn,hc1,hc7,hcL⟩,q,qe⟩:=h
 refine ⟨_,(@aD _ _ _ _ _ (@aO _ _ 4 _ _ _ _ sc_hauled.nd (by rfl) (by exact (Or.inl rfl)) (bE bS (oP c_least_set nJ hr (by decide) rfl (aA (mv 0) (aA (mv 1) (aA (mv 2) (aA (mv 3) aB))))) aJ (λ_ _=>rfl)) (by rfl) (by first | exact Or.inl rfl | exact Or.inr rfl)) (@aD _ _ _ _ _ (@aO _ _ 5 _ _ _ _ sc_hauled.nd (by rfl) (by exact (Or.inl rfl)) (aU cD (bP (aA (mv 2) aB)) (mv 4)) (by rfl) (by first | exact Or.inl rfl | exact Or.inr rfl)) (@aD _ _ _ _ _ (@aO _ _ 6 _ _ _ _ sc_hauled.nd (by rfl) (by exact (Or.inl rfl)) (aT c_put_in hr (by decide) rfl (aA (mv 0) (aA (aT c_flags_on hr (by decide) rfl (aA (mv 1) (aA (mv 5) aB))) aB))) (by rfl) (by first | exact Or.inl rfl | exact Or.inr rfl)) (@aD _ _ _ _ _ (oN (i:=7) sc_hauled.nd rfl (Or.inl rfl) rfl (bW (mv 1)) (wY (N:=["hoist"]) (by decide +kernel) (by decide +kernel)) (by decide +kernel) rfl (by decide +kernel) (λC s₀ H₀ ex=>(aP (i:=0) (show List.Nodup (["hoist"]:List Str) by decide +kernel) rfl (Or.inl rfl))) (λC s₀ H₀ ex=>jB) (λC s₀ H₀ ex=>(oU (aY rV (mv 0) dC (bF _)) dC (bK iP rfl G.b_list dE (aA (mv 0) aB))))) (@aD _ _ _ _ _ (bQ PassesOwn.leaving rfl (cJ9 rfl G.b_zip (aA (mv 5) (aA (oP c_hang_all nJ hr (by decide) rfl (aA (mv 6) (aA (aT c_words_with hr (by decide) rfl (aA (mv 1) (aA (mv 3) (aA (mv 4) aB)))) aB))) aB))) (mJ (K:=K) (i:=8) (j:=9) (by rfl) (by rfl) sc_hauled.nd (by rfl) (by exact (Or.inl rfl)) (by exact Or.inl rfl) (by rfl) (by exact (Or.inl rfl)) (by exact Or.inl rfl)) (@aH _ _ _ (zC (mv 9) (dXE (mv 7) (mv 8) aJZ)))) (@aH _ _ _ (aS (oW (aA (mv 4) (aA (mv 7) (aA (oP c_taken nJ hr (by decide) rfl (aA (mv 6) (aA (aT c_flags_on hr (by decide) rfl (aA (mv 7) (aA (mv 5) aB))) aB))) aB))))))))))),?_⟩
 have hol:=iQ hn
 walk_at "go"
 refine ⟨a,b,kvs,f,us,hs,n,cw,rfl,ha,lk,hf0,hb,hat,ok,h6,hn,hc7,hcL,λt0 L p0 ts ks j H1 s1 ht0 et hL eL hfst _ _ _ _=>?_,qe⟩
 have hks:=mem_sets.mp (Ai hfst.1)
 have hlk:∀ k∈ks,k < hs.length/\(hs.getD k none).isSome=true:=λk hk=>by
   have:=gE (hks.subset hk)
   exact ⟨this.1,this.2.1⟩
 have hkl:ks.length<=5:=by have:=hks.length_le; omega
 have hb1:=aI s1 hb
 have hat1:=hat.keep s1
 refine fQ et (v:=.ref L) rfl ?_
 walk_at "go"
 refine ⟨by show 1<=sizeLine; decide,λp5 hp5=>?_⟩
 have s5:=aF hp5 (.lst [V.int ((n:Nat):Int)])
 have e5:(upd H1 p5 (.lst [V.int ((n:Nat):Int)])) p5=some (.lst [V.int ((n:Nat):Int)]):=aE
 generalize upd H1 p5 (.lst [V.int ((n:Nat):Int)])=H5 at s5 e5 ⊢
 walk_at "go"
 refine qC (bN e5) (bN (s5 _ _ eL)) (bU (by rw [fL]; show 1 + _<=_; omega)) λp6 hp6=>?_
 have s6:=aF hp6 (.lst ((n :: ks).map λk=>V.int ((k:Nat):Int)))
 have e6:rdL (upd H5 p6 (.lst ((n :: ks).map λk=>V.int ((k:Nat):Int)))) p6=some ((n :: ks).map λk=>V.int ((k:Nat):Int)):=cC
 change pX _ _ _ (upd H5 p6 (.lst ((n :: ks).map λk=>V.int ((k:Nat):Int)))) _
 generalize upd H5 p6 (.lst ((n :: ks).map λk=>V.int ((k:Nat):Int)))=H6 at s6 e6 ⊢
 have s16:=s5.trans s6
 walk_at "go"
 refine ⟨b,p6,us,hs,n :: ks,rfl,aI s16 hb1,hat1.keep s16,ok,e6,by show ks.length + 1<=7; omega,λk hk=>by rcases Az.mp hk with e | e; (· rw [e]; exact hn); (· exact (hlk k e).1),λr7 H7 hr7 s7 e7=>?_⟩
 have s17:=s16.trans s7
 have fl7:=iJ ok (n :: ks)
 walk_at "go"
 refine ⟨a,r7,kvs,f,aX hs (n :: ks),rfl,s17 _ _ (s1 _ _ ha),lk,hf0,aM e7,by rw [Be] at fl7; omega,λr8 kws H8 hr8 s8 e8 lk8=>?_⟩
 have s18:=s17.trans s8
 have e68:=aI (s7.trans s8) e6
 have hb8:=aI s18 hb1
 have hat8:=hat1.keep s18
 have hul:=hat.len
 walk_at "go"
 refine vI (hs:=hs) hb8 (bC (by omega)) hul (λi x h Hc A B hx hh sm hA=>?_) (λD Hd vs hD sD hd hatD hfr=>?_)
 · have hv:=(hat8.keep sm).val i x h hx hh
   cases h with
   | none=>
     obtain rfl:x=V.non:=hv
     walk_at "go"
     refine ⟨Wk.set rfl (Wk.refl _),?_⟩
     walk_at "go"
     rw [show decide (V.non=V.non)=true from rfl]
     walk_at "go"
     exact hA .non _ (Same.refl _) rfl λp z=>nomatch z
   | some cs=>
     obtain ⟨pc,rfl,hpc⟩:=hv
     have rc:=aM hpc
     walk_at "go"
     refine ⟨Wk.set rfl (Wk.refl _),?_⟩
     walk_at "go"
     rw [show decide (V.ref pc=V.non)=false from Aw (λz=>nomatch z)]
     walk_at "go"
     intro l2 hl2
     exact hA (.ref l2) _ (aF hl2 _) ⟨l2,rfl,aE⟩ λp z=>by cases z; exact hl2
 · have s1D:=s18.trans sD
   have e6D:=aI sD e68
   have eLD:=s1D _ _ eL
   walk_at "go"
   refine ⟨b,L,us,hs,cw,ks,rfl,aI s1D hb1,hat1.keep s1D,ok,aM eLD,by omega,hlk,λr9 H9 hr9 s9 e9=>?_⟩
   walk_at "go"
   refine ⟨r8,r9,kws,fW f hs (n :: ks),bO hs cw ks,rfl,.inl (s9 _ _ (sD _ _ e8)),lk8,aM e9,by unfold bO; rw [Be,Ab]; omega,mM ok ⟨hc7,hcL⟩ hlk,λrh ps fs H10 hrh s10 er hne hls hfl hch hct hHI=>?_,λdx l1 l2 rs W F H10 s10 _ _ _ _ hlo _ _ _=>absurd hfst.2.1 (wC hlo)⟩
   have sD10:=s9.trans s10
   have hgs:=zA hfl hch
   have hflat:=kI (hfl.trans (vF (bO hs cw ks)))
   have hgl:=hgs.lens
   have hpg:∀ (i:Nat) p g,ps[i]?=some p->(lK (bO hs cw ks) fs)[i]?=some g->H10 p=some (.lst ((g.map one).map V.str))/\p≠D/\H8 p=none:=λi p g hp hg=>by
     have hi:i < (bO hs cw ks).length:=by rw [<-hgl]; exact (Ad.mp hg).1
     have ec:(bO hs cw ks)[i]?=some (bO hs cw ks)[i]:=Aa hi
     rw [wH ec] at hg
     obtain ⟨h1,h2⟩:=hls.2 i p (kW (bO hs cw ks) fs i) hp (by rw [Ah,Fs hi]; rfl)
     refine ⟨?_,(λz=>by rw [z,s9 _ _ hd] at h1; cases h1),none_of (sD.trans s9) h1⟩
     unfold kW at h2
     rw [Ac,ec] at h2
     cases hg
     exact h2
   have hcnt:∀ c,cnt (lK (bO hs cw ks) fs).flatten c<=aL (fW f hs (n :: ks)) c:=λc=>by
     rw [hflat,cQT]
     exact Int.le_trans (hct c) (aJY (nM f hs (n :: ks)) c)
   have hwone:=oY ok hc1 ⟨hc7,hcL⟩ hlk
   have hgf:=bZQ hgs hwone
   have hpsl:ps.length=(lK (bO hs cw ks) fs).length:=by rw [hls.1,Ab,Bx,hgl]
   have hgl2:(lK (bO hs cw ks) fs).length=(n :: ks).length:=by rw [hgl]; show ((ks.map _).length + 1)=ks.length + 1; rw [Ab]
   generalize hgd:lK (bO hs cw ks) fs=gs at hgs hflat hgl hpg hcnt hgf hpsl hgl2
   have e610:=aI sD10 e6D
   have er10:=aM er
   have eD10:=sD10 _ _ hd
   have hat10:=hatD.keep sD10
   have nd6:p6≠D:=λz=>by rw [z] at e68; unfold rdL at e68; rw [hD] at e68; cases e68
   have ndh:rh≠D:=λz=>by rw [z,s9 _ _ hd] at hrh; cases hrh
   have s810:=sD.trans sD10
   walk_at "go"
   refine dQL (xs:=((n :: ks).map λk=>V.int ((k:Nat):Int))) (ys:=ps.map V.ref) (λi σ H'=>∃ (v8 v9:Option V) (ws:List V),σ=[some (.ref a),some (.ref b),some (.int ((n:Nat):Int)),some (.str (bH cw)),some (.ref L),some (.ref p6),some (.ref r8),some (.ref D),v8,v9]/\Same H8 H'/\(∀ z u,z≠D->H10 z=some u->H' z=some u)/\H' D=some (.lst ws)/\HalsAt H' ws (eU hs (((n :: ks).zip gs).take i))/\∀ p,V.ref p∈ws->H8 p=none)
     ⟨_,_,vs,rfl,s810,(λz u _ h=>h),eD10,hat10,hfr⟩ (λi σ H' _ _ ⟨_,_,_,_,_,fr,_⟩=>⟨zW e610 nd6 fr,zW er10 ndh fr⟩) ?_ ?_
   · rintro i x y σ H11 pt hx hy ⟨v8,v9,ws,rfl,s11,fr11,e11,hat11,hfr11⟩ hpt
     obtain ⟨k,hk,rfl⟩:=iV hx
     obtain ⟨pg,hpgi,rfl⟩:=yB hy
     have hig:i < gs.length:=by rw [<-hpsl]; exact (Ad.mp hpgi).1
     have eg:gs[i]?=some gs[i]:=Aa hig
     obtain ⟨hp10,npD,hpn⟩:=hpg i pg _ hpgi eg
     have hp11:=fr11 _ _ npD hp10
     have hkl2:k < hs.length:=by rcases Az.mp (Ai hk) with e | e; (· rw [e]; exact hn); (· exact (hlk k e).1)
     have hwl:ws.length=hs.length:=by rw [hat11.len,fA]
     have tk:=bJC hk eg
     generalize gs[i]=g at eg hp10 hp11 tk
     have s12:=aF hpt (.tup [.int ((k:Nat):Int),.ref pg])
     have t12:lC (upd H11 pt (.tup [.int ((k:Nat):Int),.ref pg])) pt=some [.int ((k:Nat):Int),.ref pg]:=mW
     have e12:=s12 _ _ e11
     have hat12:=hat11.keep s12
     have hp12:=s12 _ _ hp11
     generalize upd H11 pt (.tup [.int ((k:Nat):Int),.ref pg])=H12 at s12 t12 e12 hat12 hp12 ⊢
     walk_at "go"
     refine dZU (o:=.non) (bN e12) (cJW (by omega) (by rw [hwl]; omega)) ?_
     rw [show ((k:Nat):Int).toNat=k from rfl]
     refine ⟨_,_,ws.set k (.ref pg),rfl,aW hD (s11.trans s12),λz u hz h=>by rw [aK hz]; exact s12 _ _ (fr11 z u hz h),aE,?_,λp hp=>?_⟩
     rotate_left
     · rcases List.mem_or_eq_of_mem_set hp with e | e
       · exact hfr11 p e
       · cases e; exact hpn
     rw [tk,gM]
     exact (hat12.put e12).set ⟨pg,rfl,by rw [aK npD]; exact hp12⟩
   · rintro σ H11 ⟨v8,v9,ws,rfl,s11,fr11,e11,hat11,hfr11⟩
     have hzl:((n :: ks).zip gs).length=(n :: ks).length:=by rw [List.length_zip,hgl2,Nat.min_self]
     rw [fL,Ab,hpsl,hgl2,Nat.min_self,<-hzl,Bs] at hat11
     have hzk:∀ z∈(n :: ks).zip gs,z.1∈n :: ks/\z.2∈gs:=λz hz=>Dw hz
     have ok':HalOk (eU hs ((n :: ks).zip gs)):=aQR ok _ λz hz=>(hgf z.2 (hzk z hz).2).1
     have hkk:∀ k∈n :: ks,k < hs.length:=λk hk=>by rcases Az.mp hk with e | e; (· rw [e]; exact hn); (· exact (hlk k e).1)
     have ndz:(((n :: ks).zip gs).map (·.1)).Nodup:=by
       rw [show ((n :: ks).zip gs).map (·.1)=n :: ks from List.map_fst_zip (by rw [hgl2]; exact Ag _)]
       exact mQ hks
     have hfo:aX (eU hs ((n :: ks).zip gs)) (n :: ks)=gs.flatten:=xH hgl2.symm (aQ8 hs _ ndz λz hz=>hkk z.1 (hzk z hz).1)
     have e6b:=zW e610 nd6 fr11
     have e8b:H11 r8=some (.dK kws):=s11 _ _ e8
     walk_at "go"
     refine ⟨D,p6,ws,_,n :: ks,rfl,aM e11,hat11,ok',e6b,by show ks.length + 1<=7; omega,λk hk=>by rw [fA]; exact hkk k hk,λr12 H12 hr12 s12 e12=>?_⟩
     rw [hfo] at e12
     have hfle:gs.flatten.length<=42:=by
       have:=iJ ok' (n :: ks)
       rw [hfo,Be] at this
       omega
     walk_at "go"
     refine ⟨r8,r12,kws,fW f hs (n :: ks),gs.flatten,rfl,s12 _ _ e8b,lk8,nM f hs (n :: ks),aM e12,by omega,λc hc=>by obtain ⟨g,hg,hcg⟩:=List.mem_flatten.mp hc; exact (hgf g hg).2 c hcg,λ_ rR kwR H13 hrR s13 eR lkR=>?_,λi c hi _ hle=>?_⟩
     · walk_at "go"
       refine ⟨by show 3<=sizeLine; decide,λt ht=>?_⟩
       have k14:=aF ht (.tup [.ref L,.ref D,.ref rR])
       have s114:=s12.trans (s13.trans k14)
       have sH11:Same H H11:=s1.trans (s18.trans s11)
       refine q t L D rR ks gs j ws kwR _ (sH11.trans s114) (none_of (sH11.trans (s12.trans s13)) ht) aE hL (s114 _ _ (s11 _ _ (s18 _ _ eL))) hfst hgs hcnt (none_of (s1.trans s18) hD) (s114 _ _ e11) (hat11.keep s114) (none_of (sH11.trans s12) hrR) (k14 _ _ eR) lkR (λp hp=>none_of (s1.trans s18) (hfr11 p hp)) ⟨fs,hHI,hgd.symm⟩
     · have h1:=dXB hi
       have h2:=hcnt c
       omega
def FlOnly (f:Nat->Option Int):Prop:=∀ c,(f c).isSome=true->fP c
theorem FlOnly.put {f:Nat->Option Int} {d:Nat} {x:Int} (h:FlOnly f) (hd:fP d):FlOnly (λe=>if e=d then some x else f e):=λc hc=>by
 by_cases e:c=d
 · rw [e]; exact hd
 · dsimp only at hc
   rw [if_neg e] at hc
   exact h c hc
def gZ:Sp:=λvs H Q _=>∃ c m:Int,vs=[.int c,.int m]/\0<=m/\m<=1000/\
 ∀ (r:Addr) (ns:List Int) (H':Hp),H r=none->Same H H'->ns.length=m.toNat->(∀ n∈ns,0<=n)->H' r=some (.lst (ns.map V.int))->Q (.ref r) H'
def sB (K:PySem.W.Frag):Sp:=λvs H Q _=>∃ (a:Addr) (ns:List Int) (k:Int),vs=[.ref a,.int k]/\SqL K H a (ns.map V.int)/\0<=k/\∀ n:Int,Q (.int n) H
theorem aX5:FnScope ["_law_script", "_law_k"] ["_law_script", "_law_k"] (aG iG):=⟨rfl,rfl,rfl,by decide +kernel,rfl,by decide +kernel,by decide +kernel⟩
theorem aJM {Zw Zz Zx Zy:Addr} {f:Addr} {fd:FuncData} (F:Fun K "_law_cell" "_law_cell" iG f fd) (G:Gs K mg Zw Zz Zx Zy)  : FnOk P w K mg base CX0 1 f fd ["_law_script", "_law_k"] (sB K):=by
 refine F.ok aX5 (λvs H Q E h=>?_) (λcdv A outer s H vs Q E hr h=>?_)
 · obtain ⟨a,ns,k,rfl,_⟩:=h; rfl
 obtain ⟨a,ns,k,rfl,hS,h0,q⟩:=h
 refine ⟨_,(@aD _ _ _ _ _ (cG (aY bXF (mv 1) (aZ lS rfl G.b_len cP (aA (mv 0) aB)) (bF _)) (@aH _ _ _ (aS (bE ix_list (mv 0) (mv 1) (λ_ _=>rfl)))) bI) (@aH _ _ _ (aS aJ))),?_⟩
 walk_at "go"
 refine ⟨_,_,rfl,.inl hS,?_⟩
 have hnl:(ns.map V.int).length=ns.length:=Ab ..
 rw [hnl]
 walk_at "go"
 refine gS (λhd=>?_) (λhd=>?_)
 · have hd':=Ba hd
   obtain ⟨n,_,an⟩:=eX (ns:=ns) (i:=k) h0 hd'
   walk_at "go"
   exact dZ5 hS an (q n)
 · walk_at "go"
   exact q 0
theorem sc_l_stream:FnScope ["_law_cell_here", "_law_many", "_law_number", "_law_found", "_law_k"] ["_law_cell_here", "_law_many"] (aG fK):=⟨rfl,rfl,rfl,by decide +kernel,rfl,by decide +kernel,by decide +kernel⟩
theorem vS {Zw Zz Zx Zy:Addr} {f:Addr} {fd:FuncData} (F:Fun K "_law_stream" "_law_stream" fK f fd) (G:Gs K mg Zw Zz Zx Zy)  : FnOk P w K mg base CX0 1 f fd ["_law_cell_here", "_law_many"] gZ:=by
 refine F.ok sc_l_stream (λvs H Q E h=>?_) (λcdv A outer s H vs Q E hr h=>?_)
 · obtain ⟨c,m,rfl,_⟩:=h; rfl
 obtain ⟨c,m,rfl,h0,h1,q⟩:=h
 refine ⟨_,(@aD _ _ _ _ _ (@aO _ _ 2 _ _ _ _ sc_l_stream.nd (by rfl) (by exact (Or.inl rfl)) (aU cD (aU fO (mv 0) aJ) aJ) (by rfl) (by first | exact Or.inl rfl | exact Or.inr rfl)) (@aD _ _ _ _ _ (@aO _ _ 3 _ _ _ _ sc_l_stream.nd (by rfl) (by exact (Or.inl rfl)) (bP aB) (by rfl) (by first | exact Or.inl rfl | exact Or.inr rfl)) (@aD _ _ _ _ _ (bQ Ay rfl (dP rfl G.b_range (aA (mv 1) aB)) (aP (i:=4) sc_l_stream.nd rfl (Or.inl rfl)) (@aD _ _ _ _ _ (@aO _ _ 2 _ _ _ _ sc_l_stream.nd (by rfl) (by exact (Or.inl rfl)) (aU fO (aU cD (aU cD (aU cD (aU aJ3 (mv 2) (mv 2)) (aU aJ3 aJ (mv 2))) (aU aJ3 aJ (mv 4))) aJ) aJ) (by rfl) (by first | exact Or.inl rfl | exact Or.inr rfl)) (@aH _ _ _ (cE (cX Bh Cg Ci nR (mv 3) (aA (aU kB (mv 2) aJ) aB)))))) (@aH _ _ _ (aS (mv 3)))))),?_⟩
 walk_at "go"
 refine ⟨by decide,λp hp=>?_⟩
 walk_at "go"
 refine ⟨⟨by omega,by omega⟩,?_⟩
 refine fT (λi σ H'=>∃ (x:Int) (ns:List Int) (v:Option V),σ=[some (.int c),some (.int m),some (.int x),some (.ref p),v]/\0<=x/\x < 2147531918/\ns.length=i/\(∀ n∈ns,0<=n)/\H'=upd H p (.lst (ns.map V.int)))
   ⟨_,[],none,rfl,by omega,by omega,rfl,(λn hn=>nomatch hn),rfl⟩ ?_ ?_
 · rintro i σ H' hi ⟨x,ns,v,rfl,hx0,hx1,hn,hns,rfl⟩
   walk_at "go"
   refine ⟨_,ns ++ [(x * x + 48271 * x + 7 * (0 + (i:Int)) + 1) % 2147483647 / 64],_,rfl,Cz _ (by decide),?_,?_,?_,?_⟩
   · have:=Cw (x * x + 48271 * x + 7 * (0 + (i:Int)) + 1) (show (0:Int) < 2147483647 by decide)
     omega
   · rw [Aj,hn]; rfl
   · intro n hn
     rcases Bj.mp hn with z | z
     · exact hns n z
     · rw [As.mp z]
       have:=Cz (x * x + 48271 * x + 7 * (0 + (i:Int)) + 1) (show (2147483647:Int)≠0 by decide)
       omega
   · rw [aXG,Ak]; rfl
 · rintro σ H' ⟨x,ns,v,rfl,hx0,hx1,hn,hns,rfl⟩
   walk_at "go"
   exact q p ns _ hp (aF hp _) hn hns aE
theorem cQN {c:Nat} (h:bL c):Builtin.Str.occurrences lettersT (one c) 0 lettersT.length 1=[c - 97]:=by
 have q:∀ k:_root_.Fin 23,Builtin.Str.occurrences lettersT (one (97 + k.val)) 0 lettersT.length 1=[k.val]:=by decide +kernel
 unfold bL at h
 have e:=q ⟨c - 97,by omega⟩
 rwa [show 97 + (c - 97)=c by omega] at e
def mX:Sp:=λvs H Q _=>∃ n m l:Int,vs=[.int n,.int m,.int l]/\1<=l/\l<=7/\∀ (cw:List Nat) (H':Hp),Same H H'->1<=cw.length->(cw.length:Int)<=l->(∀ d∈cw,bL d)->Q (.str (bH cw)) H'
theorem sc_l_word:FnScope ["_law_cell_here", "_law_spread", "_law_longest", "_law_some", "_law_word_here", "_law_k"] ["_law_cell_here", "_law_spread", "_law_longest"] (aG iM):=⟨rfl,rfl,rfl,by decide +kernel,rfl,by decide +kernel,by decide +kernel⟩
theorem aX9 {Zw Zz Zx Zy:Addr} {f:Addr} {fd:FuncData} (F:Fun K "_law_word" "_law_word" iM f fd) (G:Gs K mg Zw Zz Zx Zy) (c_l_stream:Cal P w K mg base 1 "_law_stream" ["_law_cell_here", "_law_many"] gZ):FnOk P w K mg base CX0 2 f fd ["_law_cell_here", "_law_spread", "_law_longest"] mX:=by
 refine F.ok sc_l_word (λvs H Q E h=>?_) (λcdv A outer s H vs Q E hr h=>?_)
 · obtain ⟨n,m,l,rfl,_⟩:=h; rfl
 obtain ⟨n,m,l,rfl,hl1,hl7,q⟩:=h
 refine ⟨_,(@aD _ _ _ _ _ (@aO _ _ 3 _ _ _ _ sc_l_word.nd (by rfl) (by exact (Or.inl rfl)) (aT c_l_stream hr (by decide) rfl (aA (mv 0) (aA aJ aB))) (by rfl) (by first | exact Or.inl rfl | exact Or.inr rfl)) (@aD _ _ _ _ _ (@aO _ _ 4 _ _ _ _ sc_l_word.nd (by rfl) (by exact (Or.inl rfl)) gP (by rfl) (by first | exact Or.inl rfl | exact Or.inr rfl)) (@aD _ _ _ _ _ (bQ Ay rfl (dP rfl G.b_range (aA (aU cD aJ (aU fO (bE bS (mv 3) aJ (λ_ _=>rfl)) (mv 2))) aB)) (aP (i:=5) sc_l_word.nd rfl (Or.inl rfl)) (@aH _ _ _ (@aO _ _ 4 _ _ _ _ sc_l_word.nd (by rfl) (by exact (Or.inl rfl)) (aU cD (mv 4) (bE bS gP (aU fO (aU cD (aU kB (mv 1) aJ) (aU fO (bE bS (mv 3) (mv 5) (λ_ _=>rfl)) (@bE _ _ _ _ _ _ _ bS (@bP _ _ _ _ (aA aJ (aA aJ (aA aJ (aA aJ aB))))) (aU fO (mv 1) aJ) (λ_ _=>rfl)))) aJ) (λ_ _=>rfl))) (by rfl) (by first | exact Or.inl rfl | exact Or.inr rfl)))) (@aH _ _ _ (aS (mv 4)))))),?_⟩
 walk_at "go"
 refine ⟨n,9,rfl,by omega,by omega,λr ns H1 hr1 s1 hl hp he=>?_⟩
 have hl9:ns.length=9:=hl
 have hlr:rdL H1 r=some (ns.map V.int):=aM he
 obtain ⟨n8,i8,a8⟩:=eX (ns:=ns) (i:=8) (by omega) (by omega)
 have p8:=hp _ i8
 have z0:=Cz n8 (show l≠0 by omega)
 have z1:=Cw n8 (show 0 < l by omega)
 walk_at "go"
 refine cJ hlr a8 ?_
 walk_at "go"
 generalize n8 % l=u at z0 z1 ⊢
 refine ⟨⟨by omega,by omega⟩,?_⟩
 refine fT (λi σ H'=>∃ (cs:List Nat) (v:Option V),σ=[some (.int n),some (.int m),some (.int l),some (.ref r),some (.str (bH cs)),v]/\cs.length=i/\(∀ d∈cs,bL d)/\Same H1 H')
   ⟨[],none,rfl,rfl,(λd hd=>nomatch hd),Same.refl _⟩ ?_ ?_
 · rintro i σ H2 hi ⟨cs,v,rfl,hcl,hL,s2⟩
   have hi7:i < 7:=by omega
   have hwl:(bH cs).length=cs.length:=eW cs
   have hl2:=aI s2 hlr
   obtain ⟨nk,ik,ak⟩:=eX (ns:=ns) (i:=0 + (i:Int)) (by omega) (by omega)
   walk_at "go"
   refine cJ hl2 ak ?_
   walk_at "go"
   refine ⟨by decide,λp hp4=>?_⟩
   have hl3:=aI (aF hp4 (.lst (([2,3,4,23]:List Int).map V.int))) hl2
   walk_at "go"
   obtain ⟨kn,hkn,akn⟩:=eX (ns:=[2,3,4,23]) (i:=m % 4) (by omega) (by show m % 4 < 4; omega)
   have hk:1<=kn:=(by decide:∀ x∈([2,3,4,23]:List Int),1<=x) kn hkn
   refine cJ (xs:=([2,3,4,23]:List Int).map V.int) cC akn ?_
   walk_at "go"
   generalize m / 8 + nk % kn=y
   have y0:=Cz y (show (23:Int)≠0 by decide)
   have y1:=Cw y (show (0:Int) < 23 by decide)
   have e1:=aXD (k:=(y % 23).toNat) (by omega)
   rw [show (((y % 23).toNat:Nat):Int)=y % 23 by omega] at e1
   refine kC (by decide) e1 ?_
   have h1l:(⟨#[97 + (y % 23).toNat]⟩:Str).length=1:=rfl
   walk_at "go"
   refine ⟨cs ++ [97 + (y % 23).toNat],some (.int (0 + (i:Int))),?_,by rw [Aj,hcl]; rfl,λd hd=>?_,s2.trans (aF hp4 _)⟩
   · rw [<-iL]
     rfl
   · rcases Bj.mp hd with z | z
     · exact hL d z
     · rw [As.mp z]
       exact ⟨by omega,by omega⟩
 · rintro σ H2 ⟨cs,v,rfl,hcl,hL,s2⟩
   walk_at "go"
   exact q _ _ (s1.trans s2) (by omega) (by omega) hL
theorem jE {f:Nat->Option Int} {c:Nat} {n:Int} (hf:∀ c,0<=aL f c) (hn:0<=n):∀ d,0<=aL (λd=>if d=c then some n else f d) d:=λd=>by
 show 0<=((if d=c then some n else f d):Option Int).getD 0
 by_cases e:d=c
 · rw [if_pos e]; exact hn
 · rw [if_neg e]; exact hf d
theorem uT {f:Nat->Option Int} {c:Nat} {n m:Int} (hf:∀ c,aL f c<=m) (hn:n<=m):∀ d,aL (λd=>if d=c then some n else f d) d<=m:=λd=>by
 show ((if d=c then some n else f d):Option Int).getD 0<=m
 by_cases e:d=c
 · rw [if_pos e]; exact hn
 · rw [if_neg e]; exact hf d
theorem cXO {f:Nat->Option Int} {c:Nat} {n:Int} (hf:∀ c,f c≠none->bL c) (hc:bL c):∀ d,(if d=c then some n else f d)≠none->bL d:=λd z=>by
 by_cases e:d=c
 · rw [e]; exact hc
 · rw [if_neg e] at z; exact hf d z
theorem mO {kvs:List (Key × V)} {k:Key} {v:V} (h:bX kvs k≠none):(dJ kvs k v).length=kvs.length:=by
 unfold dJ
 split
 · rw [Ab]
 · rename_i hn
   refine absurd ?_ h
   unfold bX
   rw [List.find?_eq_none.mpr λx hx=>by
     rw [Bl]
     intro e
     exact hn (Gg.mpr ⟨x,hx,Au e⟩)]
   rfl
def nP:Sp:=λvs H Q _=>∃ (c:Int) (b:Addr) (cws:List (List Nat)),vs=[.int c,.ref b]/\rdL H b=some ((cws.map bH).map V.str)/\cws.length<=8/\(∀ c∈cws,c.length<=7/\∀ d∈c,bL d)/\
 ∀ (r:Addr) (kvs:List (Key × V)) (f:Nat->Option Int) (H':Hp),H r=none->Same H H'->H' r=some (.dK kvs)->Lk kvs f->(∀ c,0<=aL f c/\aL f c<=1000)->kvs.length<=100->FlOnly f->Q (.ref r) H'
theorem sc_l_locker:FnScope ["_law_cell_here", "_law_words_here", "_law_some", "_law_locker_here", "_law_word_here", "_law_letter", "_law_rank", "_law_k"] ["_law_cell_here", "_law_words_here"] (aG fJ):=⟨rfl,rfl,rfl,by decide +kernel,rfl,by decide +kernel,by decide +kernel⟩
theorem vP {Zw Zz Zx Zy:Addr} {f:Addr} {fd:FuncData} (F:Fun K "_law_locker" "_law_locker" fJ f fd) (G:Gs K mg Zw Zz Zx Zy) (c_l_stream:Cal P w K mg base 1 "_law_stream" ["_law_cell_here", "_law_many"] gZ):FnOk P w K mg base CX0 2 f fd ["_law_cell_here", "_law_words_here"] nP:=by
 refine F.ok sc_l_locker (λvs H Q E h=>?_) (λcdv A outer s H vs Q E hr h=>?_)
 · obtain ⟨c,b,cws,rfl,_⟩:=h; rfl
 obtain ⟨c,b,cws,rfl,hb,h8,hL,q⟩:=h
 refine ⟨_,(@aD _ _ _ _ _ (@aO _ _ 2 _ _ _ _ sc_l_locker.nd (by rfl) (by exact (Or.inl rfl)) (aT c_l_stream hr (by decide) rfl (aA (mv 0) (aA aJ aB))) (by rfl) (by first | exact Or.inl rfl | exact Or.inr rfl)) (@aD _ _ _ _ _ (@aO _ _ 3 _ _ _ _ sc_l_locker.nd (by rfl) (by exact (Or.inl rfl)) lR (by rfl) (by first | exact Or.inl rfl | exact Or.inr rfl)) (@aD _ _ _ _ _ (bQ Ay rfl (bW (mv 1)) (aP (i:=4) sc_l_locker.nd rfl (Or.inl rfl)) (@aH _ _ _ (bQ Ay rfl (vB (mv 4)) (aP (i:=5) sc_l_locker.nd rfl (Or.inl rfl)) (@aH _ _ _ (dM (Room.u1 hr) (mv 3) (mv 5) (aU cD (fR Bw Cs (tJ (Room.u1 hr)) (mv 3) (aA (mv 5) (aA aJ aB))) aJ) rfl))))) (@aD _ _ _ _ _ (bQ Ay rfl (bW (bK (bJP rfl) rfl G.b_list dE (aA (mv 3) aB))) (aP (i:=5) sc_l_locker.nd rfl (Or.inl rfl)) (@aD _ _ _ _ _ (@aO _ _ 6 _ _ _ _ sc_l_locker.nd (by rfl) (by exact (Or.inl rfl)) (cX PySem.F.plainAttrs_str PySem.F.slot_str_index PySem.F.type_str_index aXO gP (aA (mv 5) aB)) (by rfl) (by first | exact Or.inl rfl | exact Or.inr rfl)) (@aH _ _ _ (dM (Room.u1 hr) (mv 3) (mv 5) (aZ (cX4 rfl) rfl G.b_max bQQ (aA aJ (aA (aU jY (fM (Room.u1 hr) (mv 3) (mv 5) (λ_ _=>rfl)) (aU fO (bE bS (mv 2) (mv 6) (λ_ _=>rfl)) (@bE _ _ _ _ _ _ _ bS (@bP _ _ _ _ (aA aJ (aA aJ (aA aJ (aA aJ aB))))) (aU fO (mv 0) aJ) (λ_ _=>rfl)))) aB))) rfl)))) (@aD _ _ _ _ _ (bQ Ay rfl (dP rfl G.b_range (aA aJ aB)) (aP (i:=7) sc_l_locker.nd rfl (Or.inl rfl)) (@aH _ _ _ (dM (Room.u1 hr) (mv 3) (bE bS gP (mv 7) (λ_ _=>rfl)) (aU fO (bE bS (mv 2) (aU cD aJ (mv 7)) (λ_ _=>rfl)) (@bE _ _ _ _ _ _ _ bS (@bP _ _ _ _ (aA aJ (aA aJ (aA aJ (aA aJ aB))))) (aU fO (aU kB (mv 0) aJ) aJ) (λ_ _=>rfl))) rfl))) (@aD _ _ _ _ _ (cG (aY vX (aU fO (aU kB (mv 0) aJ) aJ) aJ (bF _)) (@aH _ _ _ (dM (Room.u1 hr) (mv 3) (bE bS gP (aU fO (bE bS (mv 2) aJ (λ_ _=>rfl)) aJ) (λ_ _=>rfl)) (aU fO (bE bS (mv 2) aJ (λ_ _=>rfl)) aJ) rfl)) bI) (@aH _ _ _ (aS (mv 3))))))))),?_⟩
 have hll:((cws.map bH).map V.str).length=cws.length:=by rw [Ab,Ab]
 walk_at "go"
 refine ⟨c,31,rfl,by omega,by omega,λr ns H1 hr1 s1 hl hp he=>?_⟩
 have hl31:ns.length=31:=hl
 have hlr:rdL H1 r=some (ns.map V.int):=aM he
 walk_at "go"
 intro p hpp
 have s2:=aF hpp (.dK [])
 have e2:(upd H1 p (.dK [])) p=some (.dK []):=aE
 generalize upd H1 p (.dK [])=H2 at s2 e2 ⊢
 have hp0:H p=none:=none_of s1 hpp
 have hb2:=aI (s1.trans s2) hb
 refine oK ?_
 with_reducible refine aQE (λσ' H'=>∃ (v4 v5:Option V) (kvs:List (Key × V)) (f:Nat->Option Int),σ'=[some (.int c),some (.ref b),some (.ref r),some (.ref p),v4,v5,none,none]/\Same H1 H'/\H' p=some (.dK kvs)/\Lk kvs f/\(∀ c,0<=aL f c)/\(∀ c,f c≠none->bL c)/\kvs.length<=56/\∀ c,aL f c<=1000) (λσ2 H3 j3=>?_) (λN hN=>?_)
 case refine_2=>
   walk_at "go"
   refine cT (xs:=(cws.map bH).map V.str) (λi σ H'=>∃ (v4 v5:Option V) (kvs:List (Key × V)) (f:Nat->Option Int),σ=[some (.int c),some (.ref b),some (.ref r),some (.ref p),v4,v5,none,none]/\Same H1 H'/\H' p=some (.dK kvs)/\Lk kvs f/\(∀ c,0<=aL f c)/\(∀ c,f c≠none->bL c)/\kvs.length<=7 * i/\∀ c,aL f c<=((7 * i:Nat):Int))
     ⟨_,_,[],_,rfl,s2,e2,Lk.nil,(λc=>Fz _),(λc z=>absurd rfl z),Ag _,λc=>Fz _⟩ (λi σ H' _ ⟨_,_,_,_,_,e,_⟩=>aI (s1.trans e) hb) ?_ ?_
   · rintro i x σ H4 hx ⟨v4,v5,kvs,f,rfl,s4,e4,lk,hf,hlt,hkl,hle⟩
     have hi:i < cws.length:=by have:=(Ad.mp hx).1; rw [hll] at this; exact this
     obtain ⟨cw,hcw,hm,rfl⟩:=pC hx
     obtain ⟨hc7,hcL⟩:=hL cw hm
     walk_at "go"
     refine bZK (λj σ H'=>∃ (v5:Option V) (kvs:List (Key × V)) (f:Nat->Option Int),σ=[some (.int c),some (.ref b),some (.ref r),some (.ref p),some (.str (bH cw)),v5,none,none]/\Same H1 H'/\H' p=some (.dK kvs)/\Lk kvs f/\(∀ c,0<=aL f c)/\(∀ c,f c≠none->bL c)/\kvs.length<=7 * i + j/\∀ c,aL f c<=((7 * i + j:Nat):Int))
       ⟨_,kvs,f,rfl,s4,e4,lk,hf,hlt,hkl,hle⟩ ?_ ?_
     · clear s4 e4 lk hf hlt hkl hle kvs f v4 v5
       rintro j d σ H5 hd ⟨v5,kvs,f,rfl,s5,e5,lk,hf,hlt,hkl,hle⟩
       have hj:j < cw.length:=(Ad.mp hd).1
       have hdL:bL d:=hcL d (Ai hd)
       walk_at "go"
       refine sZ (z:=one d) (.inl e5) ?_
       rw [lk.val d,kG]
       walk_at "go"
       refine eZ (z:=one d) e5 (bC (by omega)) ?_
       refine ⟨_,_,_,rfl,aW hpp s5,aE,lk.put d _,jE hf (by have:=hf d; omega),cXO hlt hdL,?_,uT (λc=>by have:=hle c; omega) (by have:=hle d; omega)⟩
       have:=cR kvs (Sum.inr (one d)) (.int (aL f d + 1))
       omega
     · rintro σ H5 ⟨v5,kvs,f,rfl,s5,e5,lk,hf,hlt,hkl,hle⟩
       replace hkl:kvs.length<=7 * i + cw.length:=hkl
       replace hle:∀ c,aL f c<=((7 * i + cw.length:Nat):Int):=hle
       walk_at "go"
       exact ⟨_,_,kvs,f,rfl,s5,e5,lk,hf,hlt,by omega,λc=>by have:=hle c; omega⟩
   · rintro σ H4 ⟨v4,v5,kvs,f,rfl,s4,e4,lk,hf,hlt,hkl,hle⟩
     rw [hll] at hkl hle
     exact hN _ _ ⟨v4,v5,kvs,f,rfl,s4,e4,lk,hf,hlt,by omega,λc=>by have:=hle c; omega⟩
 case refine_1=>
 obtain ⟨v4,v5,kvs,f,rfl,s3,e3,lk,hf,hlt,hkl,hle⟩:=j3
 with_reducible refine aQE (λσ' H'=>∃ (v5 v6:Option V) (kvs:List (Key × V)) (f:Nat->Option Int),σ'=[some (.int c),some (.ref b),some (.ref r),some (.ref p),v4,v5,v6,none]/\Same H1 H'/\H' p=some (.dK kvs)/\Lk kvs f/\(∀ c,0<=aL f c)/\kvs.length<=56/\(∀ c,aL f c<=1000)/\FlOnly f) (λσ2 H4 j4=>?_) (λN hN=>?_)
 case refine_2=>
   walk_at "go"
   refine bJM (.inl e3) λl hl=>?_
   have s4:=aF hl (.lst (kvs.map λkv=>kV kv.1))
   have el4:(upd H3 l (.lst (kvs.map λkv=>kV kv.1))) l=some (.lst (kvs.map λkv=>kV kv.1)):=aE
   have e4:=s4 _ _ e3
   have nlp:l≠p:=λz=>by rw [z,e3] at hl; cases hl
   generalize upd H3 l (.lst (kvs.map λkv=>kV kv.1))=H4 at s4 el4 e4 ⊢
   have rl4:=aM el4
   walk_at "go"
   refine cT (xs:=kvs.map λkv=>kV kv.1) (λi σ H'=>∃ (v5 v6:Option V) (kws:List (Key × V)) (g:Nat->Option Int),σ=[some (.int c),some (.ref b),some (.ref r),some (.ref p),v4,v5,v6,none]/\Same H1 H'/\H' l=some (.lst (kvs.map λkv=>kV kv.1))/\H' p=some (.dK kws)/\Lk kws g/\(∀ c,0<=aL g c)/\(∀ c,f c≠none->g c≠none)/\kws.length=kvs.length/\(∀ c,aL g c<=1000)/\FlOnly g)
     ⟨_,_,kvs,f,rfl,s3.trans s4,el4,e4,lk,hf,(λc z=>z),rfl,hle,λc hc=>.inl (hlt c (Fp.mp hc))⟩ (λi σ H' _ ⟨_,_,_,_,_,_,e,_⟩=>aM e) ?_ ?_
   · rintro i x σ H5 hx ⟨v5,v6,kws,g,rfl,s5,el5,e5,lg,hg,hgk,hkw,hge,hgo⟩
     rw [Ah] at hx
     cases ek:kvs[i]? with
     | none=>rw [ek] at hx; cases hx
     | some kv=>
       rw [ek] at hx
       have hkm:=Ai ek
       obtain ⟨d,n,hkv,hfd⟩:=lk.at_mem hkm
       subst hkv
       obtain rfl:x=V.str (one d):=(Bi hx).symm
       have hdf:f d≠none:=by rw [hfd]; exact λz=>nomatch z
       have hdL:=hlt d hdf
       obtain ⟨m,hgd⟩:∃ m,g d=some m:=by
         cases e:g d with
         | none=>exact absurd e (hgk d hdf)
         | some m=>exact ⟨m,rfl⟩
       have hgn:0<=m:=by have:=hg d; unfold aL at this; rw [hgd] at this; exact this
       have hgm:m<=1000:=by have:=hge d; unfold aL at this; rw [hgd] at this; exact this
       obtain ⟨nr,inr,anr⟩:=eX (ns:=ns) (i:=((d - 97:Nat):Int)) (by omega) (by unfold bL at hdL; omega)
       have hnr:=hp _ inr
       have lr5:=aI s5 hlr
       walk_at "go"
       refine aXW (cQN hdL) ?_
       walk_at "go"
       refine kY (z:=one d) (.inl e5) (by rw [lg.val d,hgd]; rfl) ?_
       walk_at "go"
       refine cJ lr5 anr ?_
       walk_at "go"
       refine ⟨by decide,λp6 hp6=>?_⟩
       have s6:=aF hp6 (HO.lst [V.int 1,V.int 2,V.int 3,V.int 5])
       obtain ⟨kn,hkn,akn⟩:=eX (ns:=[1,2,3,5]) (i:=c % 4) (by omega) (by show c % 4 < 4; omega)
       have hk:1<=kn:=(by decide:∀ x∈([1,2,3,5]:List Int),1<=x) kn hkn
       have hmd:=Cz nr (show kn≠0 by omega)
       walk_at "go"
       refine cJ (xs:=([1,2,3,5]:List Int).map V.int) cC akn ?_
       have e6:=s6 _ _ e5
       have el6:=s6 _ _ el5
       generalize upd H5 p6 (HO.lst [V.int 1,V.int 2,V.int 3,V.int 5])=H6 at e6 el6 s6 ⊢
       walk_at "go"
       refine eZ (z:=one d) e6 (bC (by omega)) ?_
       refine ⟨_,_,_,_,rfl,aW hpp (s5.trans s6),by rw [aK nlp]; exact el6,aE,lg.put d _,jE hg (by split <;> omega),λa ha=>?_,?_,uT hge (by split <;> omega),hgo.put (.inl hdL)⟩
       · by_cases e:a=d
         · rw [if_pos e]; exact λz=>nomatch z
         · rw [if_neg e]; exact hgk a ha
       · rw [<-hkw]
         exact mO (by rw [lg.val d,hgd]; exact λz=>nomatch z)
   · rintro σ H5 ⟨v5,v6,kws,g,rfl,s5,el5,e5,lg,hg,hgk,hkw,hge,hgo⟩
     exact hN _ _ ⟨v5,v6,kws,g,rfl,s5,e5,lg,hg,by omega,hge,hgo⟩
 case refine_1=>
 clear s3 e3 lk hf hlt hkl hle kvs f v5
 obtain ⟨v5,v6,kvs,f,rfl,s3,e3,lk,hf,hkl,hle,hfo⟩:=j4
 with_reducible refine aQE (λσ' H'=>∃ (v7:Option V) (kvs:List (Key × V)) (f:Nat->Option Int),σ'=[some (.int c),some (.ref b),some (.ref r),some (.ref p),v4,v5,v6,v7]/\Same H1 H'/\H' p=some (.dK kvs)/\Lk kvs f/\(∀ c,0<=aL f c)/\kvs.length<=60/\(∀ c,aL f c<=1000)/\FlOnly f) (λσ2 H5 j5=>?_) (λN hN=>?_)
 case refine_2=>
   walk_at "go"
   refine ⟨⟨by omega,by omega⟩,?_⟩
   refine fT (λi σ H'=>∃ (v7:Option V) (kvs:List (Key × V)) (f:Nat->Option Int),σ=[some (.int c),some (.ref b),some (.ref r),some (.ref p),v4,v5,v6,v7]/\Same H1 H'/\H' p=some (.dK kvs)/\Lk kvs f/\(∀ c,0<=aL f c)/\kvs.length<=56 + i/\(∀ c,aL f c<=1000)/\FlOnly f)
     ⟨_,kvs,f,rfl,s3,e3,lk,hf,hkl,hle,hfo⟩ ?_ ?_
   · clear s3 e3 lk hf hkl hle hfo kvs f
     rintro i σ H5 hi ⟨v7,kvs,f,rfl,s5,e5,lk,hf,hkl,hle,hfo⟩
     have hi4:i < 4:=hi
     have lr5:=aI s5 hlr
     obtain ⟨nr,inr,anr⟩:=eX (ns:=ns) (i:=23 + (0 + (i:Int))) (by omega) (by omega)
     have hnr:=hp _ inr
     walk_at "go"
     refine cJ lr5 anr ?_
     walk_at "go"
     refine ⟨by decide,λp6 hp6=>?_⟩
     have s6:=aF hp6 (HO.lst [V.int 1,V.int 2,V.int 3,V.int 4])
     obtain ⟨kn,hkn,akn⟩:=eX (ns:=[1,2,3,4]) (i:=c / 4 % 4) (by omega) (by show c / 4 % 4 < 4; omega)
     have hk:1<=kn:=(by decide:∀ x∈([1,2,3,4]:List Int),1<=x) kn hkn
     walk_at "go"
     refine cJ (xs:=([1,2,3,4]:List Int).map V.int) cC akn ?_
     have e6:=s6 _ _ e5
     generalize upd H5 p6 (HO.lst [V.int 1,V.int 2,V.int 3,V.int 4])=H6 at e6 s6 ⊢
     have y0:=Cz nr (show kn≠0 by omega)
     have y1:=Cw nr (show 0 < kn by omega)
     have hk4:kn<=4:=(by decide:∀ x∈([1,2,3,4]:List Int),x<=4) kn hkn
     walk_at "go"
     refine kC (by decide) (by rw [show (0 + (i:Int))=((i:Nat):Int) by omega]; exact aQN hi4) ?_
     walk_at "go"
     refine eZ (z:=one (49 + i)) e6 (bC (by omega)) ?_
     refine ⟨_,_,_,rfl,aW hpp (s5.trans s6),aE,lk.put (49 + i) _,jE hf y0,?_,uT hle (by omega),hfo.put (.inr ⟨by omega,by omega⟩)⟩
     have:=cR kvs (Sum.inr (one (49 + i))) (.int (nr % kn))
     omega
   · rintro σ H5 ⟨v7,kvs,f,rfl,s5,e5,lk,hf,hkl,hle,hfo⟩
     exact hN _ _ ⟨v7,kvs,f,rfl,s5,e5,lk,hf,hkl,hle,hfo⟩
 case refine_1=>
 clear s3 e3 lk hf hkl hle hfo kvs f
 obtain ⟨v7,kvs,f,rfl,s5,e5,lk,hf,hkl,hle,hfo⟩:=j5
 have lr5:=aI s5 hlr
 walk_at "go"
 refine gS (λhc=>?_) (λhc=>?_)
 · obtain ⟨n7,i7,a7⟩:=eX (ns:=ns) (i:=27) (by omega) (by omega)
   obtain ⟨n8,i8,a8⟩:=eX (ns:=ns) (i:=28) (by omega) (by omega)
   have y0:=Cz n8 (show (3:Int)≠0 by decide)
   have y1:=Cw n8 (show (0:Int) < 3 by decide)
   have z0:=Cz n7 (show (23:Int)≠0 by decide)
   have z1:=Cw n7 (show (0:Int) < 23 by decide)
   have e1:=aXD (k:=(n7 % 23).toNat) (by omega)
   rw [show (((n7 % 23).toNat:Nat):Int)=n7 % 23 by omega] at e1
   walk_at "go"
   refine cJ lr5 a8 ?_
   walk_at "go"
   refine cJ lr5 a7 ?_
   walk_at "go"
   refine kC (by decide) e1 ?_
   walk_at "go"
   refine eZ (z:=one (97 + (n7 % 23).toNat)) e5 (bC (by omega)) ?_
   walk_at "go"
   refine q p _ _ _ hp0 (s1.trans (aW hpp s5)) aE (lk.put _ _) (λc=>⟨jE hf y0 c,uT hle (by omega) c⟩) ?_ (hfo.put (.inl ⟨by omega,by omega⟩))
   have:=cR kvs (Sum.inr (one (97 + (n7 % 23).toNat))) (.int (n8 % 3))
   omega
 · walk_at "go"
   exact q p kvs f _ hp0 (s1.trans s5) e5 lk (λc=>⟨hf c,hle c⟩) (by omega) hfo
def jI:Sp:=λvs H Q _=>∃ (cw:List Nat) (k:Nat) (p:Int),vs=[.str (bH cw),.int p]/\p=(k:Int) + 1/\k < cw.length/\cw.length<=7/\
 ∀ (r:Addr) (H':Hp),H r=none->Same H H'->H' r=some (.lst (((chs cw k).map one).map V.str))->Q (.ref r) H'
theorem sc_l_choices:FnScope ["_law_word_here", "_law_place", "_law_found", "_law_n"] ["_law_word_here", "_law_place"] (aG eP):=⟨rfl,rfl,rfl,by decide +kernel,rfl,by decide +kernel,by decide +kernel⟩
theorem uD {Zw Zz Zx Zy:Addr} {f:Addr} {fd:FuncData} (F:Fun K "_law_choices" "_law_choices" eP f fd) (G:Gs K mg Zw Zz Zx Zy)  : FnOk P w K mg base CX0 1 f fd ["_law_word_here", "_law_place"] jI:=by
 refine F.ok sc_l_choices (λvs H Q E h=>?_) (λcdv A outer s H vs Q E hr h=>?_)
 · obtain ⟨cw,k,p,rfl,_⟩:=h; rfl
 obtain ⟨cw,k,pl,rfl,hpl,hk,h7,q⟩:=h
 refine ⟨_,(@aD _ _ _ _ _ (@aO _ _ 2 _ _ _ _ sc_l_choices.nd (by rfl) (by exact (Or.inl rfl)) (bP (aA (bE bS (mv 0) (aU jY (mv 1) aJ) (λ_ _=>rfl)) aB)) (by rfl) (by first | exact Or.inl rfl | exact Or.inr rfl)) (@aD _ _ _ _ _ (bQ Ay rfl (sV rfl G.b_range (aA aJ (aA (aZ (cZU rfl) rfl G.b_min bJE (aA (mv 1) (aA aJ aB))) aB))) (aP (i:=3) sc_l_choices.nd rfl (Or.inl rfl)) (@aH _ _ _ (cG (aY vX (bE bS (mv 0) (aU jY (mv 3) aJ) (λ_ _=>rfl)) (bE bS (mv 0) (aU jY (mv 1) aJ) (λ_ _=>rfl)) (bF _)) (@aH _ _ _ (cE (cX Bh Cg Ci nR (mv 2) (aA (bE bS gP (aU jY (mv 3) aJ) (λ_ _=>rfl)) aB)))) bI))) (@aH _ _ _ (aS (mv 2))))),?_⟩
 have hwl:(bH cw).length=cw.length:=eW cw
 walk_at "go"
 refine kC (by rw [hwl]; exact bU (by omega)) (mE (k:=k) (by omega) hk) ?_
 walk_at "go"
 refine ⟨by show 1<=sizeLine; decide,λp hp=>?_⟩
 walk_at "go"
 have em:(if (5:Int) < pl then 5 else pl)=1 + ((min k 4:Nat):Int):=by split <;> omega
 rw [em]
 refine ⟨⟨by omega,by omega,by omega,by omega⟩,?_⟩
 rw [show (1 + ((min k 4:Nat):Int) - 1).toNat=min k 4 by omega]
 refine fT (λi σ H'=>∃ v,σ=[some (.str (bH cw)),some (.int pl),some (.ref p),v]/\Same H H'/\H' p=some (.lst (((cw.getD k 0 :: (List.range i).filterMap (chF cw k)).map one).map V.str)))
   ⟨none,rfl,aF hp _,aE⟩ ?_ ?_
 · rintro i σ H' hi ⟨v,rfl,sm,hH⟩
   have hi2:i < min k 4:=hi
   have hm:=bN hH
   have hlen:((((cw.getD k 0 :: (List.range i).filterMap (chF cw k)).map one).map V.str)).length < sizeLine:=by
     have:=Dg (chF cw k) (List.range i)
     rw [Bx] at this
     rw [Ab,Ab,Be]
     exact bC (by omega)
   walk_at "go"
   refine kC (by rw [hwl]; exact bU (by omega)) (mE (k:=i) (by omega) (by omega)) ?_
   walk_at "go"
   refine kC (by rw [hwl]; exact bU (by omega)) (mE (k:=k) (by omega) hk) ?_
   walk_at "go"
   rw [show decide (({ cps:=#[cw.getD i 0] }:Str)={ cps:=#[cw.getD k 0] })=decide (cw.getD i 0=cw.getD k 0) from tV _ _]
   refine gS (λhc=>?_) (λhc=>?_)
   · have he:=Ba hc
     walk_at "go"
     refine kC (by decide) (by rw [show 1 + (i:Int) - 1=(i:Int) by omega]; exact aQN (k:=i) (by omega)) ?_
     walk_at "go"
     refine ⟨_,rfl,aW hp sm,?_⟩
     rw [aE,rJ (F:=chF cw k) (if_pos he),<-List.cons_append,Ak,Ak]
     rfl
   · have he:=Bp (Br.mpr hc)
     walk_at "go"
     refine ⟨_,rfl,sm,?_⟩
     rw [hH,qS (F:=chF cw k) (if_neg he)]
 · rintro σ H' ⟨v,rfl,sm,hH⟩
   walk_at "go"
   exact q p H' hp sm hH
theorem aJF {g:TG} {tests:TT} {te:TE} {σ0:St} {Q:VK} {H1:Hp} {n:Nat} {lo:Int} (hl:n < sizeLine)
   (hs:∀ (i:Nat) Hc (A:VK) (B:Hp->Prop),i < n->Same H1 Hc->(∀ (m:Int) Hd,Same Hc Hd->A (.int m) Hd)->g (.int (lo + i)) σ0 Hc λσ2 H2=>Wk σ0 σ2/\tests σ2 H2 λb H3=>if b=true then te σ2 H3 A else B H3)
   (fin:∀ D Hd (ms:List Int),H1 D=none->Same H1 Hd->Hd D=some (.lst (ms.map V.int))->ms.length=n->Q (.ref D) Hd):eF g tests te σ0 Q (Itr lo n) H1:=by
 refine gQ (n:=n) (λD i ys Hc=>Same H1 Hc/\∃ ms:List Int,ys=ms.map V.int/\ms.length=i) hl (λD hD=>⟨aF hD _,[],rfl,rfl⟩) (λD i ys Hc _ r h=>h) (λD ys Hc _ r=>Ag n) ?_ ?_
 · rintro D i ys Hc x H' A B hD hi ⟨sm,ms,rfl,hm⟩ hDc ⟨rfl,rfl⟩ ha' hb
   refine hs i H' A B hi sm λm Hd sd=>?_
   exact ha' _ _ (sd _ _ hDc) ⟨aW hD (sm.trans sd),ms ++ [m],by rw [Ak]; rfl,by rw [Aj,hm]; rfl⟩
 · rintro D ys Hc hD ⟨sm,ms,rfl,hm⟩ hDc _
   exact fin D Hc ms hD sm hDc hm
def pM:Sp:=λvs H Q _=>∃ (cw:List Nat) (c:Int),vs=[.str (bH cw),.int c]/\1<=cw.length/\cw.length<=7/\(∀ d∈cw,bL d)/\
 ∀ (r:Addr) (cs:List Nat) (H':Hp),H r=none->Same H H'->H' r=some (.lst ((cs.map one).map V.str))->cF (cs.map one)=true->Q (.ref r) H'
theorem sc_l_hoist:FnScope ["_law_word_here", "_law_cell_here", "_law_some", "_law_hoist_here", "_law_k", "_law_choices_here"] ["_law_word_here", "_law_cell_here"] (aG gG):=⟨rfl,rfl,rfl,by decide +kernel,rfl,by decide +kernel,by decide +kernel⟩
theorem aQB {Zw Zz Zx Zy:Addr} {f:Addr} {fd:FuncData} (F:Fun K "_law_hoist" "_law_hoist" gG f fd) (G:Gs K mg Zw Zz Zx Zy) (c_l_stream:Cal P w K mg base 1 "_law_stream" ["_law_cell_here", "_law_many"] gZ) (c_l_choices:Cal P w K mg base 1 "_law_choices" ["_law_word_here", "_law_place"] jI):FnOk P w K mg base CX0 2 f fd ["_law_word_here", "_law_cell_here"] pM:=by
 refine F.ok sc_l_hoist (λvs H Q E h=>?_) (λcdv A outer s H vs Q E hr h=>?_)
 · obtain ⟨cw,c,rfl,_⟩:=h; rfl
 obtain ⟨cw,c,rfl,h1,h7,hL,q⟩:=h
 refine ⟨_,(@aD _ _ _ _ _ (@aO _ _ 2 _ _ _ _ sc_l_hoist.nd (by rfl) (by exact (Or.inl rfl)) (aT c_l_stream hr (by decide) rfl (aA (mv 1) (aA aJ aB))) (by rfl) (by first | exact Or.inl rfl | exact Or.inr rfl)) (@aD _ _ _ _ _ (@aO _ _ 3 _ _ _ _ sc_l_hoist.nd (by rfl) (by exact (Or.inl rfl)) (bP aB) (by rfl) (by first | exact Or.inl rfl | exact Or.inr rfl)) (@aD _ _ _ _ _ (bQ Ay rfl (dP rfl G.b_range (aA (aZ fB rfl G.b_len cP (aA (mv 0) aB)) aB)) (aP (i:=4) sc_l_hoist.nd rfl (Or.inl rfl)) (@aD _ _ _ _ _ (@aO _ _ 5 _ _ _ _ sc_l_hoist.nd (by rfl) (by exact (Or.inl rfl)) (aT c_l_choices hr (by decide) rfl (aA (mv 0) (aA (aU cD (mv 4) aJ) aB))) (by rfl) (by first | exact Or.inl rfl | exact Or.inr rfl)) (@aH _ _ _ (cE (cX Bh Cg Ci nR (mv 3) (aA (bE bS (mv 5) (aU fO (bE bS (mv 2) (mv 4) (λ_ _=>rfl)) (aZ fB rfl G.b_len cP (aA (mv 5) aB))) (λ_ _=>rfl)) aB)))))) (@aH _ _ _ (aS (mv 3)))))),?_⟩
 have hwl:(bH cw).length=cw.length:=eW cw
 walk_at "go"
 refine ⟨c,7,rfl,by omega,by omega,λr ns H1 hr1 s1 hl hp he=>?_⟩
 have hl7:ns.length=7:=hl
 have hlr:rdL H1 r=some (ns.map V.int):=aM he
 walk_at "go"
 refine ⟨by decide,λp hpp=>?_⟩
 have hp0:=none_of s1 hpp
 walk_at "go"
 rw [hwl]
 refine ⟨⟨by omega,by omega⟩,?_⟩
 refine fT (λi σ H'=>∃ (cs:List Nat) (v4 v5:Option V),σ=[some (.str (bH cw)),some (.int c),some (.ref r),some (.ref p),v4,v5]/\Same H1 H'/\H' p=some (.lst ((cs.map one).map V.str))/\cs.length=i/\∀ k,k < i->cs.getD k 0∈chs cw k)
   ⟨[],_,_,rfl,aF hpp _,aE,rfl,λk hk=>absurd hk (Ey _)⟩ ?_ ?_
 · rintro i σ H2 hi ⟨cs,v4,v5,rfl,s2,e2,hcl,hch⟩
   have hi7:i < cw.length:=by omega
   walk_at "go"
   refine ⟨cw,i,_,rfl,by omega,hi7,h7,λr3 H3 hr3 s3 e3=>?_⟩
   have rl3:=aI (s2.trans s3) hlr
   have rc3:=aM e3
   have e23:=s3 _ _ e2
   have hm3:=bN e23
   have hll:((cs.map one).map V.str).length < sizeLine:=bC (by rw [Ab,Ab]; omega)
   have hcp:0 < (chs cw i).length:=List.length_pos_of_mem (ch_iff.mpr (.inl rfl))
   have hcll:(((chs cw i).map one).map V.str).length=(chs cw i).length:=by rw [Ab,Ab]
   obtain ⟨nk,ik,ak⟩:=eX (ns:=ns) (i:=0 + (i:Int)) (by omega) (by omega)
   walk_at "go"
   refine cJ rl3 ak ?_
   walk_at "go"
   rw [hcll]
   have z0:=Cz nk (show ((chs cw i).length:Int)≠0 by omega)
   have z1:=Cw nk (show (0:Int) < ((chs cw i).length:Int) by omega)
   obtain ⟨u,eu⟩:∃ u:Nat,nk % ((chs cw i).length:Int)=((u:Nat):Int):=⟨(nk % ((chs cw i).length:Int)).toNat,by omega⟩
   rw [eu] at z0 z1 ⊢
   have hu:u < (chs cw i).length:=by omega
   obtain ⟨d,hd⟩:∃ d,(chs cw i)[u]?=some d:=⟨_,Aa hu⟩
   refine cJ rc3 (dX (by rw [Ah,Ah,hd]; rfl)) ?_
   walk_at "go"
   refine ⟨cs ++ [d],_,_,rfl,aW hpp (s2.trans s3),by rw [aE,Ak,Ak]; rfl,by rw [Aj,hcl]; rfl,λk hk=>?_⟩
   by_cases hki:k < i
   · rw [Ac,Ap (by omega),<-Ac]
     exact hch k hki
   · have e:k=i:=by omega
     rw [e,Ac,Av (by omega),hcl,Fn]
     exact Ai hd
 · rintro σ H2 ⟨cs,v4,v5,rfl,s2,e2,hcl,hch⟩
   have hcl':cs.length=cw.length:=by rw [hcl]; omega
   walk_at "go"
   exact q p cs H2 hp0 (s1.trans s2) e2 (xT hL (by omega) (by omega) (by omega) λk hk=>hch k (by omega))
def kP:Sp:=λvs H Q _=>∃ (b:Addr) (ns:List Int) (m:Int),vs=[.ref b,.int m]/\rdL H b=some (ns.map V.int)/\ns.length<=6/\
 ∀ (r:Addr) (us:List V) (hs:List (Option (List Nat))) (H':Hp),H r=none->Same H H'->H' r=some (.lst us)->HalsAt H' us hs->HalOk hs->hs.length=ns.length->Q (.ref r) H'
theorem HalOk.snoc {hs:List (Option (List Nat))} (u:HalOk hs) {h:Option (List Nat)} (k:∀ cs,h=some cs->cF (cs.map one)=true):HalOk (hs ++ [h]):=λcs hcs=>by
 rcases Bj.mp hcs with e | e
 · exact u cs e
 · exact k cs (As.mp e).symm
theorem sc_l_halyards:FnScope ["_law_cells", "_law_spread", "_law_found", "_law_cell_here"] ["_law_cells", "_law_spread"] (aG dL):=⟨rfl,rfl,rfl,by decide +kernel,rfl,by decide +kernel,by decide +kernel⟩
theorem qO {Zw Zz Zx Zy:Addr} {f:Addr} {fd:FuncData} (F:Fun K "_law_halyards" "_law_halyards" dL f fd) (G:Gs K mg Zw Zz Zx Zy) (c_l_hoist:Cal P w K mg base 2 "_law_hoist" ["_law_word_here", "_law_cell_here"] pM) (c_l_word:Cal P w K mg base 2 "_law_word" ["_law_cell_here", "_law_spread", "_law_longest"] mX):FnOk P w K mg base CX0 3 f fd ["_law_cells", "_law_spread"] kP:=by
 refine F.ok sc_l_halyards (λvs H Q E h=>?_) (λcdv A outer s H vs Q E hr h=>?_)
 · obtain ⟨b,ns,m,rfl,_⟩:=h; rfl
 obtain ⟨b,ns,m,rfl,hb,h6,q⟩:=h
 refine ⟨_,(@aD _ _ _ _ _ (@aO _ _ 2 _ _ _ _ sc_l_halyards.nd (by rfl) (by exact (Or.inl rfl)) (bP aB) (by rfl) (by first | exact Or.inl rfl | exact Or.inr rfl)) (@aD _ _ _ _ _ (bQ Ay rfl (bW (mv 0)) (aP (i:=3) sc_l_halyards.nd rfl (Or.inl rfl)) (@aH _ _ _ (cG (aY vX (aU fO (mv 3) aJ) aJ (bF _)) (@aH _ _ _ (cE (cX Bh Cg Ci nR (mv 2) (aA dC aB)))) (@aH _ _ _ (cE (cX Bh Cg Ci nR (mv 2) (aA (aT c_l_hoist hr (by decide) rfl (aA (aT c_l_word hr (by decide) rfl (aA (aU kB (mv 3) aJ) (aA (mv 1) (aA aJ aB)))) (aA (aU kB (mv 3) aJ) aB))) aB))))))) (@aH _ _ _ (aS (mv 2))))),?_⟩
 have hnl:(ns.map V.int).length=ns.length:=Ab ..
 walk_at "go"
 refine ⟨by decide,λp hpp=>?_⟩
 walk_at "go"
 refine cT (xs:=ns.map V.int) (λi σ H'=>∃ (us:List V) (hs:List (Option (List Nat))) (v3:Option V),σ=[some (.ref b),some (.int m),some (.ref p),v3]/\Same H H'/\H' p=some (.lst us)/\HalsAt H' us hs/\HalOk hs/\hs.length=i)
   ⟨[],[],_,rfl,aF hpp _,aE,HalsAt.nil,(λc hc=>nomatch hc),rfl⟩ (λi σ H' _ ⟨_,_,_,_,e,_⟩=>aI e hb) ?_ ?_
 · rintro i x σ H2 hx ⟨us,hs,v3,rfl,s2,e2,hat,ok,hlen⟩
   have hi:i < ns.length:=by have:=(Ad.mp hx).1; rw [hnl] at this; exact this
   obtain ⟨c,_,rfl⟩:=zQ hx
   have hul:us.length < sizeLine:=bC (by rw [hat.len]; omega)
   walk_at "go"
   refine gS (λhc=>?_) (λhc=>?_)
   · have hm2:=bN e2
     walk_at "go"
     exact ⟨_,hs ++ [none],_,rfl,aW hpp s2,aE,(hat.put e2).snoc rfl,ok.snoc (λcs e=>nomatch e),by rw [Aj,hlen]; rfl⟩
   · walk_at "go"
     refine ⟨_,m,4,rfl,by omega,by omega,λcw H3 s3 h1 h4 hL=>?_⟩
     walk_at "go"
     refine ⟨cw,_,rfl,h1,by omega,hL,λl cs H4 hl s4 el hb4=>?_⟩
     have s24:=s3.trans s4
     have e4:=s24 _ _ e2
     have hm4:=bN e4
     have hat4:=hat.keep s24
     have nlp:l≠p:=λz=>by rw [z,s3 _ _ e2] at hl; cases hl
     walk_at "go"
     exact ⟨_,hs ++ [some cs],_,rfl,aW hpp (s2.trans s24),aE,(hat4.put e4).snoc ⟨l,rfl,by rw [aK nlp]; exact el⟩,ok.snoc (λcs' e=>by cases e; exact hb4),by rw [Aj,hlen]; rfl⟩
 · rintro σ H2 ⟨us,hs,v3,rfl,s2,e2,hat,ok,hlen⟩
   rw [hnl] at hlen
   walk_at "go"
   exact q p us hs H2 hpp s2 e2 hat ok hlen
def qH (K:PySem.W.Frag):Sp:=λvs H Q _=>∃ (a:Addr) (ns:List Int) (st:Int),vs=[.ref a,.int st]/\SqL K H a (ns.map V.int)/\0<=st/\st<=1000/\
 ∀ (r l b:Addr) (kvs:List (Key × V)) (f:Nat->Option Int) (us:List V) (hs:List (Option (List Nat))) (n:Nat) (cw:List Nat) (H':Hp),Same H H'->H' r=some (.lst [.ref l,.ref b,.int ((n:Nat):Int),.str (bH cw)])->H' b=some (.lst us)->lH H' l b kvs f us hs n cw->kvs.length<=100->(∀ c,aL f c<=1000)->FlOnly f->Q (.ref r) H'
theorem sc_l_drawn:FnScope ["_law_script", "_law_start", "_law_cell_here", "_law_many", "_law_halyards_here", "_law_word_here", "_law_number"] ["_law_script", "_law_start"] (aG fD):=⟨rfl,rfl,rfl,by decide +kernel,rfl,by decide +kernel,by decide +kernel⟩
theorem aQF {Zw Zz Zx Zy:Addr} {f:Addr} {fd:FuncData} (F:Fun K "_law_drawn" "_law_drawn" fD f fd) (G:Gs K mg Zw Zz Zx Zy) (c_l_cell:Cal P w K mg base 1 "_law_cell" ["_law_script", "_law_k"] (sB K)) (c_l_halyards:Cal P w K mg base 3 "_law_halyards" ["_law_cells", "_law_spread"] kP) (c_l_word:Cal P w K mg base 2 "_law_word" ["_law_cell_here", "_law_spread", "_law_longest"] mX) (c_l_locker:Cal P w K mg base 2 "_law_locker" ["_law_cell_here", "_law_words_here"] nP):FnOk P w K mg base CX0 4 f fd ["_law_script", "_law_start"] (qH K):=by
 refine F.ok sc_l_drawn (λvs H Q E h=>?_) (λcdv A outer s H vs Q E hr h=>?_)
 · obtain ⟨a,ns,st,rfl,_⟩:=h; rfl
 obtain ⟨a,ns,st,rfl,hS,h0,h1,q⟩:=h
 refine ⟨_,(@aD _ _ _ _ _ (@aO _ _ 2 _ _ _ _ sc_l_drawn.nd (by rfl) (by exact (Or.inl rfl)) (aT c_l_cell hr (by decide) rfl (aA (mv 0) (aA (mv 1) aB))) (by rfl) (by first | exact Or.inl rfl | exact Or.inr rfl)) (@aD _ _ _ _ _ (@aO _ _ 3 _ _ _ _ sc_l_drawn.nd (by rfl) (by exact (Or.inl rfl)) (aU cD aJ (aU fO (mv 2) aJ)) (by rfl) (by first | exact Or.inl rfl | exact Or.inr rfl)) (@aD _ _ _ _ _ (@aO _ _ 4 _ _ _ _ sc_l_drawn.nd (by rfl) (by exact (Or.inl rfl)) (aT c_l_halyards hr (by decide) rfl (aA (dD rfl (dP rfl G.b_range (aA (mv 3) aB)) (iE (N:=["_law_k", "_law_script", "_law_start"]) ["_law_script", "_law_start", "_law_cell_here", "_law_many", "_law_halyards_here", "_law_word_here", "_law_number"] (aG fD) [none,some 0,some 1] rfl rfl rfl (λx h=>cH h) (by decide +kernel)) (by decide +kernel) rfl (by decide +kernel) (λC s₀ H₀ ex=>(aP (i:=0) (show List.Nodup (["_law_k", "_law_script", "_law_start"]:List Str) by decide +kernel) rfl (Or.inl rfl))) (λC s₀ H₀ ex=>jB) (λC s₀ H₀ ex=>(aT c_l_cell hr (by decide) rfl (aA (mv 1) (aA (aU cD (aU cD (mv 2) aJ) (mv 0)) aB))))) (aA (aU kB (mv 2) aJ) aB))) (by rfl) (by first | exact Or.inl rfl | exact Or.inr rfl)) (@aD _ _ _ _ _ (@aO _ _ 5 _ _ _ _ sc_l_drawn.nd (by rfl) (by exact (Or.inl rfl)) (aT c_l_word hr (by decide) rfl (aA (aT c_l_cell hr (by decide) rfl (aA (mv 0) (aA (aU cD (mv 1) aJ) aB))) (aA (aU kB (mv 2) aJ) (aA aJ aB)))) (by rfl) (by first | exact Or.inl rfl | exact Or.inr rfl)) (@aD _ _ _ _ _ (@aO _ _ 6 _ _ _ _ sc_l_drawn.nd (by rfl) (by exact (Or.inl rfl)) (aU fO (aT c_l_cell hr (by decide) rfl (aA (mv 0) (aA (aU cD (mv 1) aJ) aB))) (mv 3)) (by rfl) (by first | exact Or.inl rfl | exact Or.inr rfl)) (@aH _ _ _ (aS (@bP _ _ _ _ (aA (aT c_l_locker hr (by decide) rfl (aA (aT c_l_cell hr (by decide) rfl (aA (mv 0) (aA (aU cD (mv 1) aJ) aB))) (aA (bP (aA (mv 5) aB)) aB))) (aA (mv 4) (aA (mv 6) (aA (mv 5) aB)))))))))))),?_⟩
 walk_at "go"
 refine ⟨a,ns,_,rfl,hS,by omega,λn1=>?_⟩
 have y0:=Cz n1 (show (6:Int)≠0 by decide)
 have y1:=Cw n1 (show (0:Int) < 6 by decide)
 walk_at "go"
 refine ⟨⟨by omega,by omega⟩,?_⟩
 refine aJF (bC (by omega)) (λi Hc A B hi sm hA=>?_) (λD Hd ms hD sD hd hml=>?_)
 · walk_at "go"
   refine ⟨Wk.set rfl (Wk.refl _),?_⟩
   walk_at "go"
   exact ⟨a,ns,_,rfl,sm.seq hS,by omega,λn2=>hA n2 _ (Same.refl _)⟩
 walk_at "go"
 refine ⟨D,ms,_,rfl,aM hd,by omega,λb us hs H2 hb s2 e2 hat ok hlen=>?_⟩
 have s02:=sD.trans s2
 walk_at "go"
 refine ⟨a,ns,_,rfl,s02.seq hS,by omega,λn2=>?_⟩
 walk_at "go"
 refine ⟨_,_,7,rfl,by omega,by omega,λcw H3 s3 h1' h7 hL=>?_⟩
 have s03:=s02.trans s3
 walk_at "go"
 refine ⟨a,ns,_,rfl,s03.seq hS,by omega,λn3=>?_⟩
 walk_at "go"
 have z0:=Cz n3 (show 1 + n1 % 6≠0 by omega)
 have z1:=Cw n3 (show 0 < 1 + n1 % 6 by omega)
 obtain ⟨n,hn⟩:∃ n:Nat,n3 % (1 + n1 % 6)=((n:Nat):Int):=⟨(n3 % (1 + n1 % 6)).toNat,by omega⟩
 rw [hn] at z0 z1 ⊢
 refine ⟨a,ns,_,rfl,s03.seq hS,by omega,λn4=>?_⟩
 walk_at "go"
 refine ⟨by show 1<=sizeLine; decide,λp4 hp4=>?_⟩
 have s4:=aF hp4 (.lst [V.str (bH cw)])
 have e4:rdL (upd H3 p4 (.lst [V.str (bH cw)])) p4=some ((([cw]:List (List Nat)).map bH).map V.str):=cC
 generalize upd H3 p4 (.lst [V.str (bH cw)])=H4 at s4 e4 ⊢
 walk_at "go"
 refine ⟨n4,p4,[cw],rfl,e4,by show 1<=8; decide,λc hc=>by rw [As.mp hc]; exact ⟨by omega,hL⟩,λl kvs f H5 hl s5 el lk hf hkl hfo=>?_⟩
 walk_at "go"
 refine ⟨by show 4<=sizeLine; decide,λr hr=>?_⟩
 have s6:=aF hr (.lst [.ref l,.ref b,.int ((n:Nat):Int),.str (bH cw)])
 have s26:=s3.trans (s4.trans (s5.trans s6))
 exact q r l b kvs f us hs n cw _ (s02.trans s26) aE (s26 _ _ e2) ⟨s6 _ _ el,lk,λc=>(hf c).1,aM (s26 _ _ e2),hat.keep s26,ok,by omega,by omega,h1',by omega,hL⟩ hkl (λc=>(hf c).2) hfo
def cA (hs:List (Option (List Nat))) (n:Nat):List Nat:=(hs.getD n none).getD []
theorem xY {hs:List (Option (List Nat))} (ok:HalOk hs) (n:Nat):(cA hs n).length<=7:=by
 unfold cA
 cases e:hs.getD n none with
 | none=>exact Ck _
 | some cs=>
   have hm:some cs∈hs:=by
     rw [Ac] at e
     cases e2:hs[n]? with
     | none=>rw [e2] at e; cases e
     | some h=>
       rw [e2] at e
       rw [<-show h=some cs from e]
       exact Ai e2
   have h7:=eQ (ok cs hm)
   rw [Ab] at h7
   exact h7.2
theorem dQ7 {σ:St} {H1:Hp} {Q:VK} {v:V} {h:Option (List Nat)} (hv:HalV H1 v h) (q:∀ p H2,Same H1 H2->rdL H2 p=some (((h.getD []).map one).map V.str)->Q (.ref p) H2) :
   (v=.non/\bXT yU σ H1 Q)\/∃ (p:Addr) (xs:List V),v=.ref p/\rdL H1 p=some xs/\(xs≠[]->Q (.ref p) H1)/\(xs=[]->bXT yU σ H1 Q):=by
 have e0:h.getD []=[]->bXT yU σ H1 Q:=λe=>⟨Ck _,λp hp=>q p _ (aF hp _) (by rw [e]; exact cC)⟩
 cases h with
 | none=>exact .inl ⟨hv,e0 rfl⟩
 | some cs=>
   obtain ⟨p,e,hp⟩:=hv
   exact .inr ⟨p,_,e,aM hp,λ_=>q p H1 (Same.refl _) (aM hp),λz=>e0 (by cases cs with | nil=>rfl | cons a r=>cases z)⟩
theorem bZ1 {f:Nat->Option Int} {d c:Nat} {x:Int}:aL (λe=>if e=d then some x else f e) c=if c=d then x else aL f c:=by
 unfold aL
 dsimp only
 by_cases e:c=d
 · rw [if_pos e,if_pos e]; rfl
 · rw [if_neg e,if_neg e]
theorem lT (xs ys:List Nat) (c:Nat):cnt (xs ++ ys) c=cnt xs c + cnt ys c:=by
 unfold cnt
 rw [Fx]
 exact Int.natCast_add ..
theorem lY {cs:List Nat} {c:Nat} (h:c ∉ cs):cnt cs c=0:=by
 unfold cnt
 rw [List.countP_eq_zero.mpr λx hx z=>h (by rw [<-eq_of_beq z]; exact hx)]
 rfl
theorem vN {F:List Nat} {i:Nat} {x:V} (h:((F.map one).map V.str)[i]?=some x):∃ c,F[i]?=some c/\x=V.str (one c):=by
 rw [Ah,Ah] at h
 cases e:F[i]? with
 | none=>rw [e] at h; cases h
 | some c=>rw [e] at h; cases h; exact ⟨c,rfl,rfl⟩
def oV (kvs:List (Key × V)):List Nat:=kvs.map λkv=>match kv.1 with | Sum.inr z=>jL z | _=>0
theorem Lk.keysC {kvs:List (Key × V)} {f:Nat->Option Int} (h:Lk kvs f):kvs.map (·.1)=((oV kvs).map one).map Sum.inr:=by
 unfold oV
 rw [Dc,Dc]
 refine De λkv hkv=>?_
 obtain ⟨c,n,rfl⟩:=h.ks kv hkv
 rfl
theorem Lk.mem_keyC {kvs:List (Key × V)} {f:Nat->Option Int} (h:Lk kvs f) (c:Nat):c∈oV kvs ↔ f c≠none:=by
 constructor
 · intro hm
   obtain ⟨kv,hkv,e⟩:=Bg.mp hm
   obtain ⟨c',n,rfl,hf⟩:=h.at_mem hkv
   have:c'=c:=e
   rw [<-this,hf]
   exact λz=>nomatch z
 · intro hn
   have v:=h.val c
   have q:(kvs.any λkv=>decide (kv.1=Sum.inr (one c)))=true:=by
     rw [dW,v]
     cases e:f c with
     | none=>exact absurd e hn
     | some n=>rfl
   obtain ⟨kv,hkv,e⟩:=Gg.mp q
   obtain ⟨c',n,rfl⟩:=h.ks kv hkv
   have e2:c'=c:=key_one.mp (Ba e)
   exact Bg.mpr ⟨_,hkv,e2⟩
theorem cZF {kvs:List (Key × V)} {f:Nat->Option Int} (lk:Lk kvs f) (hf:FlOnly f):kvs.length<=27:=by
 have nd:(oV kvs).Nodup:=by
   have h:=lk.nd
   rw [lk.keysC,Dc] at h
   exact (List.pairwise_map.mp h).imp fun {a b} h z=>h (by rw [z])
 have r:=pV (m:=flagsT.cps.toList) nd λc hc=>flags_mem.mpr (hf c (Fp.mpr ((lk.mem_keyC c).mp hc)))
 unfold oV at r
 rw [Ab] at r
 exact r
theorem bX4 {hs:List (Option (List Nat))} (ok:HalOk hs) {k d:Nat} (h:d∈cA hs k):fP d:=by
 unfold cA at h
 cases e:hs.getD k none with
 | none=>rw [e] at h; cases h
 | some cs=>
   rw [e] at h
   have hm:some cs∈hs:=by
     rw [Ac] at e
     cases e2:hs[k]? with
     | none=>rw [e2] at e; cases e
     | some h=>
       rw [e2] at e
       rw [<-show h=some cs from e]
       exact Ai e2
   obtain ⟨i,hi⟩:=Ed.mp (show d∈cs from h)
   obtain ⟨c',e1,_,hcc⟩:=iZ (ok cs hm) (i:=i) (z:=one d) (by rw [Ah,hi]; rfl)
   rw [<-one_inj.mp e1] at hcc
   exact hcc.imp id And.left
theorem uW {hs:List (Option (List Nat))} {ks:List Nat} {i k:Nat} (h:ks[i]?=some k):aX hs (ks.take (i + 1))=aX hs (ks.take i) ++ cA hs k:=by
 unfold aX
 rw [Bc,h,Dz]
 show _ ++ ((hs.getD k none).getD [] ++ [])=_
 rw [Bm]
 rfl
def sW:Sp:=λvs H Q _=>∃ (a b l:Addr) (kvs:List (Key × V)) (f:Nat->Option Int) (us:List V) (hs:List (Option (List Nat))) (ks:List Nat),vs=[.ref a,.ref b,.ref l]/\H a=some (.dK kvs)/\Lk kvs f/\FlOnly f/\rdL H b=some us/\HalsAt H us hs/\HalOk hs/\rdL H l=some (ks.map λk=>V.int ((k:Nat):Int))/\ks.length<=6/\(∀ k∈ks,k < hs.length)/\
 ∀ (r:Addr) (kws:List (Key × V)) (g:Nat->Option Int) (H':Hp),H r=none->Same H H'->H' r=some (.dK kws)->Lk kws g->FlOnly g->(∀ c,aL g c=aL f c + cnt (aX hs ks) c)->Q (.ref r) H'
theorem sc_l_pool:FnScope ["_law_locker_here", "_law_halyards_here", "_law_numbers", "_law_pool_here", "_law_k", "_law_flag"] ["_law_locker_here", "_law_halyards_here", "_law_numbers"] (aG iI):=⟨rfl,rfl,rfl,by decide +kernel,rfl,by decide +kernel,by decide +kernel⟩
theorem aZL {Zw Zz Zx Zy:Addr} {f:Addr} {fd:FuncData} (F:Fun K "_law_pool" "_law_pool" iI f fd) (G:Gs K mg Zw Zz Zx Zy)  : FnOk P w K mg base CX0 1 f fd ["_law_locker_here", "_law_halyards_here", "_law_numbers"] sW:=by
 refine F.ok sc_l_pool (λvs H Q E h=>?_) (λcdv A outer s H vs Q E hr h=>?_)
 · obtain ⟨a,b,l,kvs,f,us,hs,ks,rfl,_⟩:=h; rfl
 obtain ⟨a,b,l,kvs,f,us,hs,ks,rfl,ha,lk,hfo,hb,hat,ok,hl,hks,hkk,q⟩:=h
 refine ⟨_,(@aD _ _ _ _ _ (@aO _ _ 3 _ _ _ _ sc_l_pool.nd (by rfl) (by exact (Or.inl rfl)) (bK pJ rfl G.b_dict oI (aA (mv 0) aB)) (by rfl) (by first | exact Or.inl rfl | exact Or.inr rfl)) (@aD _ _ _ _ _ (bQ Ay rfl (bW (mv 2)) (aP (i:=4) sc_l_pool.nd rfl (Or.inl rfl)) (@aH _ _ _ (bQ Ay rfl (bW (dQE (bE bS (mv 1) (mv 4) (λ_ _=>rfl)) (yJ (bP aB)))) (aP (i:=5) sc_l_pool.nd rfl (Or.inl rfl)) (@aH _ _ _ (dM (Room.u1 hr) (mv 3) (mv 5) (aU cD (fR Bw Cs (tJ (Room.u1 hr)) (mv 3) (aA (mv 5) (aA aJ aB))) aJ) rfl))))) (@aH _ _ _ (aS (mv 3))))),?_⟩
 walk_at "go"
 refine pB (.inl ha) λp hp=>?_
 have s1:=aF hp (.dK kvs)
 have e1:(upd H p (.dK kvs)) p=some (.dK kvs):=aE
 generalize upd H p (.dK kvs)=H1 at s1 e1 ⊢
 have hl1:=aI s1 hl
 walk_at "go"
 refine cT (xs:=(ks.map λk=>V.int ((k:Nat):Int))) (λi σ H'=>∃ (kv1:List (Key × V)) (f1:Nat->Option Int) (v4 v5:Option V),σ=[some (.ref a),some (.ref b),some (.ref l),some (.ref p),v4,v5]/\Same H H'/\H' p=some (.dK kv1)/\Lk kv1 f1/\(∀ c,aL f1 c=aL f c + cnt (aX hs (ks.take i)) c)/\FlOnly f1)
   ⟨kvs,f,_,_,rfl,s1,e1,lk,(λc=>by rw [Ec]; show _=_ + ((0:Nat):Int); omega),hfo⟩ (λi σ H' _ ⟨_,_,_,_,_,e,_⟩=>aI e hl) ?_ ?_
 · rintro i x σ H2 hx ⟨kv0,f0,v4,v5,rfl,s2,e2,lk0,hf0',hl0⟩
   obtain ⟨k,hk,rfl⟩:=iV hx
   have hi6:i < ks.length:=(Ad.mp hk).1
   have hb2:=aI s2 hb
   obtain ⟨u,au,_,hv⟩:=(hat.keep s2).get (hkk k (Ai hk))
   walk_at "go"
   unfold dZF
   walk_at "go"
   refine cJ hb2 au ?_
   refine dQ7 hv λpc H3 s3 r3=>?_
   have h7:(cA hs k).length<=7:=xY ok k
   have s03:=s2.trans s3
   have e3:=s3 _ _ e2
   change rdL H3 pc=some (((cA hs k).map one).map V.str) at r3
   walk_at "go"
   refine cT (xs:=((cA hs k).map one).map V.str) (λj σ H'=>∃ (kv1:List (Key × V)) (f1:Nat->Option Int) (v5:Option V),σ=[some (.ref a),some (.ref b),some (.ref l),some (.ref p),some (.int ((k:Nat):Int)),v5]/\Same H H'/\rdL H' pc=some (((cA hs k).map one).map V.str)/\H' p=some (.dK kv1)/\Lk kv1 f1/\(∀ c,aL f1 c=aL f0 c + cnt ((cA hs k).take j) c)/\FlOnly f1)
     ⟨kv0,f0,_,rfl,s03,r3,e3,lk0,(λc=>by rw [Ec]; show _=_ + ((0:Nat):Int); omega),hl0⟩ (λi σ H' _ ⟨_,_,_,_,_,e,_⟩=>e) ?_ ?_
   · rintro j x σ H4 hx ⟨kv1,f1,v5,rfl,s4,r4,e4,lg,hg,hlj⟩
     have hj:j < (cA hs k).length:=by have:=(Ad.mp hx).1; rw [Ab,Ab] at this; exact this
     obtain ⟨d,hd,rfl⟩:=vN hx
     have hpl:kv1.length < sizeLine:=bC (by have:=cZF lg hlj; omega)
     have ppc:pc≠p:=λz=>by rw [z] at r4; unfold rdL at r4; rw [e4] at r4; cases r4
     walk_at "go"
     refine sZ (z:=one d) (.inl e4) ?_
     rw [lg.val d,kG]
     walk_at "go"
     refine eZ (z:=one d) e4 hpl ?_
     refine ⟨_,_,_,rfl,aW hp s4,by rw [zB ppc]; exact r4,aE,lg.put d (aL f1 d + 1),λc=>?_,hlj.put (bX4 ok (Ai hd))⟩
     rw [bZ1,jP hd]
     have h1:=hg c
     have h2:=hg d
     by_cases e:c=d
     · rw [if_pos e,if_pos e,e,h2]; omega
     · rw [if_neg e,if_neg e,h1]; omega
   · rintro σ H4 ⟨kv1,f1,v5,rfl,s4,r4,e4,lg,hg,hlj⟩
     rw [Bo (by rw [Ab,Ab]; exact Ag _)] at hg
     refine ⟨kv1,f1,_,_,rfl,s4,e4,lg,λc=>?_,hlj⟩
     rw [hg c,hf0' c,uW hk,lT]
     omega
 · rintro σ H2 ⟨kv0,f0,v4,v5,rfl,s2,e2,lk0,hf0',hl0⟩
   rw [Bo (by rw [fL]; exact Ag _)] at hf0'
   walk_at "go"
   exact q p kv0 f0 H2 hp s2 e2 lk0 hl0 hf0'
theorem cXD {c:Nat} (h:dF c):Builtin.Str.occurrences (Str.ofString "1234") (one c) 0 (Str.ofString "1234").length 1=[c - 49]:=by
 have q:∀ k:_root_.Fin 4,Builtin.Str.occurrences (Str.ofString "1234") (one (49 + k.val)) 0 (Str.ofString "1234").length 1=[k.val]:=by decide +kernel
 unfold dF at h
 have e:=q ⟨c - 49,by omega⟩
 rwa [show 49 + (c - 49)=c by omega] at e
def sN:Sp:=λvs H Q _=>∃ (b:Addr) (cs:List Nat),vs=[.ref b]/\rdL H b=some ((cs.map one).map V.str)/\cF (cs.map one)=true/\Q (.str (bH (rdC cs))) H
theorem sc_l_read:FnScope ["_law_hoist_here", "_law_word_here", "_law_flag"] ["_law_hoist_here"] (aG iF):=⟨rfl,rfl,rfl,by decide +kernel,rfl,by decide +kernel,by decide +kernel⟩
theorem aZS {Zw Zz Zx Zy:Addr} {f:Addr} {fd:FuncData} (F:Fun K "_law_read" "_law_read" iF f fd) (G:Gs K mg Zw Zz Zx Zy)  : FnOk P w K mg base CX0 1 f fd ["_law_hoist_here"] sN:=by
 refine F.ok sc_l_read (λvs H Q E h=>?_) (λcdv A outer s H vs Q E hr h=>?_)
 · obtain ⟨b,cs,rfl,_⟩:=h; rfl
 obtain ⟨b,cs,rfl,hb,hh,q⟩:=h
 refine ⟨_,(@aD _ _ _ _ _ (@aO _ _ 1 _ _ _ _ sc_l_read.nd (by rfl) (by exact (Or.inl rfl)) gP (by rfl) (by first | exact Or.inl rfl | exact Or.inr rfl)) (@aD _ _ _ _ _ (bQ Ay rfl (bW (mv 0)) (aP (i:=2) sc_l_read.nd rfl (Or.inl rfl)) (@aH _ _ _ (cG (aY aQ1 (mv 2) gP (by rfl)) (@aH _ _ _ (@aO _ _ 1 _ _ _ _ sc_l_read.nd (by rfl) (by exact (Or.inl rfl)) (aU cD (mv 1) (bE bS (mv 1) (cX PySem.F.plainAttrs_str PySem.F.slot_str_index PySem.F.type_str_index aXO gP (aA (mv 2) aB)) (λ_ _=>rfl))) (by rfl) (by first | exact Or.inl rfl | exact Or.inr rfl))) (@aH _ _ _ (@aO _ _ 1 _ _ _ _ sc_l_read.nd (by rfl) (by exact (Or.inl rfl)) (aU cD (mv 1) (mv 2)) (by rfl) (by first | exact Or.inl rfl | exact Or.inr rfl)))))) (@aH _ _ _ (aS (mv 1))))),?_⟩
 have h7:=eQ hh
 rw [Ab] at h7
 have hll:((cs.map one).map V.str).length=cs.length:=by rw [Ab,Ab]
 walk_at "go"
 refine cT (xs:=(cs.map one).map V.str) (λi σ H'=>∃ v,σ=[some (.ref b),some (.str (bH (rdC (cs.take i)))),v]/\H'=H)
   ⟨none,rfl,rfl⟩ (λi σ H' _ ⟨_,_,e⟩=>by rw [e]; exact hb) ?_ ?_
 · rintro i x σ H' hx ⟨v,rfl,rfl⟩
   obtain ⟨c,hc,rfl⟩:=vN hx
   obtain ⟨c',e1,_,hcc⟩:=iZ hh (i:=i) (z:=one c) (by rw [Ah,hc]; rfl)
   rw [<-one_inj.mp e1] at hcc
   have hi:i < cs.length:=(Ad.mp hc).1
   have hrl:(rdC (cs.take i)).length=i:=jC (by omega)
   have hst:=mH hc
   generalize rdC (cs.take i)=wd at hrl hst ⊢
   have hwl:(bH wd).length=i:=(eW wd).trans hrl
   walk_at "go"
   rw [if_neg Ao,show subIn (one c) (Str.ofString "1234")=decide (dF c) from lL c]
   refine gS (λhd=>?_) (λhd=>?_)
   · have hs:=Ba hd
     have hlt:c - 49 < i:=(hcc.resolve_left λl=>hJ l hs).2
     walk_at "go"
     refine aXW (cXD hs) ?_
     walk_at "go"
     have e1:atI (bH wd).cps.toList ((c - 49:Nat):Int)=some (wd.getD (c - 49) 0):=by
       refine dX ?_
       rw [mU,Ac,Aa (by omega)]
       rfl
     have h2:(⟨#[wd.getD (c - 49) 0]⟩:Str).length=1:=rfl
     refine kC (by rw [hwl]; exact bU (by omega)) e1 ?_
     walk_at "go"
     refine ⟨some (.str (one c)),?_,rfl⟩
     rw [hst,show stp wd c=wd.getD (c - 49) 0 from if_pos hs,<-iL]
     rfl
   · have hs:=Bp (Br.mpr hd)
     have h2:(one c).length=1:=rfl
     walk_at "go"
     refine ⟨some (.str (one c)),?_,rfl⟩
     rw [hst,show stp wd c=c from if_neg hs,<-iL]
     rfl
 · rintro σ H' ⟨v,rfl,rfl⟩
   walk_at "go"
   rw [Bo (by rw [hll]; exact Ag _)]
   exact q
def nL:Sp:=λvs H Q _=>∃ (b:Addr) (us:List V) (hs:List (Option (List Nat))) (n:Nat),vs=[.ref b,.int ((n:Nat):Int)]/\rdL H b=some us/\HalsAt H us hs/\hs.length<=7/\
 ∀ (r:Addr) (H':Hp),H r=none->Same H H'->H' r=some (.lst ((aV hs n).map λk=>V.int ((k:Nat):Int)))->Q (.ref r) H'
theorem wF:FnScope ["_law_halyards_here", "_law_number"] ["_law_halyards_here", "_law_number"] (aG dZ):=⟨rfl,rfl,rfl,by decide +kernel,rfl,by decide +kernel,by decide +kernel⟩
theorem vO {Zw Zz Zx Zy:Addr} {f:Addr} {fd:FuncData} (F:Fun K "_law_others" "_law_others" dZ f fd) (G:Gs K mg Zw Zz Zx Zy)  : FnOk P w K mg base CX0 1 f fd ["_law_halyards_here", "_law_number"] nL:=by
 refine F.ok wF (λvs H Q E h=>?_) (λcdv A outer s H vs Q E hr h=>?_)
 · obtain ⟨b,us,hs,n,rfl,_⟩:=h; rfl
 obtain ⟨b,us,hs,n,rfl,hb,hat,h7,q⟩:=h
 refine ⟨_,(@aH _ _ _ (aS (dD rfl (dP rfl G.b_range (aA (aZ fB rfl G.b_len cP (aA (mv 0) aB)) aB)) (iE (N:=["_law_k", "_law_number", "_law_halyards_here"]) ["_law_halyards_here", "_law_number"] (aG dZ) [none,some 1,some 0] rfl rfl rfl (λx h=>cH h) (by decide +kernel)) (by decide +kernel) rfl (by decide +kernel) (λC s₀ H₀ ex=>(aP (i:=0) (show List.Nodup (["_law_k", "_law_number", "_law_halyards_here"]:List Str) by decide +kernel) rfl (Or.inl rfl))) (λC s₀ H₀ ex=>(jD (PW.pt (uV (aY zD (mv 0) (mv 1) (bF _)) (oO (aY pG (bE bS (mv 2) (mv 0) (λ_ _=>rfl)) dC (bF _))))))) (λC s₀ H₀ ex=>(mv 0))))),?_⟩
 have hul:=hat.len
 walk_at "go"
 refine ⟨⟨by omega,by omega⟩,?_⟩
 rw [show (((us.length:Nat):Int)).toNat=hs.length by rw [<-hul]; exact Ei _]
 refine aZ2 (oth hs n) (bC (by omega)) (λk Hc A B' hk sm hA hB'=>?_) (λD H6 hD s56 hd=>?_)
 · have hbc:=aI sm hb
   obtain ⟨v,av,_,hvc⟩:=(hat.keep sm).get hk
   rw [show (0:Int) + (k:Int)=((k:Nat):Int) by omega]
   walk_at "go"
   refine ⟨Wk.set rfl (Wk.refl _),?_⟩
   walk_at "go"
   by_cases hkn:k=n
   · rw [Au (show ((k:Nat):Int)=((n:Nat):Int) by omega)]
     walk_at "go"
     exact hB' (by unfold oth; rw [Au hkn,Bool.not_true,Bool.and_false]; rfl) _ (Same.refl _)
   · rw [Aw (show ¬ ((k:Nat):Int)=((n:Nat):Int) by omega)]
     walk_at "go"
     refine cJ hbc av ?_
     walk_at "go"
     cases eh:hs.getD k none with
     | none=>
       rw [eh] at hvc
       obtain rfl:v=V.non:=hvc
       rw [show decide (V.non=V.non)=true from rfl]
       walk_at "go"
       exact hB' (by unfold oth; rw [eh]; rfl) _ (Same.refl _)
     | some cs=>
       rw [eh] at hvc
       obtain ⟨pk,rfl,_⟩:=hvc
       rw [show decide (V.ref pk=V.non)=false from Aw (λz=>nomatch z)]
       walk_at "go"
       exact hA _ (by unfold oth; rw [eh,Aw hkn]; rfl) _ (Same.refl _)
 rw [bX3] at hd
 exact q D H6 hD s56 hd
theorem sJ {kvs:List (Key × V)} {i c:Nat} {n:Int} (h:kvs[i]?=some (Sum.inr (one c),V.int n)):oV (kvs.take (i + 1))=oV (kvs.take i) ++ [c]:=by
 unfold oV
 rw [Bc,h,Ak]
 rfl
def qZ (kvs:List (Key × V)) (f:Nat->Option Int) (i c:Nat):Option Int:=if c∈oV (kvs.take i)/\0 < aL f c then some (aL f c) else none
theorem bX7 {kvs:List (Key × V)} {f:Nat->Option Int} (lk:Lk kvs f) (hfo:FlOnly f):qZ kvs f kvs.length=bA (aL f):=by
 funext c
 unfold qZ bA
 rw [Bs]
 by_cases h:fP c/\0 < aL f c
 · refine (if_pos ⟨(lk.mem_keyC c).mpr λz=>?_,h.2⟩).trans (if_pos h).symm
   have h2:=h.2
   rw [show aL f c=0 by unfold aL; rw [z]; rfl] at h2
   omega
 · refine (if_neg λz=>h ⟨hfo c ?_,z.2⟩).trans (if_neg h).symm
   exact Fp.mpr ((lk.mem_keyC c).mp z.1)
theorem bQH {kvs:List (Key × V)} {f:Nat->Option Int} {i c:Nat} {n:Int} (h:kvs[i]?=some (Sum.inr (one c),V.int n)) (p:0 < aL f c):(λd=>if d=c then some (aL f c) else qZ kvs f i d)=qZ kvs f (i + 1):=by
 funext d
 unfold qZ
 rw [sJ h]
 by_cases e:d=c
 · rw [e,if_pos rfl,if_pos ⟨Bd _ (As.mpr rfl),p⟩]
 · rw [if_neg e]
   by_cases q:d∈oV (kvs.take i)/\0 < aL f d
   · rw [if_pos q,if_pos ⟨Bt _ q.1,q.2⟩]
   · rw [if_neg q,if_neg λz=>q ⟨(Bj.mp z.1).resolve_right λw=>e (As.mp w),z.2⟩]
theorem aJL {kvs:List (Key × V)} {f:Nat->Option Int} {i c:Nat} {n:Int} (h:kvs[i]?=some (Sum.inr (one c),V.int n)) (p:¬ 0 < aL f c):qZ kvs f i=qZ kvs f (i + 1):=by
 funext d
 unfold qZ
 rw [sJ h]
 by_cases q:d∈oV (kvs.take i)/\0 < aL f d
 · rw [if_pos q,if_pos ⟨Bt _ q.1,q.2⟩]
 · rw [if_neg q,if_neg λz=>q ⟨(Bj.mp z.1).resolve_right λw=>p (by rw [<-As.mp w]; exact z.2),z.2⟩]
def pS:Sp:=λvs H Q _=>∃ (a:Addr) (kvs:List (Key × V)) (f:Nat->Option Int),vs=[.ref a]/\H a=some (.dK kvs)/\Lk kvs f/\FlOnly f/\
 ∀ (r:Addr) (kws:List (Key × V)) (H':Hp),H r=none->Same H H'->H' r=some (.dK kws)->Lk kws (bA (aL f))->Q (.ref r) H'
theorem sc_l_plain:FnScope ["_law_locker_here", "_law_found", "_law_flag"] ["_law_locker_here"] (aG gF):=⟨rfl,rfl,rfl,by decide +kernel,rfl,by decide +kernel,by decide +kernel⟩
theorem yC {Zw Zz Zx Zy:Addr} {f:Addr} {fd:FuncData} (F:Fun K "_law_plain" "_law_plain" gF f fd) (G:Gs K mg Zw Zz Zx Zy)  : FnOk P w K mg base CX0 1 f fd ["_law_locker_here"] pS:=by
 refine F.ok sc_l_plain (λvs H Q E h=>?_) (λcdv A outer s H vs Q E hr h=>?_)
 · obtain ⟨a,kvs,f,rfl,_⟩:=h; rfl
 obtain ⟨a,kvs,f,rfl,ha,lk,hfo,q⟩:=h
 refine ⟨_,(@aD _ _ _ _ _ (@aO _ _ 1 _ _ _ _ sc_l_plain.nd (by rfl) (by exact (Or.inl rfl)) lR (by rfl) (by first | exact Or.inl rfl | exact Or.inr rfl)) (@aD _ _ _ _ _ (tP (bQ Ay rfl (aXQ (mv 0)) (aP (i:=2) sc_l_plain.nd rfl (Or.inl rfl)) (@aH _ _ _ (cG (aY cQX (fM (Room.u1 hr) (mv 0) (mv 2) (λ_ _=>rfl)) aJ (bF _)) (@aH _ _ _ (dM (Room.u1 hr) (mv 1) (mv 2) (fM (Room.u1 hr) (mv 0) (mv 2) (λ_ _=>rfl)) rfl)) bI)))) (@aH _ _ _ (aS (mv 1))))),?_⟩
 have h27:=cZF lk hfo
 walk_at "go"
 intro r hr
 have hra:r≠a:=λz=>by rw [z,ha] at hr; cases hr
 have s1:=aF hr (.dK [])
 have e1:(upd H r (.dK [])) r=some (.dK []):=aE
 generalize upd H r (.dK [])=H1 at s1 e1 ⊢
 have ha1:=s1 _ _ ha
 walk_at "go"
 refine bXS ha1 λo=>?_
 have fz:(upd H1 a (.frz o (.dK kvs))) a=_:=aE
 refine bJV (λi σ H'=>∃ (kws:List (Key × V)) (v2:Option V),σ=[some (.ref a),some (.ref r),v2]/\(∀ p u,p≠r->(upd H1 a (.frz o (.dK kvs))) p=some u->H' p=some u)/\H' r=some (.dK kws)/\Lk kws (qZ kvs f i)/\kws.length<=i)
   ⟨[],_,rfl,λp u _ e=>e,by rw [aK hra]; exact e1,Lk.nil.ext (by funext c; unfold qZ; rw [Ec]; exact (if_neg λz=>nomatch z.1).symm),Ck _⟩ (λi σ H' _ ⟨_,_,_,e,_⟩=>e _ _ (Ne.symm hra) fz) ?_ ?_
 · rintro i kv σ H5 hkv ⟨kws,v2,rfl,s5,hH,lw,hwl⟩
   have hi:i < kvs.length:=(Ad.mp hkv).1
   obtain ⟨c,x,rfl,hn'⟩:=lk.at_mem (Ai hkv)
   have hcn:aL f c=x:=by unfold aL; rw [hn']; rfl
   have hp5:=s5 _ _ (Ne.symm hra) fz
   have hpl:kws.length < sizeLine:=bC (by omega)
   dsimp only [kV]
   walk_at "go"
   refine kY (z:=one c) (.inr ⟨o,hp5⟩) (by rw [lk.val c,hn']; rfl) ?_
   walk_at "go"
   refine gS (λhd=>?_) (λhd=>?_)
   · have hd':0 < x:=Ba hd
     walk_at "go"
     refine kY (z:=one c) (.inr ⟨o,hp5⟩) (by rw [lk.val c,hn']; rfl) ?_
     walk_at "go"
     refine eZ (z:=one c) hH hpl ?_
     refine ⟨_,_,rfl,λp u hp hu=>by rw [aK hp]; exact s5 p u hp hu,aE,?_,by have:=cR kws (Sum.inr (one c)) (.int x); exact Bf this (by omega)⟩
     have l2:=lw.put c x
     rw [<-hcn] at l2 hd' ⊢
     exact l2.ext (bQH hkv hd')
   · have hd':¬ 0 < x:=Bp (Br.mpr hd)
     walk_at "go"
     exact ⟨kws,_,rfl,s5,hH,lw.ext (aJL hkv (by rw [hcn]; exact hd')),by omega⟩
 · rintro σ H5 ⟨kws,v2,rfl,s5,hH,lw,hwl⟩
   walk_at "go"
   refine q r kws _ hr ?_ (dR hH (λ_ _ z=>nomatch z)) (lw.ext (bX7 lk hfo))
   intro p u hu
   have hpr:p≠r:=λz=>by rw [z,hr] at hu; cases hu
   have hu1:=s1 _ _ hu
   by_cases z:p=a
   · subst z
     rw [ha1] at hu1
     cases hu1
     exact oH (s5 _ _ hpr fz) (λo v z=>by rw [ha1] at z; cases z)
   · have h5:=s5 p u hpr (by rw [aK z]; exact hu1)
     by_cases hf:∃ o v,u=.frz o v
     · obtain ⟨o',v',rfl⟩:=hf
       exact kL h5 hu1
     · exact dR h5 λo v z=>hf ⟨o,v,z⟩
def iB:Sp:=λvs H Q _=>∃ (p:Addr) (cs cw:List Nat),vs=[.ref p,.str (bH cw)]/\H p=some (.lst ((cs.map one).map V.str))/\Hg cw cs/\cw.length<=7/\∀ H',Same H H'->Q (.bl true) H'
theorem sc_l_is_hoist_of:FnScope ["_law_hoist_here", "_law_word_here", "_law_k"] ["_law_hoist_here", "_law_word_here"] (aG cL):=⟨rfl,rfl,rfl,by decide +kernel,rfl,by decide +kernel,by decide +kernel⟩
theorem nE {Zw Zz Zx Zy:Addr} {f:Addr} {fd:FuncData} (F:Fun K "_law_is_hoist_of" "_law_is_hoist_of" cL f fd) (G:Gs K mg Zw Zz Zx Zy) (c_l_choices:Cal P w K mg base 1 "_law_choices" ["_law_word_here", "_law_place"] jI):FnOk P w K mg base CX0 2 f fd ["_law_hoist_here", "_law_word_here"] iB:=by
 refine F.ok sc_l_is_hoist_of (λvs H Q E h=>?_) (λcdv A outer s H vs Q E hr h=>?_)
 · obtain ⟨p,cs,cw,rfl,_⟩:=h; rfl
 obtain ⟨p,cs,cw,rfl,hp,hg,hc7,q⟩:=h
 refine ⟨_,(@aD _ _ _ _ _ (cG (PW.pt (mK (gN (cY (aZ sU rfl G.b_isinstance dA (aA (mv 0) (aA (mY rfl G.b_list dE) aB))))) (lD (aY zD (aZ fB rfl G.b_len cP (aA (mv 0) aB)) (aZ fB rfl G.b_len cP (aA (mv 1) aB)) (bF _))))) (@aH _ _ _ (aS fX)) bI) (@aD _ _ _ _ _ (bQ Ay rfl (dP rfl G.b_range (aA (aZ fB rfl G.b_len cP (aA (mv 0) aB)) aB)) (aP (i:=2) sc_l_is_hoist_of.nd rfl (Or.inl rfl)) (@aH _ _ _ (cG (aY bQT (bE bS (mv 0) (mv 2) (λ_ _=>rfl)) (aT c_l_choices hr (by decide) rfl (aA (mv 1) (aA (aU cD (mv 2) aJ) aB))) (by rfl)) (@aH _ _ _ (aS fX)) bI))) (@aH _ _ _ (aS fX)))),?_⟩
 have hcl:(bH cw).length=cw.length:=eW cw
 have hsl:((cs.map one).map V.str).length=cw.length:=by rw [Ab,Ab,hg.1]
 have rp:=aM hp
 walk_at "go"
 rw [hsl,hcl,Au rfl]
 walk_at "go"
 rw [hsl]
 refine ⟨⟨by omega,by omega⟩,?_⟩
 rw [show ((cw.length:Nat):Int).toNat=cw.length from Ei _]
 refine fT (λk σ H'=>∃ (v2:Option V),σ=[some (.ref p),some (.str (bH cw)),v2]/\Same H H')
   ⟨_,rfl,Same.refl _⟩ ?_ ?_
 · rintro k σ H4 hk0 ⟨v4,rfl,s4⟩
   have hk:k < cw.length:=hk0
   have rh:=aI s4 rp
   obtain ⟨d,hd⟩:∃ d,cs[k]?=some d:=⟨_,Aa (by rw [hg.1]; exact hk)⟩
   have ax:atI ((cs.map one).map V.str) (0 + (k:Int))=some (.str (one d)):=by
     rw [show (0:Int) + (k:Int)=((k:Nat):Int) by omega]
     exact dX (by rw [Ah,Ah,hd]; rfl)
   walk_at "go"
   refine cJ rh ax ?_
   walk_at "go"
   refine ⟨cw,k,_,rfl,by omega,hk,hc7,λrc H6 hrc s6 er6=>?_⟩
   refine bXQ (neg:=true) (aM er6) rfl (eJ _) ?_
   rw [aJ2,Au (hg.2 k d hd),show (if true=true then !true else true)=false from rfl]
   walk_at "go"
   exact ⟨_,rfl,s4.trans s6⟩
 · rintro σ H4 ⟨v4,rfl,s4⟩
   walk_at "go"
   exact q _ s4
def NoS (f:Nat->Option Int) (hs:List (Option (List Nat))) (n:Nat) (cw:List Nat):Prop:=∀ l,l.Sublist (aV hs n)->¬ aZM f hs n cw l
structure HOut (H H':Hp) (f:Nat->Option Int) (hs:List (Option (List Nat))) (n:Nat) (cw:List Nat) (t L B R:Addr) (ks:List Nat) (gs:List (List Nat)) (vs':List V) (kws:List (Key × V)):Prop where
 same:Same H H'
 ht:H t=none
 et:H' t=some (.tup [.ref L,.ref B,.ref R])
 hL:H L=none
 eL:H' L=some (.lst (ks.map λk=>V.int ((k:Nat):Int)))
 fst:∃ j,pP f hs n cw ks j
 hgs:Hgs (bO hs cw ks) gs
 hcnt:∀ c,cnt gs.flatten c<=aL (fW f hs (n :: ks)) c
 hB:H B=none
 eB:H' B=some (.lst vs')
 hat:HalsAt H' vs' (eU hs ((n :: ks).zip gs))
 hR:H R=none
 eR:H' R=some (.dK kws)
 lk:Lk kws (bA λc=>aL (fW f hs (n :: ks)) c - cnt gs.flatten c)
 fr:∀ p,V.ref p∈vs'->H p=none
 det:∃ fs,HungIs (bO hs cw ks) (tE f hs (n :: ks)) fs/\gs=lK (bO hs cw ks) fs
theorem HOut.keep {H H' H'':Hp} {f:Nat->Option Int} {hs:List (Option (List Nat))} {n:Nat} {cw:List Nat} {t L B R:Addr} {ks:List Nat} {gs:List (List Nat)} {vs':List V} {kws:List (Key × V)} (h:HOut H H' f hs n cw t L B R ks gs vs' kws) (s:Same H' H''):HOut H H'' f hs n cw t L B R ks gs vs' kws :=
 ⟨h.same.trans s,h.ht,s _ _ h.et,h.hL,s _ _ h.eL,h.fst,h.hgs,h.hcnt,h.hB,s _ _ h.eB,h.hat.keep s,h.hR,s _ _ h.eR,h.lk,h.fr,h.det⟩
theorem aZY {f:Nat->Option Int} {hs:List (Option (List Nat))} {n:Nat} {cw ks ks':List Nat} {j j':Nat} (h:pP f hs n cw ks j) (h':pP f hs n cw ks' j'):ks=ks':=by
 rcases Nat.lt_trichotomy j j' with l | rfl | l
 · exact absurd h.2.1 (h'.2.2 j ks l h.1)
 · have e:=h.1
   rw [h'.1] at e
   exact (Bi e).symm
 · exact absurd h'.2.1 (h.2.2 j' ks' l h'.1)
def sL:Sp:=λvs H Q _=>∃ (a b:Addr) (kvs:List (Key × V)) (f:Nat->Option Int) (us:List V) (hs:List (Option (List Nat))) (n:Nat) (cw:List Nat),vs=[.ref a,.ref b,.int ((n:Nat):Int),.str (bH cw)]/\lH H a b kvs f us hs n cw/\
 (∀ t L B R ks gs vs' kws H',HOut H H' f hs n cw t L B R ks gs vs' kws->Q (.ref t) H')/\(NoS f hs n cw->∀ H',Same H H'->Q .non H')
theorem sc_l_told:FnScope ["_law_locker_here", "_law_halyards_here", "_law_number", "_law_word_here", "_law_found"] ["_law_locker_here", "_law_halyards_here", "_law_number", "_law_word_here"] (aG iD):=⟨rfl,rfl,rfl,by decide +kernel,rfl,by decide +kernel,by decide +kernel⟩
theorem aJT {Zw Zz Zx Zy:Addr} {f:Addr} {fd:FuncData} (F:Fun K "_law_told" "_law_told" iD f fd) (G:Gs K mg Zw Zz Zx Zy) (c_hauled:uG P w K mg base 12 "hauled" ["locker", "halyards", "number", "word"] (sI Zw)):FnOk P w K mg base CX0 13 f fd ["_law_locker_here", "_law_halyards_here", "_law_number", "_law_word_here"] sL:=by
 refine F.ok sc_l_told (λvs H Q E h=>?_) (λcdv A outer s H vs Q E hr h=>?_)
 · obtain ⟨a,b,kvs,f,us,hs,n,cw,rfl,_⟩:=h; rfl
 obtain ⟨a,b,kvs,f,us,hs,n,cw,rfl,hin,q,qe⟩:=h
 refine ⟨_,(@aD _ _ _ _ _ (@aO _ _ 4 _ _ _ _ sc_l_told.nd (by rfl) (by exact (Or.inl rfl)) dC (by rfl) (by first | exact Or.inl rfl | exact Or.inr rfl)) (@aD _ _ _ _ _ (cXY rfl rfl rfl rfl G.c_Lack (λpins R=>(@aH _ _ _ (@aO _ _ 4 _ _ _ _ sc_l_told.nd (by rfl) (by exact (Or.inl rfl)) (aXL c_hauled (qJ rfl) hr (by decide) rfl (aA (mv 0) (aA (mv 1) (aA (mv 2) (aA (mv 3) aB))))) (by rfl) (by first | exact Or.inl rfl | exact Or.inr rfl)))) (λpins ea=>(@aH _ _ _ (@aO _ _ 4 _ _ _ _ sc_l_told.nd (by rfl) (by exact (Or.inl rfl)) dC (by rfl) (by first | exact Or.inl rfl | exact Or.inr rfl))))) (@aH _ _ _ (aS (mv 4))))),?_⟩
 walk_at "go"
 refine ⟨a,b,kvs,f,us,hs,n,cw,rfl,hin,λt L B R ks gs j vs' kwr H1 s1 ht et hL eL hfst hgs hcnt hB eB hatB hR eR lkR hfr hdet=>?_,λhno dx l1 l2 rs W F H1 s1 ed el1 hwt el2 hlo _ _=>⟨G.m_Lack,?_⟩⟩
 · walk_at "go"
   exact q t L B R ks gs vs' kwr H1 ⟨s1,ht,et,hL,eL,⟨j,hfst⟩,hgs,hcnt,hB,eB,hatB,hR,eR,lkR,hfr,hdet⟩
 · walk_at "go"
   exact qe hno H1 s1
theorem aJJ {hs:List (Option (List Nat))} {o k:Nat} {h:Option (List Nat)} (e:o≠k):(hs.set o h).getD k none=hs.getD k none:=by
 rw [Ac,Cv e,<-Ac]
theorem aZ0 {hs:List (Option (List Nat))} {o:Nat} {h:Option (List Nat)} (e:o < hs.length):(hs.set o h).getD o none=h:=by
 rw [Ac,Da e]
 rfl
theorem aXR {hs:List (Option (List Nat))} {k:Nat} {h:Option (List Nat)} (hk:k < hs.length) (c:Nat):∀ m,cnt (aX (hs.set k h) (List.range m)) c=cnt (aX hs (List.range m)) c + if k < m then cnt (h.getD []) c - cnt (cA hs k) c else 0
 | 0=>rfl
 | m + 1=>by
   have e:∀ (g:List (Option (List Nat))),aX g [m]=cA g m:=λg=>Bm _
   rw [Ce,kJ,kJ,lT,lT,aXR hk c m,e,e]
   by_cases q:k=m
   · subst q
     rw [if_neg (Dn _),if_pos (Nat.lt_succ_self _)]
     show _ + cnt (((hs.set k h).getD k none).getD []) c=_
     rw [aZ0 hk]
     omega
   · have e2:cA (hs.set k h) m=cA hs m:=by unfold cA; rw [aJJ q]
     rw [e2]
     by_cases l:k < m
     · rw [if_pos l,if_pos (by omega)]; omega
     · rw [if_neg l,if_neg (by omega)]; omega
theorem bXU {hs:List (Option (List Nat))} (c:Nat):∀ zs:List (Nat × List Nat),(zs.map (·.1)).Nodup->(∀ z∈zs,z.1 < hs.length)->cnt (aX (eU hs zs) (List.range hs.length)) c + cnt (aX hs (zs.map (·.1))) c=cnt (aX hs (List.range hs.length)) c + cnt (zs.map (·.2)).flatten c:=λzs=>by
 refine jW (p:=λzs=>(zs.map (·.1)).Nodup->(∀ z∈zs,z.1 < hs.length)->cnt (aX (eU hs zs) (List.range hs.length)) c + cnt (aX hs (zs.map (·.1))) c=cnt (aX hs (List.range hs.length)) c + cnt (zs.map (·.2)).flatten c) (λ_ _=>rfl) (λzs z ih nd hl=>?_) zs
 rw [Ak,Ar,Gk] at nd
 have hz:=hl z (Bd _ Al)
 have i:=ih (Cu.mp nd).1 λw hw=>hl w (Bt _ hw)
 have hne:∀ w∈zs,w.1≠z.1:=λw hw q=>(Cu.mp nd).2.2 w.1 (List.mem_map_of_mem hw) z.1 Al q
 have e1:cA (eU hs zs) z.1=cA hs z.1:=by unfold cA; rw [pQ hs _ hne]
 have e2:aX hs [z.1]=cA hs z.1:=Bm _
 rw [gM,aXR (by rw [fA]; exact hz),if_pos hz,e1,List.map_append,List.map_append,kJ,lT,List.map_cons,List.map_nil,e2,List.flatten_append,lT,show ([z].map (·.2)).flatten=z.2 by simp]
 show _ + (cnt z.2 c - _) + _=_
 omega
def cXS (f:Nat->Option Int) (hs:List (Option (List Nat))) (c:Nat):Int:=aL f c + cnt (aX hs (List.range hs.length)) c
theorem cXL {f:Nat->Option Int} (h:FlOnly f) {c:Nat} (hc:¬ fP c):aL f c=0:=by
 unfold aL
 cases e:f c with
 | none=>rfl
 | some x=>exact absurd (h c (by rw [e]; rfl)) hc
theorem lM {hs:List (Option (List Nat))} (ok:HalOk hs) {ks:List Nat} {d:Nat} (h:d∈aX hs ks):fP d:=by
 obtain ⟨k,_,hk⟩:=Fm.mp h
 exact bX4 ok hk
theorem bX2 {f:Nat->Option Int} {hs:List (Option (List Nat))} {n:Nat} {cw ks:List Nat} {gs:List (List Nat)} (hf0:∀ c,0<=aL f c) (hfo:FlOnly f) (ok:HalOk hs) (hn:n < hs.length) (hks:ks.Sublist (aV hs n)) (hg:Hgs (bO hs cw ks) gs) (hgf:∀ g∈gs,∀ c∈g,fP c) (hcnt:∀ c,cnt gs.flatten c<=aL (fW f hs (n :: ks)) c) (c:Nat):cXS (bA λc=>aL (fW f hs (n :: ks)) c - cnt gs.flatten c) (eU hs ((n :: ks).zip gs)) c=cXS f hs c:=by
 have hlen:(n :: ks).length=gs.length:=by
   rw [hg.len]
   show _=(ks.map _).length + 1
   rw [Ab]
   rfl
 have hlt:∀ z∈(n :: ks).zip gs,z.1 < hs.length:=λz hz=>by
   rcases Az.mp (Dw hz).1 with e | e
   · rw [e]; exact hn
   · exact (gE (hks.subset e)).1
 have e1:((n :: ks).zip gs).map (·.1)=n :: ks:=List.map_fst_zip (by rw [hlen]; exact Ag _)
 have e2:((n :: ks).zip gs).map (·.2)=gs:=List.map_snd_zip (by rw [hlen]; exact Ag _)
 have r:=bXU c ((n :: ks).zip gs) (by rw [e1]; exact mQ hks) hlt
 rw [e1,e2] at r
 unfold cXS
 rw [fA]
 have h0:=hcnt c
 by_cases hc:fP c
 · have hp:aL (fW f hs (n :: ks)) c=aL f c + cnt (aX hs (n :: ks)) c:=gL (n:=λc=>aL f c + cnt (aX hs (n :: ks)) c) hc (by have:=hf0 c; have:=yQ (aX hs (n :: ks)) c; show 0<=_ + _; omega)
   rw [gL hc (by omega),hp]
   omega
 · rw [cXL hfo hc,lY λz=>hc (lM ok z)]
   have e3:aL (bA λc=>aL (fW f hs (n :: ks)) c - cnt gs.flatten c) c=0:=by
     show (bA _ c).getD 0=0
     unfold bA
     rw [if_neg λz=>hc z.1]
     rfl
   have e4:cnt (aX hs (n :: ks)) c=0:=lY λz=>hc (lM ok z)
   have e5:cnt gs.flatten c=0:=lY λz=>by
     obtain ⟨g,h1,h2⟩:=List.mem_flatten.mp z
     exact hc (hgf g h1 c h2)
   have e6:cnt (aX hs (List.range hs.length)) c=0:=lY λz=>hc (lM ok z)
   rw [e3]
   omega
theorem cQ3 {hs:List (Option (List Nat))} {n:Nat} {cw ks:List Nat} {gs:List (List Nat)} (hn:n < hs.length) (hks:ks.Sublist (aV hs n)) (hg:Hgs (bO hs cw ks) gs):(∃ g,(eU hs ((n :: ks).zip gs)).getD n none=some g/\Hg cw g)/\(∀ k ∈ ks,∃ g,(eU hs ((n :: ks).zip gs)).getD k none=some g/\Hg (rdC ((hs.getD k none).getD [])) g)/\∀ k,k≠n->k ∉ ks->(eU hs ((n :: ks).zip gs)).getD k none=hs.getD k none:=by
 have hlen:(n :: ks).length=gs.length:=by
   rw [hg.len]
   show _=(ks.map _).length + 1
   rw [Ab]
   rfl
 have hlt:∀ z∈(n :: ks).zip gs,z.1 < hs.length:=λz hz=>by
   rcases Az.mp (Dw hz).1 with e | e
   · rw [e]; exact hn
   · exact (gE (hks.subset e)).1
 have ndz:(((n :: ks).zip gs).map (·.1)).Nodup:=by
   rw [show ((n :: ks).zip gs).map (·.1)=n :: ks from List.map_fst_zip (by rw [hlen]; exact Ag _)]
   exact mQ hks
 have hat:∀ (i k:Nat) c,(n :: ks)[i]?=some k->(bO hs cw ks)[i]?=some c->∃ g,(eU hs ((n :: ks).zip gs)).getD k none=some g/\Hg c g:=λi k c hk hc=>by
   obtain ⟨g,eg,hgg⟩:=hg.at hc
   refine ⟨g,?_,hgg⟩
   exact aQ8 hs _ ndz hlt (k,g) (Ai (i:=i) (by rw [List.getElem?_zip_eq_some]; exact ⟨hk,eg⟩))
 refine ⟨hat 0 n cw rfl rfl,λk hk=>?_,λk h1 h2=>?_⟩
 · obtain ⟨i,hi⟩:=Ed.mp hk
   exact hat (i + 1) k (rdC ((hs.getD k none).getD [])) hi (by show (ks.map _)[i]?=_; rw [Ah,hi]; rfl)
 · refine pQ hs _ λz hz q=>?_
   rcases Az.mp (Dw hz).1 with w | w
   · exact h1 (q.symm.trans w)
   · exact h2 (by rw [<-q]; exact w)
theorem zG {ks os:List Nat} (h:ks.Sublist os):os.Nodup->os.filter (λk=>decide (k∈ks))=ks:=by
 induction h with
 | slnil=>exact λ_=>rfl
 | @cons l1 l2 a h ih=>
   intro nd
   have nd':=Bu.mp nd
   rw [List.filter_cons_of_neg (by rw [Bl]; exact λz=>nd'.1 (h.subset z)),ih nd'.2]
 | @cons_cons l1 l2 a h ih=>
   intro nd
   have nd':=Bu.mp nd
   rw [List.filter_cons_of_pos (by rw [Bl]; exact Al)]
   refine Dq (a :: ·) ((List.filter_congr λx hx=>?_).trans (ih nd'.2))
   refine Cp.mpr ⟨λz=>(Az.mp z).resolve_left λe=>nd'.1 (by rw [<-e]; exact hx),λz=>Am _ z⟩
theorem wA (n:Nat->Int):bA (aL (bA n))=bA n:=by
 funext c
 unfold bA
 by_cases h:fP c/\0 < n c
 · have e:aL (λc=>if fP c/\0 < n c then some (n c) else none) c=n c:=by
     show ((if fP c/\0 < n c then some (n c) else none):Option Int).getD 0=_
     rw [if_pos h]
     rfl
   rw [if_pos h,if_pos ⟨h.1,by rw [e]; exact h.2⟩,e]
 · rw [if_neg h,if_neg λz=>?_]
   have e:aL (λc=>if fP c/\0 < n c then some (n c) else none) c=0:=by
     show ((if fP c/\0 < n c then some (n c) else none):Option Int).getD 0=_
     rw [if_neg h]
     rfl
   have:=z.2
   rw [e] at this
   omega
theorem xC (n:Nat->Int):FlOnly (bA n):=λc hc=>by
 unfold bA at hc
 by_cases h:fP c
 · exact h
 · rw [if_neg λz=>h z.1] at hc; cases hc
theorem cJC {H:Hp} {Q:VK} {p:Addr} {xs:List V} (e:H p=some (.tup xs)) (h:Q (.int xs.length) H):aQI [.ref p] H Q:=by
 have e1:rdL H p=none:=by unfold rdL; rw [e]; rfl
 unfold aQI
 simp only [e1,iU e]
 exact h
theorem kK (ks:List Nat):(ks.map λk=>V.int ((k:Nat):Int)).all bV=true:=by
 rw [Dk]
 intro x hx
 obtain ⟨k,_,rfl⟩:=Bg.mp hx
 rfl
theorem bJ0 (ks:List Nat):jA (ks.map λk=>V.int ((k:Nat):Int)) (ks.map λk=>V.int ((k:Nat):Int))=true:=by
 rw [kF rfl,Dk]
 intro j hj
 exact jQ (gI (kK ks) j)
theorem bQ5 {n:Nat} {ns:List Nat}:inV (.int ((n:Nat):Int)) (ns.map λk=>V.int ((k:Nat):Int))=decide (n∈ns):=by
 induction ns with
 | nil=>rfl
 | cons d r ih=>
   rw [Ar]
   show (((d:Int) == (n:Int)) || inV (.int ((n:Nat):Int)) (r.map λk=>V.int ((k:Nat):Int)))=_
   rw [ih]
   by_cases h:n=d
   · subst h
     rw [Gf,Bool.true_or,Au Al]
   · rw [show ((d:Int) == (n:Int))=false from Dy.mpr (by omega),Ft]
     exact Cp.mpr ⟨λz=>Am _ z,λz=>(Az.mp z).resolve_left h⟩
theorem tH {α:Type} (g:α->Option V):∀ xs:List α,(List.range xs.length).filterMap (λj=>(xs[j]?).bind g)=xs.filterMap g
 | []=>rfl
 | x :: r=>by
   have ih:=tH g r
   rw [Be,List.range_succ_eq_map,Cr,List.filterMap_map,Cr]
   rw [show ((λj=>((x :: r)[j]?).bind g) ∘ Nat.succ)=λj=>(r[j]?).bind g from rfl,ih]
   rfl
theorem bZW (ks:List Nat):∀ L:List Nat,L.filterMap (λk=>if decide (k∈ks)=true then some (V.int ((k:Nat):Int)) else none)=((L.filter λk=>decide (k∈ks)).map λk=>V.int ((k:Nat):Int))
 | []=>rfl
 | c :: r=>by
   rw [Cr,Ep]
   by_cases hg:decide (c∈ks)=true
   · rw [if_pos hg,if_pos hg,Ar,<-bZW ks r]
   · rw [if_neg hg,if_neg hg,<-bZW ks r]
theorem HalsAt.own {H:Hp} {b:Addr} {us:List V} {hs:List (Option (List Nat))} (a:HalsAt H us hs) (e:H b=some (.lst us)):V.ref b ∉ us:=λz=>by
 obtain ⟨j,hj⟩:=Ed.mp z
 obtain ⟨h,_,hv⟩:=a.at hj
 cases h with
 | none=>cases (show V.ref b=V.non from hv)
 | some cs=>
   obtain ⟨p,ep,hp⟩:=hv
   cases ep
   rw [e] at hp
   have hu:us=(cs.map one).map V.str:=by injection hp with hp; injection hp
   rw [hu] at z
   obtain ⟨_,_,ez⟩:=Bg.mp z
   cases ez
theorem HalsAt.ref {H:Hp} {us:List V} {hs:List (Option (List Nat))} (a:HalsAt H us hs) {p:Addr} (h:V.ref p∈us):∃ xs,H p=some (.lst xs):=by
 obtain ⟨j,hj⟩:=Ed.mp h
 obtain ⟨o,_,hv⟩:=a.at hj
 cases o with
 | none=>cases (show V.ref p=V.non from hv)
 | some cs=>
   obtain ⟨q,eq,hq⟩:=hv
   cases eq
   exact ⟨_,hq⟩
theorem HalsAt.ints {H:Hp} {us:List V} {hs:List (Option (List Nat))} {ks:List Nat} (a:HalsAt H us hs) (h1:1<=hs.length) (hu:us=(ks.map λk=>V.int ((k:Nat):Int))):False:=by
 have h0:0 < us.length:=by rw [a.len]; exact h1
 have hj:us[0]?=some us[0]:=Aa h0
 obtain ⟨h,_,hv⟩:=a.at hj
 have hm:us[0]∈(ks.map λk=>V.int ((k:Nat):Int)):=by rw [<-hu]; exact Ca _
 obtain ⟨i,_,ei⟩:=Bg.mp hm
 rw [<-ei] at hv
 cases h with
 | none=>cases (show V.int _=V.non from hv)
 | some cs=>obtain ⟨p,ep,_⟩:=hv; cases ep
theorem HalsAt.frame {H H':Hp} {us:List V} {hs:List (Option (List Nat))} {X:Addr->Prop} (a:HalsAt H us hs) (h:∀ p u,¬ X p->H p=some u->H' p=some u) (hx:∀ p xs,V.ref p∈us->H p=some (.lst xs)->¬ X p):HalsAt H' us hs :=
 ⟨a.len,λj v o hv ho=>by
   have r:=a.val j v o hv ho
   cases o with
   | none=>exact r
   | some cs=>
     obtain ⟨p,rfl,hp⟩:=r
     exact ⟨p,rfl,h p _ (hx p _ (Ai hv) hp) hp⟩⟩
def pT:Sp:=λvs H Q _=>∃ (t a b L B R:Addr) (kvs:List (Key × V)) (f:Nat->Option Int) (us:List V) (hs:List (Option (List Nat))) (n:Nat) (cw ks:List Nat) (gs:List (List Nat)) (vs':List V) (kwr:List (Key × V)),vs=[.ref t,.ref a,.ref b,.int ((n:Nat):Int),.str (bH cw)]/\lH H a b kvs f us hs n cw/\FlOnly f/\H t=some (.tup [.ref L,.ref B,.ref R])/\H L=some (.lst (ks.map λk=>V.int ((k:Nat):Int)))/\ks.Sublist (aV hs n)/\Hgs (bO hs cw ks) gs/\(∀ c,cnt gs.flatten c<=aL (fW f hs (n :: ks)) c)/\H B=some (.lst vs')/\HalsAt H vs' (eU hs ((n :: ks).zip gs))/\H R=some (.dK kwr)/\Lk kwr (bA λc=>aL (fW f hs (n :: ks)) c - cnt gs.flatten c)/\
 ∀ H',Same H H'->Q (.bl true) H'
theorem sc_l_right:FnScope ["_law_found", "_law_locker_here", "_law_halyards_here", "_law_number", "_law_word_here", "_law_lowered", "_law_behind", "_law_left", "_law_others_here", "_law_k", "_law_every"] ["_law_found", "_law_locker_here", "_law_halyards_here", "_law_number", "_law_word_here"] (aG fF):=⟨rfl,rfl,rfl,by decide +kernel,rfl,by decide +kernel,by decide +kernel⟩
theorem zF {Zw Zz Zx Zy:Addr} {f:Addr} {fd:FuncData} (F:Fun K "_law_right" "_law_right" fF f fd) (G:Gs K mg Zw Zz Zx Zy) (c_l_others:Cal P w K mg base 1 "_law_others" ["_law_halyards_here", "_law_number"] nL) (c_l_plain:Cal P w K mg base 1 "_law_plain" ["_law_locker_here"] pS) (c_l_is_hoist_of:Cal P w K mg base 2 "_law_is_hoist_of" ["_law_hoist_here", "_law_word_here"] iB) (c_l_pool:Cal P w K mg base 1 "_law_pool" ["_law_locker_here", "_law_halyards_here", "_law_numbers"] sW) (c_l_read:Cal P w K mg base 1 "_law_read" ["_law_hoist_here"] sN):FnOk P w K mg base CX0 3 f fd ["_law_found", "_law_locker_here", "_law_halyards_here", "_law_number", "_law_word_here"] pT:=by
 refine F.ok sc_l_right (λvs H Q E h=>?_) (λcdv A outer s H vs Q E hr h=>?_)
 · obtain ⟨t,a,b,L,B,R,kvs,f,us,hs,n,cw,ks,gs,vs',kwr,rfl,_⟩:=h; rfl
 obtain ⟨t,a,b,L,B,R,kvs,f,us,hs,n,cw,ks,gs,vs',kwr,rfl,⟨ha,lk,hf0,hb,hat,ok,h6,hn,hc1,hc7,hcL⟩,hfo,et,eL,hks,hgs,hcnt,eB,hatB,eR,lkR,q⟩:=h
 refine ⟨_,(@aD _ _ _ _ _ (cG (PW.pt (mK (gN (cY (aZ sU rfl G.b_isinstance dA (aA (mv 0) (aA (mY rfl G.b_tuple bQF) aB))))) (mK (aY zD (aZ fB rfl G.b_len cP (aA (mv 0) aB)) aJ (bF _)) (lD (gN (cY (aZ sU rfl G.b_isinstance dA (aA (bE bS (mv 0) aJ (λ_ _=>rfl)) (aA (mY rfl G.b_list dE) aB))))))))) (@aH _ _ _ (aS fX)) bI) (@aD _ _ _ _ _ (zC (mv 0) (bQA rfl (eY (aP (i:=5) sc_l_right.nd rfl (Or.inr rfl)) (eY (aP (i:=6) sc_l_right.nd rfl (Or.inl rfl)) (eY (aP (i:=7) sc_l_right.nd rfl (Or.inl rfl)) uZ))))) (@aD _ _ _ _ _ (@aO _ _ 8 _ _ _ _ sc_l_right.nd (by rfl) (by exact (Or.inl rfl)) (aT c_l_others hr (by decide) rfl (aA (mv 2) (aA (mv 3) aB))) (by rfl) (by first | exact Or.inl rfl | exact Or.inr rfl)) (@aD _ _ _ _ _ (cG (PW.pt (mK (gN (cY (aZ sU rfl G.b_isinstance dA (aA (mv 5) (aA (mY rfl G.b_list dE) aB))))) (lD (aY (bQV hr.units0) (dD rfl (bW (mv 8)) (iE (N:=["_law_k", "_law_lowered"]) ["_law_found", "_law_locker_here", "_law_halyards_here", "_law_number", "_law_word_here", "_law_lowered", "_law_behind", "_law_left", "_law_others_here", "_law_k", "_law_every"] (aG fF) [none,some 5] rfl rfl rfl (λx h=>cH h) (by decide +kernel)) (by decide +kernel) rfl (by decide +kernel) (λC s₀ H₀ ex=>(aP (i:=0) (show List.Nodup (["_law_k", "_law_lowered"]:List Str) by decide +kernel) rfl (Or.inl rfl))) (λC s₀ H₀ ex=>(jD (aY cZS (mv 0) (mv 1) (by rfl)))) (λC s₀ H₀ ex=>(mv 0))) (mv 5) (bF _))))) (@aH _ _ _ (aS fX)) bI) (@aD _ _ _ _ _ (cG (PW.pt (mK (aY (bQV hr.units0) (dD rfl (bW (mv 5)) (wY (N:=["_law_k"]) (by decide +kernel) (by decide +kernel)) (by decide +kernel) rfl (by decide +kernel) (λC s₀ H₀ ex=>(aP (i:=0) (show List.Nodup (["_law_k"]:List Str) by decide +kernel) rfl (Or.inl rfl))) (λC s₀ H₀ ex=>(jD (cY (aZ sU rfl G.b_isinstance dA (aA (mv 0) (aA (mY rfl G.b_bool bJJ) aB)))))) (λC s₀ H₀ ex=>(mv 0))) (bP aB) (bF _)) (lD (aY zD (aZ fB rfl G.b_len cP (aA (mv 6) aB)) (aZ fB rfl G.b_len cP (aA (mv 2) aB)) (bF _))))) (@aH _ _ _ (aS fX)) bI) (@aD _ _ _ _ _ (bQ Ay rfl (dP rfl G.b_range (aA (aZ fB rfl G.b_len cP (aA (mv 2) aB)) aB)) (aP (i:=9) sc_l_right.nd rfl (Or.inl rfl)) (@aH _ _ _ (cG (aY cZS (mv 9) (mv 5) (by rfl)) (@aH _ _ _ (cG (gN (cY (aT c_l_is_hoist_of hr (by decide) rfl (aA (bE bS (mv 6) (mv 9) (λ_ _=>rfl)) (aA (aT c_l_read hr (by decide) rfl (aA (bE bS (mv 2) (mv 9) (λ_ _=>rfl)) aB)) aB))))) (@aH _ _ _ (aS fX)) bI)) (@aH _ _ _ (cG (PW.pt (uV (aY zD (mv 9) (mv 3) (bF _)) (oO (aY (dXX hr.units0) (bE bS (mv 6) (mv 9) (λ_ _=>rfl)) (bE bS (mv 2) (mv 9) (λ_ _=>rfl)) (bF _))))) (@aH _ _ _ (aS fX)) bI))))) (@aD _ _ _ _ _ (cG (PW.pt (mK (gN (cY (aT c_l_is_hoist_of hr (by decide) rfl (aA (bE bS (mv 6) (mv 3) (λ_ _=>rfl)) (aA (mv 4) aB))))) (mK (gN (cY (aZ sU rfl G.b_isinstance dA (aA (mv 7) (aA (mY rfl G.b_dict oI) aB))))) (lD (aY (cZA hr.units) (mv 7) (aT c_l_plain hr (by decide) rfl (aA (mv 7) aB)) (bF _)))))) (@aH _ _ _ (aS fX)) bI) (@aD _ _ _ _ _ (@aO _ _ 10 _ _ _ _ sc_l_right.nd (by rfl) (by exact (Or.inl rfl)) (bK (cQR rfl) rfl G.b_list dE (aA (bK cJ2 rfl G.b_range bZG (aA (aZ fB rfl G.b_len cP (aA (mv 2) aB)) aB)) aB)) (by rfl) (by first | exact Or.inl rfl | exact Or.inr rfl)) (@aH _ _ _ (aS (iS (bXG hr.units) (aT c_l_plain hr (by decide) rfl (aA (aT c_l_pool hr (by decide) rfl (aA (mv 7) (aA (mv 6) (aA (mv 10) aB)))) aB)) (aT c_l_plain hr (by decide) rfl (aA (aT c_l_pool hr (by decide) rfl (aA (mv 1) (aA (mv 2) (aA (mv 10) aB)))) aB)) (bF _)))))))))))),?_⟩
 have hol:=iQ hn
 have hkl:=hks.length_le
 have hul:=hat.len
 have hvl:vs'.length=hs.length:=by rw [hatB.len,fA]
 have tt:=iU et
 have rL:=aM eL
 have rB:=aM eB
 have hlk:∀ k∈ks,k < hs.length/\(hs.getD k none).isSome=true:=λk hk=>by
   have:=gE (hks.subset hk)
   exact ⟨this.1,this.2.1⟩
 have hgf:=bZQ hgs (oY ok hc1 ⟨hc7,hcL⟩ hlk)
 have okB:HalOk (eU hs ((n :: ks).zip gs)):=aQR ok _ λz hz=>(hgf z.2 (Dw hz).2).1
 have hlenB:(eU hs ((n :: ks).zip gs)).length=hs.length:=fA hs _
 obtain ⟨⟨g0,eg0,hg0⟩,hat1,hat2⟩:=cQ3 hn hks hgs
 have htot:=bX2 hf0 hfo ok hn hks hgs (λg hg=>(hgf g hg).2) hcnt
 walk_at "go"
 refine cJC et ?_
 walk_at "go"
 refine fQ et (v:=.ref B) rfl ?_
 walk_at "go"
 refine ⟨b,us,hs,n,rfl,hb,hat,by omega,λp1 H1 hp1 s1 e1=>?_⟩
 have r1:=aM e1
 have rL1:=aI s1 rL
 have eL1:=s1 _ _ eL
 walk_at "go"
 refine qB (xs:=((aV hs n).map λk=>V.int ((k:Nat):Int))) (λm=>((aV hs n)[m]?).bind λk=>if decide (k∈ks)=true then some (V.int ((k:Nat):Int)) else none) r1 (bC (by rw [fL]; omega)) (λm x Hc A B' hx sm hA hB=>?_) (λD H2 hD s2 e2=>?_)
 · obtain ⟨k,hk,rfl⟩:=iV hx
   have rLc:=aI sm rL1
   walk_at "go"
   refine ⟨Wk.set rfl (Wk.refl _),?_⟩
   walk_at "go"
   refine bXQ (neg:=false) rLc rfl (kK _) ?_
   rw [if_neg (by decide),bQ5]
   refine gS (λhd=>?_) (λhd=>?_)
   · walk_at "go"
     exact hA _ (by rw [hk]; exact if_pos hd) _ (Same.refl _)
   · exact hB (by rw [hk]; exact if_neg hd) _ (Same.refl _)
 rw [fL,tH,bZW,zG hks (tK hs n)] at e2
 have s02:=s1.trans s2
 refine aXC (aM e2) (aI s2 rL1) (kK _) (kK _) ?_
 rw [if_pos rfl,bJ0]
 have rL2:=aI s2 rL1
 walk_at "go"
 refine qB (xs:=(ks.map λk=>V.int ((k:Nat):Int))) (λ_=>none) rL2 (bC (by rw [fL]; omega)) (λm x Hc A B' hx sm hA hB=>?_) (λD3 H3 hD3 s3 e3=>?_)
 · obtain ⟨k,hk,rfl⟩:=iV hx
   walk_at "go"
   refine ⟨Wk.set rfl (Wk.refl _),?_⟩
   walk_at "go"
   exact hB rfl _ (Same.refl _)
 rw [show (List.range (ks.map λk=>V.int ((k:Nat):Int)).length).filterMap (λ_=>(none:Option V))=[] by simp] at e3
 have s03:=s02.trans s3
 walk_at "go"
 refine ⟨by decide,λp4 hp4=>?_⟩
 have s4:=s03.trans (aF hp4 (.lst []))
 refine aXC (aI (aF hp4 _) (aM e3)) cC rfl rfl ?_
 generalize upd H3 p4 (.lst [])=H4 at s4 ⊢
 have rB4:=aI s4 rB
 have hb4:=aI s4 hb
 walk_at "go"
 rw [show (if true=true then !jA ([]:List V) [] else jA [] [])=false from rfl]
 walk_at "go"
 rw [hvl,hul,Au rfl]
 walk_at "go"
 rw [hul]
 refine ⟨⟨by omega,by omega⟩,?_⟩
 rw [show ((hs.length:Nat):Int).toNat=hs.length from Ei _]
 clear e1 r1 rL1 eL1 s1 e2 s2 s02 rL2 e3 s3 s03 hp4 hD hD3 hp1
 refine fT (λk σ H'=>∃ (v8 v9 v10:Option V),σ=[some (.ref t),some (.ref a),some (.ref b),some (.int ((n:Nat):Int)),some (.str (bH cw)),some (.ref L),some (.ref B),some (.ref R),v8,v9,v10]/\Same H H')
   ⟨_,_,_,rfl,s4⟩ ?_ ?_
 · rintro k σ H5 hk0 ⟨v8,v9,v10,rfl,s5⟩
   have hk:k < hs.length:=hk0
   rw [show (0:Int) + (k:Int)=((k:Nat):Int) by omega]
   have rL5:=aI s5 rL
   have rB5:=aI s5 rB
   have hb5:=aI s5 hb
   obtain ⟨v,av,_,hv⟩:=(hatB.keep s5).get (k:=k) (by rw [hlenB]; exact hk)
   obtain ⟨u,au,_,hu⟩:=(hat.keep s5).get hk
   walk_at "go"
   refine bXQ (neg:=false) rL5 rfl (kK _) ?_
   rw [if_neg (by decide),bQ5]
   refine gS (λhd=>?_) (λhd=>?_)
   · have hkm:=Ba hd
     obtain ⟨g,eg,hgg⟩:=hat1 k hkm
     have hsm:=(hlk k hkm).2
     rw [eg] at hv
     obtain ⟨pg,rfl,hpg⟩:=hv
     cases ec:hs.getD k none with
     | none=>rw [ec] at hsm; cases hsm
     | some cs=>
       rw [ec] at hu hgg
       obtain ⟨pc,rfl,hpc⟩:=hu
       have hm:some cs∈hs:=by
         rw [Ac,Aa hk] at ec
         rw [<-show hs[k]=some cs from ec]
         exact Ca hk
       have h7c:=eQ (ok cs hm)
       rw [Ab] at h7c
       walk_at "go"
       refine cJ rB5 av ?_
       walk_at "go"
       refine cJ hb5 au ?_
       walk_at "go"
       refine ⟨pc,cs,rfl,aM hpc,ok cs hm,?_⟩
       walk_at "go"
       refine ⟨pg,g,rdC cs,rfl,hpg,hgg,by rw [oJ]; exact h7c.2,λH6 s6=>?_⟩
       walk_at "go"
       exact ⟨_,_,_,rfl,s5.trans s6⟩
   · have hkm:=Bp (Br.mpr hd)
     walk_at "go"
     by_cases ekn:k=n
     · rw [Au (show ((k:Nat):Int)=((n:Nat):Int) by omega)]
       walk_at "go"
       exact ⟨_,_,_,rfl,s5⟩
     · rw [Aw (show ¬ ((k:Nat):Int)=((n:Nat):Int) by omega)]
       walk_at "go"
       refine cJ rB5 av ?_
       walk_at "go"
       refine cJ hb5 au ?_
       rw [hat2 k ekn hkm] at hv
       cases ec:hs.getD k none with
       | none=>
         rw [ec] at hv hu
         obtain rfl:v=V.non:=hv
         obtain rfl:u=V.non:=hu
         refine .inl ⟨rfl,rfl,?_⟩
         walk_at "go"
         exact ⟨_,_,_,rfl,s5⟩
       | some cs=>
         rw [ec] at hv hu
         obtain ⟨pg,rfl,hpg⟩:=hv
         obtain ⟨pc,rfl,hpc⟩:=hu
         refine .inr (aXC (aM hpg) (aM hpc) (eJ _) (eJ _) ?_)
         rw [if_pos rfl,aJG (eJ _)]
         walk_at "go"
         exact ⟨_,_,_,rfl,s5⟩
 · rintro σ H5 ⟨v8,v9,v10,rfl,s5⟩
   have rB5:=aI s5 rB
   have hb5:=aI s5 hb
   obtain ⟨v,av,_,hv⟩:=(hatB.keep s5).get (k:=n) (by rw [hlenB]; exact hn)
   rw [eg0] at hv
   obtain ⟨pg,rfl,hpg⟩:=hv
   walk_at "go"
   refine cJ rB5 av ?_
   walk_at "go"
   refine ⟨pg,g0,cw,rfl,hpg,hg0,hc7,λH6 s6=>?_⟩
   have s06:=s5.trans s6
   have eR6:=s06 _ _ eR
   have hdR:=jS eR6
   walk_at "go"
   refine ⟨R,kwr,_,rfl,eR6,lkR,xC _,λr7 kw7 H7 hr7 s7 e7 lk7=>?_⟩
   have s07:=s06.trans s7
   refine tB 0 (.dic (.inl (s07 _ _ eR)) (.inl e7) (lkR.deq (lk7.ext (wA _)))) ?_
   have hb7:=aI s07 hb
   walk_at "go"
   rw [hul]
   refine cXV λp8 hp8=>?_
   have s8:=s07.trans (aF hp8 (.rng 0 ((hs.length:Nat):Int)))
   have e8:(upd H7 p8 (.rng 0 ((hs.length:Nat):Int))) p8=some (.rng 0 ((hs.length:Nat):Int)):=aE
   generalize upd H7 p8 (.rng 0 ((hs.length:Nat):Int))=H8 at s8 e8 ⊢
   walk_at "go"
   refine cQY e8 (by omega) λp9 hp9=>?_
   have s9:=s8.trans (aF hp9 (.lst ((List.range hs.length).map λk=>V.int ((k:Nat):Int))))
   have e9:rdL (upd H8 p9 (.lst ((List.range hs.length).map λk=>V.int ((k:Nat):Int)))) p9=some ((List.range hs.length).map λk=>V.int ((k:Nat):Int)):=cC
   generalize upd H8 p9 (.lst ((List.range hs.length).map λk=>V.int ((k:Nat):Int)))=H9 at s9 e9 ⊢
   walk_at "go"
   refine ⟨R,B,p9,kwr,_,vs',eU hs ((n :: ks).zip gs),List.range hs.length,rfl,s9 _ _ eR,lkR,xC _,aI s9 rB,hatB.keep s9,okB,e9,by rw [Bx]; exact h6,λk hk=>by rw [hlenB]; exact Cb.mp hk,λrA kwA gA HA hrA sA eA lkA hfoA hgA=>?_⟩
   walk_at "go"
   refine ⟨rA,kwA,gA,rfl,eA,lkA,hfoA,λrC kwC HC hrC sC eC lkC=>?_⟩
   have s9C:=sA.trans sC
   have s0C:=s9.trans s9C
   walk_at "go"
   refine ⟨a,b,p9,kvs,f,us,hs,List.range hs.length,rfl,s0C _ _ ha,lk,hfo,aI s0C hb,hat.keep s0C,ok,aI s9C e9,by rw [Bx]; exact h6,λk hk=>Cb.mp hk,λrD kwD gD HD hrD sD eD lkD hfoD hgD=>?_⟩
   walk_at "go"
   refine ⟨rD,kwD,gD,rfl,eD,lkD,hfoD,λrE kwE HE hrE sE eE lkE=>?_⟩
   have sCE:=sD.trans sE
   refine tB 0 (.dic (.inl (sCE _ _ eC)) (.inl eE) (lkC.deq (lkE.ext (jH λc _=>?_)))) ?_
   · have h1:=htot c
     unfold cXS at h1
     rw [hlenB] at h1
     rw [hgA c,hgD c]
     exact h1.symm
   · exact q _ (s0C.trans sCE)
theorem HalsAt.alw {H:Hp} {vs us:List V} {hs:List (Option (List Nat))} {p q:Addr} (a:HalsAt H vs hs) (b:HalsAt H us hs) (hp:rdL H p=some vs) (hq:rdL H q=some us):Alw H 2 (.ref p) (.ref q):=by
 refine .lst hp hq (by rw [a.len,b.len]) λj x y hx hy=>?_
 obtain ⟨h,hh,hv⟩:=a.at hx
 have hw:=b.val j y h hy hh
 cases h with
 | none=>
   rw [show x=.non from hv,show y=.non from hw]
   exact Alw.flat rfl
 | some cs=>
   obtain ⟨p1,rfl,h1⟩:=hv
   obtain ⟨p2,rfl,h2⟩:=hw
   exact .lst (aM h1) (aM h2) rfl (Alw.flats (eJ _))
theorem Alw.up {H:Hp}:∀ {n:Nat} {x y:V},Alw H n x y->Alw H (n + 1) x y
 | 0,x,y,h=>.inl h
 | n + 1,x,y,h=>by
   rcases h with h | ⟨p,q,h1,h2,⟨xs,ys,h3,h4,h5,h6⟩ | h3⟩
   · exact .inl h
   · exact .inr ⟨p,q,h1,h2,.inl ⟨xs,ys,h3,h4,h5,λj x' y' hx hy=>Alw.up (h6 j x' y' hx hy)⟩⟩
   · exact .inr ⟨p,q,h1,h2,.inr h3⟩
def rZ:Sp:=λvs H Q _=>∃ (a b:Addr) (kvs:List (Key × V)) (f:Nat->Option Int) (us:List V) (hs:List (Option (List Nat))) (n:Nat) (cw:List Nat),vs=[.ref a,.ref b,.int ((n:Nat):Int),.str (bH cw)]/\lH H a b kvs f us hs n cw/\FlOnly f/\∀ H',Same H H'->Q (.bl true) H'
theorem sc_l_good:FnScope ["_law_locker_here", "_law_halyards_here", "_law_number", "_law_word_here", "_law_handed", "_law_found", "_law_kept", "_law_hoist_here", "_law_again"] ["_law_locker_here", "_law_halyards_here", "_law_number", "_law_word_here"] (aG iC):=⟨rfl,rfl,rfl,by decide +kernel,rfl,by decide +kernel,by decide +kernel⟩
theorem aZD {Zw Zz Zx Zy:Addr} {f:Addr} {fd:FuncData} (F:Fun K "_law_good" "_law_good" iC f fd) (G:Gs K mg Zw Zz Zx Zy) (c_l_told:Cal P w K mg base 13 "_law_told" ["_law_locker_here", "_law_halyards_here", "_law_number", "_law_word_here"] sL) (c_l_right:Cal P w K mg base 3 "_law_right" ["_law_found", "_law_locker_here", "_law_halyards_here", "_law_number", "_law_word_here"] pT):FnOk P w K mg base CX0 14 f fd ["_law_locker_here", "_law_halyards_here", "_law_number", "_law_word_here"] rZ:=by
 refine F.ok sc_l_good (λvs H Q E h=>?_) (λcdv A outer s H vs Q E hr h=>?_)
 · obtain ⟨a,b,kvs,f,us,hs,n,cw,rfl,_⟩:=h; rfl
 obtain ⟨a,b,kvs,f,us,hs,n,cw,rfl,hin,hfo,q⟩:=h
 have hin':=hin
 obtain ⟨ha,lk,hf0,hb,hat,ok,h6,hn,hc1,hc7,hcL⟩:=hin'
 have hinK:∀ H',Same H H'->lH H' a b kvs f us hs n cw:=λH' s=>⟨s _ _ ha,lk,hf0,aI s hb,hat.keep s,ok,h6,hn,hc1,hc7,hcL⟩
 have hul:=hat.len
 refine ⟨_,(@aD _ _ _ _ _ (@aO _ _ 4 _ _ _ _ sc_l_good.nd (by rfl) (by exact (Or.inl rfl)) (bP (aA (bK pJ rfl G.b_dict oI (aA (mv 0) aB)) (aA (dD rfl (bW (mv 1)) (wY (N:=["_law_hoist_here"]) (by decide +kernel) (by decide +kernel)) (by decide +kernel) rfl (by decide +kernel) (λC s₀ H₀ ex=>(aP (i:=0) (show List.Nodup (["_law_hoist_here"]:List Str) by decide +kernel) rfl (Or.inl rfl))) (λC s₀ H₀ ex=>jB) (λC s₀ H₀ ex=>(oU (aY rV (mv 0) dC (bF _)) dC (bK iP rfl G.b_list dE (aA (mv 0) aB))))) aB))) (by rfl) (by first | exact Or.inl rfl | exact Or.inr rfl)) (@aD _ _ _ _ _ (@aO _ _ 5 _ _ _ _ sc_l_good.nd (by rfl) (by exact (Or.inl rfl)) (aT c_l_told hr (by decide) rfl (aA (bE bS (mv 4) aJ (λ_ _=>rfl)) (aA (bE bS (mv 4) aJ (λ_ _=>rfl)) (aA (mv 2) (aA (mv 3) aB))))) (by rfl) (by first | exact Or.inl rfl | exact Or.inr rfl)) (@aD _ _ _ _ _ (cG (aY (cZA hr.units) (mv 4) (bP (aA (mv 0) (aA (mv 1) aB))) (bF _)) (@aH _ _ _ (aS fX)) bI) (@aD _ _ _ _ _ (cG (aY rV (mv 5) dC (bF _)) (@aH _ _ _ (aS (iS rV (aT c_l_told hr (by decide) rfl (aA (mv 0) (aA (mv 1) (aA (mv 2) (aA (mv 3) aB))))) dC (bF _)))) bI) (@aD _ _ _ _ _ (cG (gN (cY (aT c_l_right hr (by decide) rfl (aA (mv 5) (aA (mv 0) (aA (mv 1) (aA (mv 2) (aA (mv 3) aB)))))))) (@aH _ _ _ (aS fX)) bI) (@aD _ _ _ _ _ (@aO _ _ 6 _ _ _ _ sc_l_good.nd (by rfl) (by exact (Or.inl rfl)) (bP (aA (bK iP rfl G.b_list dE (aA (bE bS (mv 5) aJ (λ_ _=>rfl)) aB)) (aA (dD rfl (bW (bE bS (mv 5) aJ (λ_ _=>rfl))) (wY (N:=["_law_hoist_here"]) (by decide +kernel) (by decide +kernel)) (by decide +kernel) rfl (by decide +kernel) (λC s₀ H₀ ex=>(aP (i:=0) (show List.Nodup (["_law_hoist_here"]:List Str) by decide +kernel) rfl (Or.inl rfl))) (λC s₀ H₀ ex=>jB) (λC s₀ H₀ ex=>(oU (aY rV (mv 0) dC (bF _)) dC (bK iP rfl G.b_list dE (aA (mv 0) aB))))) (aA (bK pJ rfl G.b_dict oI (aA (bE bS (mv 5) aJ (λ_ _=>rfl)) aB)) aB)))) (by rfl) (by first | exact Or.inl rfl | exact Or.inr rfl)) (@aD _ _ _ _ _ (cE (cX Bh Cg Ci nR (bE bS (mv 5) aJ (λ_ _=>rfl)) (aA aJ aB))) (@aD _ _ _ _ _ (bQ Ay rfl (bW (bE bS (mv 5) aJ (λ_ _=>rfl))) (aP (i:=7) sc_l_good.nd rfl (Or.inl rfl)) (@aH _ _ _ (cG (aY pG (mv 7) dC (bF _)) (@aH _ _ _ (cE (bXO Bh PySem.F.slot_list_clear PySem.F.type_list_clear cXX (mv 7)))) bI))) (@aD _ _ _ _ _ (cE (aX1 PySem.F.slot_dict_clear PySem.F.type_dict_clear bQN (bE bS (mv 5) aJ (λ_ _=>rfl)))) (@aD _ _ _ _ _ (@aO _ _ 8 _ _ _ _ sc_l_good.nd (by rfl) (by exact (Or.inl rfl)) (aT c_l_told hr (by decide) rfl (aA (mv 0) (aA (mv 1) (aA (mv 2) (aA (mv 3) aB))))) (by rfl) (by first | exact Or.inl rfl | exact Or.inr rfl)) (@aH _ _ _ (aS (bZ5 (iS (bXG hr.units) (mv 4) (bP (aA (mv 0) (aA (mv 1) aB))) (bF _)) (yJ (iS (bXG hr.units) (bP (aA (bE bS (mv 8) aJ (λ_ _=>rfl)) (aA (bE bS (mv 8) aJ (λ_ _=>rfl)) (aA (bE bS (mv 8) aJ (λ_ _=>rfl)) aB)))) (mv 6) (bF _)))))))))))))))),?_⟩
 walk_at "go"
 refine pB (.inl ha) λd hd=>?_
 have s1:=aF hd (.dK kvs)
 have e1:(upd H d (.dK kvs)) d=some (.dK kvs):=aE
 generalize upd H d (.dK kvs)=H1 at s1 e1 ⊢
 have hb1:=aI s1 hb
 walk_at "go"
 refine vI (hs:=hs) hb1 (bC (by omega)) hul (λi x h Hc A B hx hh sm hA=>?_) (λD Hd vs hD sD hdd hatD hfr=>?_)
 · have hv:=(hat.keep (s1.trans sm)).val i x h hx hh
   cases h with
   | none=>
     obtain rfl:x=V.non:=hv
     walk_at "go"
     refine ⟨Wk.set rfl (Wk.refl _),?_⟩
     walk_at "go"
     rw [show decide (V.non=V.non)=true from rfl]
     walk_at "go"
     exact hA .non _ (Same.refl _) rfl λp z=>nomatch z
   | some cs=>
     obtain ⟨pc,rfl,hpc⟩:=hv
     have rc:=aM hpc
     walk_at "go"
     refine ⟨Wk.set rfl (Wk.refl _),?_⟩
     walk_at "go"
     rw [show decide (V.ref pc=V.non)=false from Aw (λz=>nomatch z)]
     walk_at "go"
     intro l2 hl2
     exact hA (.ref l2) _ (aF hl2 _) ⟨l2,rfl,aE⟩ λp z=>by cases z; exact hl2
 · walk_at "go"
   refine ⟨by show 2<=sizeLine; decide,λpH hpH=>?_⟩
   have s2:=aF hpH (.lst [.ref d,.ref D])
   have e2:(upd Hd pH (.lst [.ref d,.ref D])) pH=some (.lst [.ref d,.ref D]):=aE
   generalize upd Hd pH (.lst [.ref d,.ref D])=H2 at s2 e2 ⊢
   have sd2:=sD.trans s2
   have s02:=s1.trans sd2
   have hin2:lH H2 d D kvs f vs hs n cw:=⟨sd2 _ _ e1,lk,hf0,aM (s2 _ _ hdd),hatD.keep s2,ok,h6,hn,hc1,hc7,hcL⟩
   have r2:=aM e2
   have alw:∀ H' p,Same H2 H'->rdL H' p=some [.ref a,.ref b]->Alw H' 4 (.ref pH) (.ref p):=λH' p s hp=>by
     refine .lst (aI s r2) hp rfl λj x y hx hy=>?_
     match j,hx,hy with
     | 0,hx,hy=>cases hx; cases hy; exact .dic (.inl ((sd2.trans s) _ _ e1)) (.inl ((s02.trans s) _ _ ha)) (lk.deq lk)
     | 1,hx,hy=>cases hx; cases hy; exact Alw.up ((hatD.keep (s2.trans s)).alw (hat.keep (s02.trans s)) (aM ((s2.trans s) _ _ hdd)) (aI (s02.trans s) hb))
     | j + 2,hx,_=>cases hx
   walk_at "go"
   refine cJ r2 (v:=.ref d) rfl ?_
   walk_at "go"
   refine cJ r2 (v:=.ref D) rfl ?_
   walk_at "go"
   refine ⟨d,D,kvs,f,vs,hs,n,cw,rfl,hin2,λt L B R ks gs vs' kwr H3 O=>?_,λhno H3 s3=>?_⟩
   rotate_left
   · walk_at "go"
     refine ⟨by show 2<=sizeLine; decide,λp5 hp5=>?_⟩
     have s5:=s3.trans (aF hp5 (.lst [.ref a,.ref b]))
     have e5:rdL (upd H3 p5 (.lst [.ref a,.ref b])) p5=_:=cC
     generalize upd H3 p5 (.lst [.ref a,.ref b])=H5 at s5 e5 ⊢
     refine tB 3 (alw _ _ s5 e5) ?_
     walk_at "go"
     rw [show decide (V.non=V.non)=true from rfl]
     have s05:=s02.trans s5
     walk_at "go"
     refine ⟨a,b,kvs,f,us,hs,n,cw,rfl,hinK _ s05,λt L B R ks gs vs' kwr H6 O=>?_,λ_ H6 s6=>?_⟩
     · obtain ⟨j,hj⟩:=O.fst
       exact absurd hj.2.1 (hno ks (mem_sets.mp (Ai hj.1)))
     · walk_at "go"
       exact q _ (s05.trans s6)
   obtain ⟨j,hfst⟩:=O.fst
   have hks:ks.Sublist (aV hs n):=mem_sets.mp (Ai hfst.1)
   have hol:=iQ hn
   have hkl:=hks.length_le
   walk_at "go"
   refine ⟨by show 2<=sizeLine; decide,λp5 hp5=>?_⟩
   have k5:=aF hp5 (.lst [.ref a,.ref b])
   have e5:rdL (upd H3 p5 (.lst [.ref a,.ref b])) p5=_:=cC
   generalize upd H3 p5 (.lst [.ref a,.ref b])=H5 at k5 e5 ⊢
   have O5:=O.keep k5
   refine tB 3 (alw _ _ O5.same e5) ?_
   walk_at "go"
   rw [show decide (V.ref t=V.non)=false from Aw (λz=>nomatch z)]
   walk_at "go"
   refine ⟨t,a,b,L,B,R,kvs,f,us,hs,n,cw,ks,gs,vs',kwr,rfl,hinK _ (s02.trans O5.same),hfo,O5.et,O5.eL,hks,O.hgs,O.hcnt,O5.eB,O5.hat,O5.eR,O.lk,λH6 s6=>?_⟩
   have O6:=O5.keep s6
   have rL6:=aM O6.eL
   walk_at "go"
   refine fQ O6.et (v:=.ref L) rfl ?_
   walk_at "go"
   intro c1 hc1'
   have k7:=aF hc1' (.lst (ks.map λk=>V.int ((k:Nat):Int)))
   have e7:(upd H6 c1 (.lst (ks.map λk=>V.int ((k:Nat):Int)))) c1=some (.lst (ks.map λk=>V.int ((k:Nat):Int))):=aE
   generalize upd H6 c1 (.lst (ks.map λk=>V.int ((k:Nat):Int)))=H7 at k7 e7 ⊢
   have O7:=O6.keep k7
   have rB7:=aM O7.eB
   have hvl:vs'.length=hs.length:=by rw [O.hat.len,fA]
   have hlz:(eU hs ((n :: ks).zip gs)).length=hs.length:=fA hs _
   walk_at "go"
   refine fQ O7.et (v:=.ref B) rfl ?_
   walk_at "go"
   refine vI (hs:=eU hs ((n :: ks).zip gs)) rB7 (bC (by omega)) (by rw [hvl,hlz]) (λi x h Hc A B' hx hh sm hA=>?_) (λD8 H8 vs8 hD8 s8 e8 hat8 hfr8=>?_)
   · have hv:=(O7.hat.keep sm).val i x h hx hh
     cases h with
     | none=>
       obtain rfl:x=V.non:=hv
       walk_at "go"
       refine ⟨Wk.set rfl (Wk.refl _),?_⟩
       walk_at "go"
       rw [show decide (V.non=V.non)=true from rfl]
       walk_at "go"
       exact hA .non _ (Same.refl _) rfl λp z=>nomatch z
     | some cs=>
       obtain ⟨pc,rfl,hpc⟩:=hv
       have rc:=aM hpc
       walk_at "go"
       refine ⟨Wk.set rfl (Wk.refl _),?_⟩
       walk_at "go"
       rw [show decide (V.ref pc=V.non)=false from Aw (λz=>nomatch z)]
       walk_at "go"
       intro l2 hl2
       exact hA (.ref l2) _ (aF hl2 _) ⟨l2,rfl,aE⟩ λp z=>by cases z; exact hl2
   have O8:=O7.keep s8
   walk_at "go"
   refine fQ O8.et (v:=.ref R) rfl ?_
   walk_at "go"
   refine pB (.inl O8.eR) λc3 hc3=>?_
   have k9:=aF hc3 (.dK kwr)
   have e9:(upd H8 c3 (.dK kwr)) c3=some (.dK kwr):=aE
   generalize upd H8 c3 (.dK kwr)=H9 at k9 e9 ⊢
   walk_at "go"
   refine ⟨by show 3<=sizeLine; decide,λkp hkp=>?_⟩
   have k10:=aF hkp (.lst [.ref c1,.ref D8,.ref c3])
   have e10:(upd H9 kp (.lst [.ref c1,.ref D8,.ref c3])) kp=_:=aE
   generalize upd H9 kp (.lst [.ref c1,.ref D8,.ref c3])=H10 at k10 e10 ⊢
   have s810:=k9.trans k10
   have O10:=O8.keep s810
   have hown:V.ref B ∉ vs':=O10.hat.own O10.eB
   have nLB:L≠B:=λz=>by
     have e:=O10.eL
     rw [z,O10.eB] at e
     have hu:vs'=(ks.map λk=>V.int ((k:Nat):Int)):=by injection e with e; injection e
     exact O10.hat.ints (by rw [hlz]; omega) hu
   have hlist:∀ p,V.ref p∈vs'->∃ xs,H10 p=some (.lst xs):=λp hp=>O10.hat.ref hp
   have nX:∀ {Hi:Hp} {p:Addr},HOut H2 Hi f hs n cw t L B R ks gs vs' kwr->Hi p=none->¬ (p=L\/p=R\/V.ref p∈vs'):=fun {Hi p} Oi hp z=>by
     rcases z with z | z | z
     · rw [z,Oi.eL] at hp; cases hp
     · rw [z,Oi.eR] at hp; cases hp
     · obtain ⟨xs,e⟩:=Oi.hat.ref z
       rw [e] at hp
       cases hp
   have nRL:R≠L:=λz=>by have e:=O10.eR; rw [z,O10.eL] at e; cases e
   have nRv:V.ref R ∉ vs':=λz=>by obtain ⟨xs,e⟩:=hlist R z; rw [O10.eR] at e; cases e
   have nBR:B≠R:=λz=>by have e:=O10.eB; rw [z,O10.eR] at e; cases e
   have ntL:t≠L:=λz=>by have e:=O10.et; rw [z,O10.eL] at e; cases e
   have ntR:t≠R:=λz=>by have e:=O10.et; rw [z,O10.eR] at e; cases e
   have ntv:V.ref t ∉ vs':=λz=>by obtain ⟨xs,e⟩:=hlist t z; rw [O10.et] at e; cases e
   have nc1:=nX O6 hc1'
   have nD8:=nX O7 hD8
   have nc3:=nX O8 hc3
   have nkp:=nX (O8.keep k9) hkp
   have eL10:=O10.eL
   have mL10:=bN eL10
   have hkv:(ks.map λk=>V.int ((k:Nat):Int)).length < sizeLine:=bC (by rw [fL]; omega)
   have e7':=(s8.trans s810) _ _ e7
   have e8':=s810 _ _ e8
   have hat8':=hat8.keep s810
   have e9':=k10 _ _ e9
   have n8h:∀ p,V.ref p∈vs8->¬ (p=L\/p=R\/V.ref p∈vs'):=λp hp=>nX O7 (hfr8 p hp)
   clear O O5 O6 O7 O8 k5 s6 k7 s8 k9 k10 s810 hp5 e5 hkp hc3 hD8 hc1' rL6 rB7 e7 e8 hat8 e9 hfr8
   walk_at "go"
   refine fQ O10.et (v:=.ref L) rfl ?_
   walk_at "go"
   have f11:∀ p u,p≠L->H10 p=some u->(upd H10 L (.lst ((ks.map λk=>V.int ((k:Nat):Int)) ++ [V.int 6]))) p=some u:=λp u hp hu=>(aK hp).trans hu
   have l11:∀ p,V.ref p∈vs'->∃ xs,(upd H10 L (.lst ((ks.map λk=>V.int ((k:Nat):Int)) ++ [V.int 6]))) p=some (.lst xs):=λp hp=>by
     by_cases z:p=L
     · rw [z]; exact ⟨_,aE⟩
     · obtain ⟨xs,e⟩:=hlist p hp
       exact ⟨xs,f11 p _ z e⟩
   generalize upd H10 L (.lst ((ks.map λk=>V.int ((k:Nat):Int)) ++ [V.int 6]))=H11 at f11 l11 ⊢
   have et11:=f11 _ _ ntL O10.et
   have rB11:=aM (f11 _ _ (Ne.symm nLB) O10.eB)
   walk_at "go"
   refine fQ et11 (v:=.ref B) rfl ?_
   walk_at "go"
   refine cT (xs:=vs') (λi σ H'=>∃ (v7:Option V),σ=[some (.ref a),some (.ref b),some (.int ((n:Nat):Int)),some (.str (bH cw)),some (.ref pH),some (.ref t),some (.ref kp),v7,none]/\(∀ p u,p≠L->V.ref p ∉ vs'->H10 p=some u->H' p=some u)/\∀ p,V.ref p ∈ vs'->∃ xs,H' p=some (.lst xs))
     ⟨_,rfl,λp u h1 _ hu=>f11 p u h1 hu,l11⟩ (λi σ H' _ ⟨_,_,fr,_⟩=>aM (fr _ _ (Ne.symm nLB) hown O10.eB)) ?_ ?_
   · rintro i x σ H12 hx ⟨v7,rfl,f12,l12⟩
     obtain ⟨h,_,hv⟩:=O10.hat.at hx
     cases h with
     | none=>
       obtain rfl:x=V.non:=hv
       walk_at "go"
       rw [show decide (V.non=V.non)=true from rfl]
       walk_at "go"
       exact ⟨_,rfl,f12,l12⟩
     | some cs=>
       obtain ⟨pc,rfl,hpc⟩:=hv
       have hm:=Ai hx
       obtain ⟨xs,exs⟩:=l12 pc hm
       have mx:=bN exs
       walk_at "go"
       rw [show decide (V.ref pc=V.non)=false from Aw (λz=>nomatch z)]
       walk_at "go"
       refine ⟨_,rfl,λp u h1 h2 hu=>?_,λp hp=>?_⟩
       · rw [aK λz=>h2 (by rw [z]; exact hm)]
         exact f12 p u h1 h2 hu
       · by_cases z:p=pc
         · rw [z]; exact ⟨_,aE⟩
         · rw [aK z]; exact l12 p hp
   · rintro σ H12 ⟨v7,rfl,f12,l12⟩
     have et12:=f12 _ _ ntL ntv O10.et
     have eR12:=f12 _ _ nRL nRv O10.eR
     have hdR:=jS eR12
     walk_at "go"
     refine fQ et12 (v:=.ref R) rfl ?_
     walk_at "go"
     refine bQK eR12 ?_
     have f13:∀ p u,¬ (p=L\/p=R\/V.ref p∈vs')->H10 p=some u->(upd H12 R (.dK [])) p=some u:=λp u hp hu=>(aK λz=>hp (.inr (.inl z))).trans (f12 p u (λz=>hp (.inl z)) (λz=>hp (.inr (.inr z))) hu)
     generalize upd H12 R (.dK [])=H13 at f13 ⊢
     clear f12 l12 f11 l11 et11 rB11 et12 eR12 hdR mL10
     have s13:Same H2 H13:=λp u hu=>f13 p u (λz=>by
       rcases z with z | z | z
       · rw [z,O10.hL] at hu; cases hu
       · rw [z,O10.hR] at hu; cases hu
       · rw [O10.fr p z] at hu; cases hu) (O10.same _ _ hu)
     have s013:=s02.trans s13
     walk_at "go"
     refine ⟨a,b,kvs,f,us,hs,n,cw,rfl,hinK _ s013,λt2 L2 B2 R2 ks2 gs2 vs2 kw2 H14 P=>?_,λhno=>absurd hfst.2.1 (hno ks hks)⟩
     obtain ⟨j2,hfst2⟩:=P.fst
     obtain rfl:=aZY hfst hfst2
     obtain ⟨fs1,hd1,rfl⟩:=O10.det
     obtain ⟨fs2,hd2,eg2⟩:=P.det
     obtain rfl:=hd1.one hd2
     subst eg2
     have s14:=s13.trans P.same
     walk_at "go"
     refine ⟨by show 2<=sizeLine; decide,λp15 hp15=>?_⟩
     have k15:=aF hp15 (.lst [.ref a,.ref b])
     have e15:rdL (upd H14 p15 (.lst [.ref a,.ref b])) p15=_:=cC
     generalize upd H14 p15 (.lst [.ref a,.ref b])=H15 at k15 e15 ⊢
     have P15:=P.keep k15
     refine tB 3 (alw _ _ (s13.trans P15.same) e15) ?_
     walk_at "go"
     refine fQ P15.et (v:=.ref L2) rfl ?_
     walk_at "go"
     refine fQ P15.et (v:=.ref B2) rfl ?_
     walk_at "go"
     refine fQ P15.et (v:=.ref R2) rfl ?_
     walk_at "go"
     refine ⟨by show 3<=sizeLine; decide,λp16 hp16=>?_⟩
     have k16:=aF hp16 (.lst [.ref L2,.ref B2,.ref R2])
     have e16:rdL (upd H15 p16 (.lst [.ref L2,.ref B2,.ref R2])) p16=_:=cC
     generalize upd H15 p16 (.lst [.ref L2,.ref B2,.ref R2])=H16 at k16 e16 ⊢
     have P16:=P15.keep k16
     have f16:∀ p u,¬ (p=L\/p=R\/V.ref p∈vs')->H10 p=some u->H16 p=some u:=λp u hp hu=>P16.same _ _ (f13 p u hp hu)
     have hat16:=hat8'.frame (X:=λp=>p=L\/p=R\/V.ref p∈vs') f16 λp xs hp _=>n8h p hp
     have al1:Alw H16 3 (.ref L2) (.ref c1):=.lst (aM P16.eL) (aM (f16 _ _ nc1 e7')) rfl (Alw.flats (kK _))
     have al2:Alw H16 2 (.ref B2) (.ref D8):=P16.hat.alw hat16 (aM P16.eB) (aM (f16 _ _ nD8 e8'))
     have al3:Alw H16 3 (.ref R2) (.ref c3):=.dic (.inl P16.eR) (.inl (f16 _ _ nc3 e9')) (P16.lk.deq O10.lk)
     refine tB 3 (.lst e16 (aM (f16 _ _ nkp e10)) rfl λj x y hx hy=>?_) ?_
     · match j,hx,hy with
       | 0,hx,hy=>cases hx; cases hy; exact al1
       | 1,hx,hy=>cases hx; cases hy; exact Alw.up al2
       | 2,hx,hy=>cases hx; cases hy; exact al3
       | j + 3,hx,_=>cases hx
     · exact q _ (s02.trans (s13.trans P16.same))
theorem sc_law:FnScope ["_law_script", "_law_start", "_law_locker_here", "_law_halyards_here", "_law_number", "_law_word_here"] ["_law_script"] (aG lQ):=⟨rfl,rfl,rfl,by decide +kernel,rfl,by decide +kernel,by decide +kernel⟩
theorem cJS {Zw Zz Zx Zy:Addr} {f:Addr} {fd:FuncData} (F:Fun K "law" "law" lQ f fd) (G:Gs K mg Zw Zz Zx Zy) (c_l_drawn:Cal P w K mg base 4 "_law_drawn" ["_law_script", "_law_start"] (qH K)) (c_l_good:Cal P w K mg base 14 "_law_good" ["_law_locker_here", "_law_halyards_here", "_law_number", "_law_word_here"] rZ):FnOk P w K mg base CX0 15 f fd ["_law_script"] (uN K):=by
 refine F.ok sc_law (λvs H Q E h=>?_) (λcdv A outer s H vs Q E hr h=>?_)
 · obtain ⟨a,ns,rfl,_⟩:=h; rfl
 obtain ⟨a,ns,rfl,hS,h63,q⟩:=h
 refine ⟨_,(@aD _ _ _ _ _ (bQ Ay rfl (aJD rfl G.b_range (aA aJ (aA (aZ (cX4 rfl) rfl G.b_max bQQ (aA aJ (aA (aZ (cZU rfl) rfl G.b_min bJE (aA (aZ lS rfl G.b_len cP (aA (mv 0) aB)) (aA aJ aB))) aB))) (aA aJ aB)))) (aP (i:=1) sc_law.nd rfl (Or.inl rfl)) (@aD _ _ _ _ _ (zC (aT c_l_drawn hr (by decide) rfl (aA (mv 0) (aA (mv 1) aB))) (dQ0 rfl (eY (aP (i:=2) sc_law.nd rfl (Or.inl rfl)) (eY (aP (i:=3) sc_law.nd rfl (Or.inl rfl)) (eY (aP (i:=4) sc_law.nd rfl (Or.inl rfl)) (eY (aP (i:=5) sc_law.nd rfl (Or.inl rfl)) uZ)))))) (@aH _ _ _ (cG (gN (cY (aT c_l_good hr (by decide) rfl (aA (mv 2) (aA (mv 3) (aA (mv 4) (aA (mv 5) aB))))))) (@aH _ _ _ (aS fX)) bI)))) (@aH _ _ _ (aS fX))),?_⟩
 walk_at "go"
 refine ⟨_,_,rfl,.inl hS,?_⟩
 have hnl:(ns.map V.int).length=ns.length:=Ab ..
 rw [hnl]
 walk_at "go"
 obtain ⟨m,hm⟩:∃ m:Int,m=(if (1:Int) < (if (50:Int) < (ns.length:Int) then 50 else (ns.length:Int)) then (if (50:Int) < (ns.length:Int) then 50 else (ns.length:Int)) else 1):=⟨_,rfl⟩
 have hm1:m<=50:=by rw [hm]; split <;> split <;> omega
 have hm2:0<=m:=by rw [hm]; split <;> split <;> omega
 rw [<-hm]
 refine ⟨⟨by omega,by omega,by omega,by omega,by omega,by omega⟩,?_⟩
 refine aZH (λi σ H'=>∃ (v1 v2 v3 v4 v5:Option V),σ=[some (.ref a),v1,v2,v3,v4,v5]/\Same H H') ⟨_,_,_,_,_,rfl,Same.refl _⟩ ?_ ?_
 · rintro i σ H3 hi ⟨v1,v2,v3,v4,v5,rfl,s3⟩
   have hat:=cQJ (by omega) hi
   have hS3:=s3.seq hS
   walk_at "go"
   refine ⟨a,ns,_,rfl,hS3,by omega,by omega,λr l b kvs f us hs n cw H4 s4 e4 eb hin hkl hf1 hfo=>?_⟩
   have r4:=aM e4
   walk_at "go"
   refine ⟨l,b,kvs,f,us,hs,n,cw,rfl,hin,hfo,λH5 s5=>?_⟩
   walk_at "go"
   exact ⟨_,_,_,_,_,rfl,s3.trans (s4.trans s5)⟩
 · rintro σ H3 ⟨v1,v2,v3,v4,v5,rfl,s3⟩
   walk_at "go"
   exact q _
end
local macro_rules | `(tactic| walk_at "bd") => `(tactic| (intro a1 a2 a3 a4 a5 a6 us hl; iterate 7 (all_goals try (rcases us with _ | ⟨u,us⟩; (· first | rfl | (simp at hl)))); all_goals (simp at hl)))
theorem all_mk {l:PySem.W.OpenLaw} {w:World} {K:PySem.W.Frag} {h:Heap} {mg:Str->Option Value} {fa:Addr} {od_0 an_0 od_1 an_1 od_2 an_2 od_3 an_3 od_4 an_4 od_5 an_5 od_6 an_6 od_7 an_7 od_8 an_8 od_9 an_9 od_10 an_10 od_11 an_11 od_12 an_12 od_13 an_13 od_14 an_14 od_15 an_15 od_16 an_16 od_17 an_17 od_18 an_18 od_19 an_19 od_20 an_20 od_21 an_21 od_22 an_22 od_23 an_23 od_24 an_24 od_25 an_25 od_26 an_26 od_27 an_27 od_28 an_28 od_29 an_29 od_30 an_30 od_31 an_31 od_32 an_32 od_33 an_33 od_34 an_34 od_35 an_35 od_36 an_36 od_37 an_37 od_38 an_38 od_39 an_39 od_40 an_40:Option Addr} {sl_0 sl_1 sl_2 sl_3 sl_4 sl_5 sl_6 sl_7 sl_8 sl_9 sl_10 sl_11 sl_12 sl_13 sl_14 sl_15 sl_16 sl_17 sl_18 sl_19 sl_20 sl_21 sl_22 sl_23 sl_24 sl_25 sl_26 sl_27 sl_28 sl_29 sl_30 sl_31 sl_32 sl_33 sl_34 sl_35 sl_36 sl_37 sl_38 sl_39 sl_40:Array (Option Value)} {f_0 f_1 f_2 f_3 f_4 f_5 f_6 f_7 f_8 f_9 f_10 f_11 f_12 f_13 f_14 f_15 f_16 f_17 f_18 f_19 f_20 f_21 f_22 f_23 f_24 f_25 f_26 f_27 f_28 f_29 f_30 f_31 f_32 f_33 f_34 f_35 f_36 f_37 f_38 f_39 f_40:Addr} {oc_0 kV_0 dc_0 pm_0 cd_0 ct_0 oc_1 kV_1 dc_1 pm_1 cd_1 ct_1 oc_2 kV_2 dc_2 pm_2 cd_2 ct_2 oc_3 kV_3 dc_3 pm_3 cd_3 ct_3 oc_4 kV_4 dc_4 pm_4 cd_4 ct_4 oc_5 kV_5 dc_5 pm_5 cd_5 ct_5 oc_6 kV_6 dc_6 pm_6 cd_6 ct_6 oc_7 kV_7 dc_7 pm_7 cd_7 ct_7 oc_8 kV_8 dc_8 pm_8 cd_8 ct_8 oc_9 kV_9 dc_9 pm_9 cd_9 ct_9 oc_10 kV_10 dc_10 pm_10 cd_10 ct_10 oc_11 kV_11 dc_11 pm_11 cd_11 ct_11 oc_12 kV_12 dc_12 pm_12 cd_12 ct_12 oc_13 kV_13 dc_13 pm_13 cd_13 ct_13 oc_14 kV_14 dc_14 pm_14 cd_14 ct_14 oc_15 kV_15 dc_15 pm_15 cd_15 ct_15 oc_16 kV_16 dc_16 pm_16 cd_16 ct_16 oc_17 kV_17 dc_17 pm_17 cd_17 ct_17 oc_18 kV_18 dc_18 pm_18 cd_18 ct_18 oc_19 kV_19 dc_19 pm_19 cd_19 ct_19 oc_20 kV_20 dc_20 pm_20 cd_20 ct_20 oc_21 kV_21 dc_21 pm_21 cd_21 ct_21 oc_22 kV_22 dc_22 pm_22 cd_22 ct_22 oc_23 kV_23 dc_23 pm_23 cd_23 ct_23 oc_24 kV_24 dc_24 pm_24 cd_24 ct_24 oc_25 kV_25 dc_25 pm_25 cd_25 ct_25 oc_26 kV_26 dc_26 pm_26 cd_26 ct_26 oc_27 kV_27 dc_27 pm_27 cd_27 ct_27 oc_28 kV_28 dc_28 pm_28 cd_28 ct_28 oc_29 kV_29 dc_29 pm_29 cd_29 ct_29 oc_30 kV_30 dc_30 pm_30 cd_30 ct_30 oc_31 kV_31 dc_31 pm_31 cd_31 ct_31 oc_32 kV_32 dc_32 pm_32 cd_32 ct_32 oc_33 kV_33 dc_33 pm_33 cd_33 ct_33 oc_34 kV_34 dc_34 pm_34 cd_34 ct_34 oc_35 kV_35 dc_35 pm_35 cd_35 ct_35 oc_36 kV_36 dc_36 pm_36 cd_36 ct_36 oc_37 kV_37 dc_37 pm_37 cd_37 ct_37 oc_38 kV_38 dc_38 pm_38 cd_38 ct_38 oc_39 kV_39 dc_39 pm_39 cd_39 ct_39 oc_40 kV_40 dc_40 pm_40 cd_40 ct_40:Value} {t_FLAGS:Tok} {t_SUBSTITUTES:Tok} {t_MOST_PLACES:Tok} {Zw:Addr} {Zz:Addr} {Zx:Addr} {Zy:Addr} (X:K.In h) (Gn:h.Ns mainGlobals mg) (hfa:mg "law"=some (.ref fa))
   (a_0:PySem.W.nsIn K mainGlobals "_law_cell"=some (some (.ref f_0))) (l_0:K.lookup f_0=some ⟨oc_0,od_0,.func (PySem.W.fnOf "_law_cell" "_law_cell" (aR iG) (aQ iG) (aG iG) .none kV_0 dc_0 pm_0 an_0 cd_0 ct_0),sl_0⟩) (c_0:PySem.W.codeIn K cd_0 "_law_cell"=true) (k_0:PySem.W.keepIn K (.ref f_0)=true)
   (a_1:PySem.W.nsIn K mainGlobals "_law_stream"=some (some (.ref f_1))) (l_1:K.lookup f_1=some ⟨oc_1,od_1,.func (PySem.W.fnOf "_law_stream" "_law_stream" (aR fK) (aQ fK) (aG fK) .none kV_1 dc_1 pm_1 an_1 cd_1 ct_1),sl_1⟩) (c_1:PySem.W.codeIn K cd_1 "_law_stream"=true) (k_1:PySem.W.keepIn K (.ref f_1)=true)
   (a_2:PySem.W.nsIn K mainGlobals "_law_choices"=some (some (.ref f_2))) (l_2:K.lookup f_2=some ⟨oc_2,od_2,.func (PySem.W.fnOf "_law_choices" "_law_choices" (aR eP) (aQ eP) (aG eP) .none kV_2 dc_2 pm_2 an_2 cd_2 ct_2),sl_2⟩) (c_2:PySem.W.codeIn K cd_2 "_law_choices"=true) (k_2:PySem.W.keepIn K (.ref f_2)=true)
   (a_3:PySem.W.nsIn K mainGlobals "_law_hoist"=some (some (.ref f_3))) (l_3:K.lookup f_3=some ⟨oc_3,od_3,.func (PySem.W.fnOf "_law_hoist" "_law_hoist" (aR gG) (aQ gG) (aG gG) .none kV_3 dc_3 pm_3 an_3 cd_3 ct_3),sl_3⟩) (c_3:PySem.W.codeIn K cd_3 "_law_hoist"=true) (k_3:PySem.W.keepIn K (.ref f_3)=true)
   (a_4:PySem.W.nsIn K mainGlobals "_law_word"=some (some (.ref f_4))) (l_4:K.lookup f_4=some ⟨oc_4,od_4,.func (PySem.W.fnOf "_law_word" "_law_word" (aR iM) (aQ iM) (aG iM) .none kV_4 dc_4 pm_4 an_4 cd_4 ct_4),sl_4⟩) (c_4:PySem.W.codeIn K cd_4 "_law_word"=true) (k_4:PySem.W.keepIn K (.ref f_4)=true)
   (a_5:PySem.W.nsIn K mainGlobals "_law_halyards"=some (some (.ref f_5))) (l_5:K.lookup f_5=some ⟨oc_5,od_5,.func (PySem.W.fnOf "_law_halyards" "_law_halyards" (aR dL) (aQ dL) (aG dL) .none kV_5 dc_5 pm_5 an_5 cd_5 ct_5),sl_5⟩) (c_5:PySem.W.codeIn K cd_5 "_law_halyards"=true) (k_5:PySem.W.keepIn K (.ref f_5)=true)
   (a_6:PySem.W.nsIn K mainGlobals "_law_locker"=some (some (.ref f_6))) (l_6:K.lookup f_6=some ⟨oc_6,od_6,.func (PySem.W.fnOf "_law_locker" "_law_locker" (aR fJ) (aQ fJ) (aG fJ) .none kV_6 dc_6 pm_6 an_6 cd_6 ct_6),sl_6⟩) (c_6:PySem.W.codeIn K cd_6 "_law_locker"=true) (k_6:PySem.W.keepIn K (.ref f_6)=true)
   (a_7:PySem.W.nsIn K mainGlobals "_law_drawn"=some (some (.ref f_7))) (l_7:K.lookup f_7=some ⟨oc_7,od_7,.func (PySem.W.fnOf "_law_drawn" "_law_drawn" (aR fD) (aQ fD) (aG fD) .none kV_7 dc_7 pm_7 an_7 cd_7 ct_7),sl_7⟩) (c_7:PySem.W.codeIn K cd_7 "_law_drawn"=true) (k_7:PySem.W.keepIn K (.ref f_7)=true)
   (a_8:PySem.W.nsIn K mainGlobals "plain_locker"=some (some (.ref f_8))) (l_8:K.lookup f_8=some ⟨oc_8,od_8,.func (PySem.W.fnOf "plain_locker" "plain_locker" (aR cQ) (aQ cQ) (aG cQ) .none kV_8 dc_8 pm_8 an_8 cd_8 ct_8),sl_8⟩) (c_8:PySem.W.codeIn K cd_8 "plain_locker"=true) (k_8:PySem.W.keepIn K (.ref f_8)=true)
   (a_9:PySem.W.nsIn K mainGlobals "put_in"=some (some (.ref f_9))) (l_9:K.lookup f_9=some ⟨oc_9,od_9,.func (PySem.W.fnOf "put_in" "put_in" (aR iN) (aQ iN) (aG iN) .none kV_9 dc_9 pm_9 an_9 cd_9 ct_9),sl_9⟩) (c_9:PySem.W.codeIn K cd_9 "put_in"=true) (k_9:PySem.W.keepIn K (.ref f_9)=true)
   (a_10:PySem.W.nsIn K mainGlobals "rising_lists"=some (some (.ref f_10))) (l_10:K.lookup f_10=some ⟨oc_10,od_10,.func (PySem.W.fnOf "rising_lists" "rising_lists" (aR cI) (aQ cI) (aG cI) .none kV_10 dc_10 pm_10 an_10 cd_10 ct_10),sl_10⟩) (c_10:PySem.W.codeIn K cd_10 "rising_lists"=true) (k_10:PySem.W.keepIn K (.ref f_10)=true)
   (a_11:PySem.W.nsIn K mainGlobals "sets_of"=some (some (.ref f_11))) (l_11:K.lookup f_11=some ⟨oc_11,od_11,.func (PySem.W.fnOf "sets_of" "sets_of" (aR gJ) (aQ gJ) (aG gJ) .none kV_11 dc_11 pm_11 an_11 cd_11 ct_11),sl_11⟩) (c_11:PySem.W.codeIn K cd_11 "sets_of"=true) (k_11:PySem.W.keepIn K (.ref f_11)=true)
   (y_12:PySem.W.typeIn K (.ref f_12)=some (.type "function"))
   (a_12:PySem.W.findIn K (.ref Zw) "__init__"=some (some (.ref f_12))) (l_12:K.lookup f_12=some ⟨oc_12,od_12,.func (PySem.W.fnOf "__init__" "Lack.__init__" (aR eT) (aQ eT) (aG eT) .none kV_12 dc_12 pm_12 an_12 cd_12 ct_12),sl_12⟩) (c_12:PySem.W.codeIn K cd_12 "Lack.__init__"=true) (k_12:PySem.W.keepIn K (.ref f_12)=true)
   (a_13:PySem.W.nsIn K mainGlobals "others_hung"=some (some (.ref f_13))) (l_13:K.lookup f_13=some ⟨oc_13,od_13,.func (PySem.W.fnOf "others_hung" "others_hung" (aR cN) (aQ cN) (aG cN) .none kV_13 dc_13 pm_13 an_13 cd_13 ct_13),sl_13⟩) (c_13:PySem.W.codeIn K cd_13 "others_hung"=true) (k_13:PySem.W.keepIn K (.ref f_13)=true)
   (a_14:PySem.W.nsIn K mainGlobals "wants_of"=some (some (.ref f_14))) (l_14:K.lookup f_14=some ⟨oc_14,od_14,.func (PySem.W.fnOf "wants_of" "wants_of" (aR eI) (aQ eI) (aG eI) .none kV_14 dc_14 pm_14 an_14 cd_14 ct_14),sl_14⟩) (c_14:PySem.W.codeIn K cd_14 "wants_of"=true) (k_14:PySem.W.keepIn K (.ref f_14)=true)
   (a_15:PySem.W.nsIn K mainGlobals "choices_at"=some (some (.ref f_15))) (l_15:K.lookup f_15=some ⟨oc_15,od_15,.func (PySem.W.fnOf "choices_at" "choices_at" (aR cU) (aQ cU) (aG cU) .none kV_15 dc_15 pm_15 an_15 cd_15 ct_15),sl_15⟩) (c_15:PySem.W.codeIn K cd_15 "choices_at"=true) (k_15:PySem.W.keepIn K (.ref f_15)=true)
   (a_16:PySem.W.nsIn K mainGlobals "choices_of"=some (some (.ref f_16))) (l_16:K.lookup f_16=some ⟨oc_16,od_16,.func (PySem.W.fnOf "choices_of" "choices_of" (aR dI) (aQ dI) (aG dI) .none kV_16 dc_16 pm_16 an_16 cd_16 ct_16),sl_16⟩) (c_16:PySem.W.codeIn K cd_16 "choices_of"=true) (k_16:PySem.W.keepIn K (.ref f_16)=true)
   (a_17:PySem.W.nsIn K mainGlobals "hoists_of"=some (some (.ref f_17))) (l_17:K.lookup f_17=some ⟨oc_17,od_17,.func (PySem.W.fnOf "hoists_of" "hoists_of" (aR eM) (aQ eM) (aG eM) .none kV_17 dc_17 pm_17 an_17 cd_17 ct_17),sl_17⟩) (c_17:PySem.W.codeIn K cd_17 "hoists_of"=true) (k_17:PySem.W.keepIn K (.ref f_17)=true)
   (a_18:PySem.W.nsIn K mainGlobals "asked_from"=some (some (.ref f_18))) (l_18:K.lookup f_18=some ⟨oc_18,od_18,.func (PySem.W.fnOf "asked_from" "asked_from" (aR cS) (aQ cS) (aG cS) .none kV_18 dc_18 pm_18 an_18 cd_18 ct_18),sl_18⟩) (c_18:PySem.W.codeIn K cd_18 "asked_from"=true) (k_18:PySem.W.keepIn K (.ref f_18)=true)
   (a_19:PySem.W.nsIn K mainGlobals "hang_along"=some (some (.ref f_19))) (l_19:K.lookup f_19=some ⟨oc_19,od_19,.func (PySem.W.fnOf "hang_along" "hang_along" (aR dO) (aQ dO) (aG dO) .none kV_19 dc_19 pm_19 an_19 cd_19 ct_19),sl_19⟩) (c_19:PySem.W.codeIn K cd_19 "hang_along"=true) (k_19:PySem.W.keepIn K (.ref f_19)=true)
   (a_20:PySem.W.nsIn K mainGlobals "hang_all"=some (some (.ref f_20))) (l_20:K.lookup f_20=some ⟨oc_20,od_20,.func (PySem.W.fnOf "hang_all" "hang_all" (aR cO) (aQ cO) (aG cO) .none kV_20 dc_20 pm_20 an_20 cd_20 ct_20),sl_20⟩) (c_20:PySem.W.codeIn K cd_20 "hang_all"=true) (k_20:PySem.W.keepIn K (.ref f_20)=true)
   (a_21:PySem.W.nsIn K mainGlobals "lack_of"=some (some (.ref f_21))) (l_21:K.lookup f_21=some ⟨oc_21,od_21,.func (PySem.W.fnOf "lack_of" "lack_of" (aR gK) (aQ gK) (aG gK) .none kV_21 dc_21 pm_21 an_21 cd_21 ct_21),sl_21⟩) (c_21:PySem.W.codeIn K cd_21 "lack_of"=true) (k_21:PySem.W.keepIn K (.ref f_21)=true)
   (a_22:PySem.W.nsIn K mainGlobals "flags_on"=some (some (.ref f_22))) (l_22:K.lookup f_22=some ⟨oc_22,od_22,.func (PySem.W.fnOf "flags_on" "flags_on" (aR fI) (aQ fI) (aG fI) .none kV_22 dc_22 pm_22 an_22 cd_22 ct_22),sl_22⟩) (c_22:PySem.W.codeIn K cd_22 "flags_on"=true) (k_22:PySem.W.keepIn K (.ref f_22)=true)
   (a_23:PySem.W.nsIn K mainGlobals "is_flag"=some (some (.ref f_23))) (l_23:K.lookup f_23=some ⟨oc_23,od_23,.func (PySem.W.fnOf "is_flag" "is_flag" (aR gH) (aQ gH) (aG gH) .none kV_23 dc_23 pm_23 an_23 cd_23 ct_23),sl_23⟩) (c_23:PySem.W.codeIn K cd_23 "is_flag"=true) (k_23:PySem.W.keepIn K (.ref f_23)=true)
   (a_24:PySem.W.nsIn K mainGlobals "may_stand"=some (some (.ref f_24))) (l_24:K.lookup f_24=some ⟨oc_24,od_24,.func (PySem.W.fnOf "may_stand" "may_stand" (aR eK) (aQ eK) (aG eK) .none kV_24 dc_24 pm_24 an_24 cd_24 ct_24),sl_24⟩) (c_24:PySem.W.codeIn K cd_24 "may_stand"=true) (k_24:PySem.W.keepIn K (.ref f_24)=true)
   (a_25:PySem.W.nsIn K mainGlobals "is_hoist"=some (some (.ref f_25))) (l_25:K.lookup f_25=some ⟨oc_25,od_25,.func (PySem.W.fnOf "is_hoist" "is_hoist" (aR fH) (aQ fH) (aG fH) .none kV_25 dc_25 pm_25 an_25 cd_25 ct_25),sl_25⟩) (c_25:PySem.W.codeIn K cd_25 "is_hoist"=true) (k_25:PySem.W.keepIn K (.ref f_25)=true)
   (a_26:PySem.W.nsIn K mainGlobals "read_of"=some (some (.ref f_26))) (l_26:K.lookup f_26=some ⟨oc_26,od_26,.func (PySem.W.fnOf "read_of" "read_of" (aR gB) (aQ gB) (aG gB) .none kV_26 dc_26 pm_26 an_26 cd_26 ct_26),sl_26⟩) (c_26:PySem.W.codeIn K cd_26 "read_of"=true) (k_26:PySem.W.keepIn K (.ref f_26)=true)
   (a_27:PySem.W.nsIn K mainGlobals "words_with"=some (some (.ref f_27))) (l_27:K.lookup f_27=some ⟨oc_27,od_27,.func (PySem.W.fnOf "words_with" "words_with" (aR cW) (aQ cW) (aG cW) .none kV_27 dc_27 pm_27 an_27 cd_27 ct_27),sl_27⟩) (c_27:PySem.W.codeIn K cd_27 "words_with"=true) (k_27:PySem.W.keepIn K (.ref f_27)=true)
   (a_28:PySem.W.nsIn K mainGlobals "least_set"=some (some (.ref f_28))) (l_28:K.lookup f_28=some ⟨oc_28,od_28,.func (PySem.W.fnOf "least_set" "least_set" (aR eO) (aQ eO) (aG eO) .none kV_28 dc_28 pm_28 an_28 cd_28 ct_28),sl_28⟩) (c_28:PySem.W.codeIn K cd_28 "least_set"=true) (k_28:PySem.W.keepIn K (.ref f_28)=true)
   (y_29:PySem.W.typeIn K (.ref f_29)=some (.type "function"))
   (a_29:PySem.W.findIn K (.ref Zx) "__init__"=some (some (.ref f_29))) (l_29:K.lookup f_29=some ⟨oc_29,od_29,.func (PySem.W.fnOf "__init__" "Short.__init__" (aR dN) (aQ dN) (aG dN) .none kV_29 dc_29 pm_29 an_29 cd_29 ct_29),sl_29⟩) (c_29:PySem.W.codeIn K cd_29 "Short.__init__"=true) (k_29:PySem.W.keepIn K (.ref f_29)=true)
   (a_30:PySem.W.nsIn K mainGlobals "taken"=some (some (.ref f_30))) (l_30:K.lookup f_30=some ⟨oc_30,od_30,.func (PySem.W.fnOf "taken" "taken" (aR kE) (aQ kE) (aG kE) .none kV_30 dc_30 pm_30 an_30 cd_30 ct_30),sl_30⟩) (c_30:PySem.W.codeIn K cd_30 "taken"=true) (k_30:PySem.W.keepIn K (.ref f_30)=true)
   (a_31:PySem.W.nsIn K mainGlobals "hauled"=some (some (.ref f_31))) (l_31:K.lookup f_31=some ⟨oc_31,od_31,.func (PySem.W.fnOf "hauled" "hauled" (aR iA) (aQ iA) (aG iA) .none kV_31 dc_31 pm_31 an_31 cd_31 ct_31),sl_31⟩) (c_31:PySem.W.codeIn K cd_31 "hauled"=true) (k_31:PySem.W.keepIn K (.ref f_31)=true)
   (a_32:PySem.W.nsIn K mainGlobals "_law_told"=some (some (.ref f_32))) (l_32:K.lookup f_32=some ⟨oc_32,od_32,.func (PySem.W.fnOf "_law_told" "_law_told" (aR iD) (aQ iD) (aG iD) .none kV_32 dc_32 pm_32 an_32 cd_32 ct_32),sl_32⟩) (c_32:PySem.W.codeIn K cd_32 "_law_told"=true) (k_32:PySem.W.keepIn K (.ref f_32)=true)
   (a_33:PySem.W.nsIn K mainGlobals "_law_others"=some (some (.ref f_33))) (l_33:K.lookup f_33=some ⟨oc_33,od_33,.func (PySem.W.fnOf "_law_others" "_law_others" (aR dZ) (aQ dZ) (aG dZ) .none kV_33 dc_33 pm_33 an_33 cd_33 ct_33),sl_33⟩) (c_33:PySem.W.codeIn K cd_33 "_law_others"=true) (k_33:PySem.W.keepIn K (.ref f_33)=true)
   (a_34:PySem.W.nsIn K mainGlobals "_law_plain"=some (some (.ref f_34))) (l_34:K.lookup f_34=some ⟨oc_34,od_34,.func (PySem.W.fnOf "_law_plain" "_law_plain" (aR gF) (aQ gF) (aG gF) .none kV_34 dc_34 pm_34 an_34 cd_34 ct_34),sl_34⟩) (c_34:PySem.W.codeIn K cd_34 "_law_plain"=true) (k_34:PySem.W.keepIn K (.ref f_34)=true)
   (a_35:PySem.W.nsIn K mainGlobals "_law_is_hoist_of"=some (some (.ref f_35))) (l_35:K.lookup f_35=some ⟨oc_35,od_35,.func (PySem.W.fnOf "_law_is_hoist_of" "_law_is_hoist_of" (aR cL) (aQ cL) (aG cL) .none kV_35 dc_35 pm_35 an_35 cd_35 ct_35),sl_35⟩) (c_35:PySem.W.codeIn K cd_35 "_law_is_hoist_of"=true) (k_35:PySem.W.keepIn K (.ref f_35)=true)
   (a_36:PySem.W.nsIn K mainGlobals "_law_pool"=some (some (.ref f_36))) (l_36:K.lookup f_36=some ⟨oc_36,od_36,.func (PySem.W.fnOf "_law_pool" "_law_pool" (aR iI) (aQ iI) (aG iI) .none kV_36 dc_36 pm_36 an_36 cd_36 ct_36),sl_36⟩) (c_36:PySem.W.codeIn K cd_36 "_law_pool"=true) (k_36:PySem.W.keepIn K (.ref f_36)=true)
   (a_37:PySem.W.nsIn K mainGlobals "_law_read"=some (some (.ref f_37))) (l_37:K.lookup f_37=some ⟨oc_37,od_37,.func (PySem.W.fnOf "_law_read" "_law_read" (aR iF) (aQ iF) (aG iF) .none kV_37 dc_37 pm_37 an_37 cd_37 ct_37),sl_37⟩) (c_37:PySem.W.codeIn K cd_37 "_law_read"=true) (k_37:PySem.W.keepIn K (.ref f_37)=true)
   (a_38:PySem.W.nsIn K mainGlobals "_law_right"=some (some (.ref f_38))) (l_38:K.lookup f_38=some ⟨oc_38,od_38,.func (PySem.W.fnOf "_law_right" "_law_right" (aR fF) (aQ fF) (aG fF) .none kV_38 dc_38 pm_38 an_38 cd_38 ct_38),sl_38⟩) (c_38:PySem.W.codeIn K cd_38 "_law_right"=true) (k_38:PySem.W.keepIn K (.ref f_38)=true)
   (a_39:PySem.W.nsIn K mainGlobals "_law_good"=some (some (.ref f_39))) (l_39:K.lookup f_39=some ⟨oc_39,od_39,.func (PySem.W.fnOf "_law_good" "_law_good" (aR iC) (aQ iC) (aG iC) .none kV_39 dc_39 pm_39 an_39 cd_39 ct_39),sl_39⟩) (c_39:PySem.W.codeIn K cd_39 "_law_good"=true) (k_39:PySem.W.keepIn K (.ref f_39)=true)
   (a_40:PySem.W.nsIn K mainGlobals "law"=some (some (.ref f_40))) (l_40:K.lookup f_40=some ⟨oc_40,od_40,.func (PySem.W.fnOf "law" "law" (aR lQ) (aQ lQ) (aG lQ) .none kV_40 dc_40 pm_40 an_40 cd_40 ct_40),sl_40⟩) (c_40:PySem.W.codeIn K cd_40 "law"=true) (k_40:PySem.W.keepIn K (.ref f_40)=true)
   (z_len:PySem.W.nsIn K mainGlobals "len"=some none)
   (z_range:PySem.W.nsIn K mainGlobals "range"=some none)
   (z_min:PySem.W.nsIn K mainGlobals "min"=some none)
   (z_list:PySem.W.nsIn K mainGlobals "list"=some none)
   (z_max:PySem.W.nsIn K mainGlobals "max"=some none)
   (z_enumerate:PySem.W.nsIn K mainGlobals "enumerate"=some none)
   (z_int:PySem.W.nsIn K mainGlobals "int"=some none)
   (z_all:PySem.W.nsIn K mainGlobals "all"=some none)
   (z_zip:PySem.W.nsIn K mainGlobals "zip"=some none)
   (z_isinstance:PySem.W.nsIn K mainGlobals "isinstance"=some none)
   (z_dict:PySem.W.nsIn K mainGlobals "dict"=some none)
   (z_tuple:PySem.W.nsIn K mainGlobals "tuple"=some none)
   (z_bool:PySem.W.nsIn K mainGlobals "bool"=some none)
   (g_FLAGS:PySem.W.nsIn K mainGlobals "FLAGS"=some (some (.str "abcdefghijklmnopqrstuvw1234" t_FLAGS)))
   (g_SUBSTITUTES:PySem.W.nsIn K mainGlobals "SUBSTITUTES"=some (some (.str "1234" t_SUBSTITUTES)))
   (g_MOST_PLACES:PySem.W.nsIn K mainGlobals "MOST_PLACES"=some (some (.int 7 t_MOST_PLACES)))
   (q_Lack:PySem.W.nsIn K mainGlobals "Lack"=some (some (.ref Zw)))
   (q_TowerError:PySem.W.nsIn K mainGlobals "TowerError"=some (some (.ref Zz)))
   (q_Short:PySem.W.nsIn K mainGlobals "Short"=some (some (.ref Zx)))
   (q_NoHoist:PySem.W.nsIn K mainGlobals "NoHoist"=some (some (.ref Zy)))
   (f_m_Lack:PySem.W.exmOne K (.ref Zw) (.ref Zw)=some true)
   (f_x_NoHoist:PySem.W.excIn K Zy [.type "ValueError",.type "Exception",.type "BaseException",.type "object"] "ValueError.__new__"=true)
   (f_m_Short:PySem.W.exmOne K (.ref Zx) (.ref Zx)=some true)
   (f_t1_TowerError:PySem.W.specialIn K (.ref Zz) "__getattribute__"=some (some (.builtin "type.__getattribute__")))
   (f_t2_TowerError:PySem.W.readsIn K Zz (.type "type")=true)
   (f_t3_TowerError:PySem.W.findCls K (.ref Zz) (.type "type") "__init__"=some (.val (.builtin "ValueError.__init__")))
   (f_xo_Lack:uY K Zw [.type "ValueError",.type "Exception",.type "BaseException",.type "object"] "ValueError.__new__"=true)
   (f_xk_Lack:PySem.W.keepIn K (.ref Zw)=true)
   (f_xe1_Lack:PySem.W.hasDictIn K Zw=true)
   (f_xe2_Lack:PySem.W.findIn K (.ref Zw) "__getattribute__"=some (some (.builtin "BaseException.__getattribute__")))
   (f_xe3_Lack:PySem.W.findIn K (.ref Zw) "__getattr__"=some none)
   (f_xe4_Lack:PySem.W.findIn K (.ref Zw) "__class__"=some (some (.builtin "object.__class__")))
   (f_xe5_Lack:PySem.W.specialIn K (.builtin "object.__class__") "__get__"=some (some (.builtin "getset_descriptor.__get__")))
   (f_xe6_Lack:PySem.W.takesIn K (.builtin "object.__class__")=some true)
   (f_xe7_Lack:PySem.W.mroIn K Zw (.type "object")=some true)
   (f_xe8_Lack:PySem.W.subIn K (.ref Zw) (.type "BaseException")=some true)
   (f_xs_Lack:PySem.W.findIn K (.ref Zw) "__setattr__"=some (some (.builtin "object.__setattr__")))
   (f_xr_Lack:bQW K Zw Zz=true)
   (f_xv_Lack:PySem.W.subIn K (.ref Zw) (.type "ValueError")=some true)
   (f_xn_Lack_wants:PySem.W.findIn K (.ref Zw) "wants"=some none)
   (f_xn_Lack_flags:PySem.W.findIn K (.ref Zw) "flags"=some none)
   (f_xo_Short:uY K Zx [.type "ValueError",.type "Exception",.type "BaseException",.type "object"] "ValueError.__new__"=true)
   (f_xk_Short:PySem.W.keepIn K (.ref Zx)=true)
   (f_xe1_Short:PySem.W.hasDictIn K Zx=true)
   (f_xe2_Short:PySem.W.findIn K (.ref Zx) "__getattribute__"=some (some (.builtin "BaseException.__getattribute__")))
   (f_xe3_Short:PySem.W.findIn K (.ref Zx) "__getattr__"=some none)
   (f_xe4_Short:PySem.W.findIn K (.ref Zx) "__class__"=some (some (.builtin "object.__class__")))
   (f_xe5_Short:PySem.W.specialIn K (.builtin "object.__class__") "__get__"=some (some (.builtin "getset_descriptor.__get__")))
   (f_xe6_Short:PySem.W.takesIn K (.builtin "object.__class__")=some true)
   (f_xe7_Short:PySem.W.mroIn K Zx (.type "object")=some true)
   (f_xe8_Short:PySem.W.subIn K (.ref Zx) (.type "BaseException")=some true)
   (f_xs_Short:PySem.W.findIn K (.ref Zx) "__setattr__"=some (some (.builtin "object.__setattr__")))
   (f_xr_Short:bQW K Zx Zz=true)
   (f_xv_Short:PySem.W.subIn K (.ref Zx) (.type "ValueError")=some true)
   (f_xn_Short_flag:PySem.W.findIn K (.ref Zx) "flag"=some none)
   : ∃ fd:FuncData,(∀ (s:Shared) (v:Value),BindsTo s fd ⟨[v],[]⟩ [("_law_script",v)])/\∀ base:Heap,K.In base->base.Ns mainGlobals mg->FnOk l.prog w K mg base CX0 15 fa fd ["_law_script"] (uN K):=by
 have M:∀ {x:Str} {v:Value},PySem.W.nsIn K mainGlobals x=some (some v)->mg x=some v:=λh=>PySem.W.mg_of X Gn h
 have N:∀ {x:Str},PySem.W.nsIn K mainGlobals x=some none->mg x=none:=λh=>PySem.W.mg_none_of X Gn h
 have e:=hfa.symm.trans (M a_40)
 cases e
 have G:Gs K mg Zw Zz Zx Zy:=⟨M q_Lack,M q_TowerError,M q_Short,M q_NoHoist,f_m_Lack,f_x_NoHoist,f_m_Short,f_t1_TowerError,f_t2_TowerError,f_t3_TowerError,f_xo_Lack,f_xk_Lack,f_xe1_Lack,f_xe2_Lack,f_xe3_Lack,f_xe4_Lack,f_xe5_Lack,f_xe6_Lack,f_xe7_Lack,f_xe8_Lack,f_xs_Lack,f_xr_Lack,f_xv_Lack,f_xn_Lack_wants,f_xn_Lack_flags,f_xo_Short,f_xk_Short,f_xe1_Short,f_xe2_Short,f_xe3_Short,f_xe4_Short,f_xe5_Short,f_xe6_Short,f_xe7_Short,f_xe8_Short,f_xs_Short,f_xr_Short,f_xv_Short,f_xn_Short_flag,N z_len,N z_range,N z_min,N z_list,N z_max,N z_enumerate,N z_int,N z_all,N z_zip,N z_isinstance,N z_dict,N z_tuple,N z_bool,⟨_,M g_FLAGS⟩,⟨_,M g_SUBSTITUTES⟩,⟨_,M g_MOST_PLACES⟩⟩
 have F_0:=bG (st:=iG) l_0 c_0 k_0
 have b_0:=F_0.binds (ps:=["_law_script", "_law_k"]) (by walk_at "bd")
 have F_1:=bG (st:=fK) l_1 c_1 k_1
 have b_1:=F_1.binds (ps:=["_law_cell_here", "_law_many"]) (by walk_at "bd")
 have F_2:=bG (st:=eP) l_2 c_2 k_2
 have b_2:=F_2.binds (ps:=["_law_word_here", "_law_place"]) (by walk_at "bd")
 have F_3:=bG (st:=gG) l_3 c_3 k_3
 have b_3:=F_3.binds (ps:=["_law_word_here", "_law_cell_here"]) (by walk_at "bd")
 have F_4:=bG (st:=iM) l_4 c_4 k_4
 have b_4:=F_4.binds (ps:=["_law_cell_here", "_law_spread", "_law_longest"]) (by walk_at "bd")
 have F_5:=bG (st:=dL) l_5 c_5 k_5
 have b_5:=F_5.binds (ps:=["_law_cells", "_law_spread"]) (by walk_at "bd")
 have F_6:=bG (st:=fJ) l_6 c_6 k_6
 have b_6:=F_6.binds (ps:=["_law_cell_here", "_law_words_here"]) (by walk_at "bd")
 have F_7:=bG (st:=fD) l_7 c_7 k_7
 have b_7:=F_7.binds (ps:=["_law_script", "_law_start"]) (by walk_at "bd")
 have F_8:=bG (st:=cQ) l_8 c_8 k_8
 have b_8:=F_8.binds (ps:=["locker"]) (by walk_at "bd")
 have F_9:=bG (st:=iN) l_9 c_9 k_9
 have b_9:=F_9.binds (ps:=["locker", "flags"]) (by walk_at "bd")
 have F_10:=bG (st:=cI) l_10 c_10 k_10
 have b_10:=F_10.binds (ps:=["numbers", "many"]) (by walk_at "bd")
 have F_11:=bG (st:=gJ) l_11 c_11 k_11
 have b_11:=F_11.binds (ps:=["others"]) (by walk_at "bd")
 have F_12:=bG (st:=eT) l_12 c_12 k_12
 have b_12:=F_12.binds (ps:=["self", "wants", "flags"]) (by walk_at "bd")
 have F_13:=bG (st:=cN) l_13 c_13 k_13
 have b_13:=F_13.binds (ps:=["halyards", "number"]) (by walk_at "bd")
 have F_14:=bG (st:=eI) l_14 c_14 k_14
 have b_14:=F_14.binds (ps:=["words"]) (by walk_at "bd")
 have F_15:=bG (st:=cU) l_15 c_15 k_15
 have b_15:=F_15.binds (ps:=["word", "place"]) (by walk_at "bd")
 have F_16:=bG (st:=dI) l_16 c_16 k_16
 have b_16:=F_16.binds (ps:=["words"]) (by walk_at "bd")
 have F_17:=bG (st:=eM) l_17 c_17 k_17
 have b_17:=F_17.binds (ps:=["words", "flags"]) (by walk_at "bd")
 have F_18:=bG (st:=cS) l_18 c_18 k_18
 have b_18:=F_18.binds (ps:=["first", "choices", "hung"]) (by walk_at "bd")
 have F_19:=bG (st:=dO) l_19 c_19 k_19
 have b_19:=F_19.binds (ps:=["flag", "asked", "hung"]) (by walk_at "bd")
 have F_20:=bG (st:=cO) l_20 c_20 k_20
 have b_20:=F_20.binds (ps:=["locker", "words"]) (by walk_at "bd")
 have F_21:=bG (st:=gK) l_21 c_21 k_21
 have b_21:=F_21.binds (ps:=["locker", "words"]) (by walk_at "bd")
 have F_22:=bG (st:=fI) l_22 c_22 k_22
 have b_22:=F_22.binds (ps:=["halyards", "numbers"]) (by walk_at "bd")
 have F_23:=bG (st:=gH) l_23 c_23 k_23
 have b_23:=F_23.binds (ps:=["text"]) (by walk_at "bd")
 have F_24:=bG (st:=eK) l_24 c_24 k_24
 have b_24:=F_24.binds (ps:=["text", "place"]) (by walk_at "bd")
 have F_25:=bG (st:=fH) l_25 c_25 k_25
 have b_25:=F_25.binds (ps:=["flags"]) (by walk_at "bd")
 have F_26:=bG (st:=gB) l_26 c_26 k_26
 have b_26:=F_26.binds (ps:=["flags"]) (by walk_at "bd")
 have F_27:=bG (st:=cW) l_27 c_27 k_27
 have b_27:=F_27.binds (ps:=["halyards", "word", "lowered"]) (by walk_at "bd")
 have F_28:=bG (st:=eO) l_28 c_28 k_28
 have b_28:=F_28.binds (ps:=["locker", "halyards", "number", "word"]) (by walk_at "bd")
 have F_29:=bG (st:=dN) l_29 c_29 k_29
 have b_29:=F_29.binds (ps:=["self", "flag"]) (by walk_at "bd")
 have F_30:=bG (st:=kE) l_30 c_30 k_30
 have b_30:=F_30.binds (ps:=["locker", "flags"]) (by walk_at "bd")
 have F_31:=bG (st:=iA) l_31 c_31 k_31
 have b_31:=F_31.binds (ps:=["locker", "halyards", "number", "word"]) (by walk_at "bd")
 have F_32:=bG (st:=iD) l_32 c_32 k_32
 have b_32:=F_32.binds (ps:=["_law_locker_here", "_law_halyards_here", "_law_number", "_law_word_here"]) (by walk_at "bd")
 have F_33:=bG (st:=dZ) l_33 c_33 k_33
 have b_33:=F_33.binds (ps:=["_law_halyards_here", "_law_number"]) (by walk_at "bd")
 have F_34:=bG (st:=gF) l_34 c_34 k_34
 have b_34:=F_34.binds (ps:=["_law_locker_here"]) (by walk_at "bd")
 have F_35:=bG (st:=cL) l_35 c_35 k_35
 have b_35:=F_35.binds (ps:=["_law_hoist_here", "_law_word_here"]) (by walk_at "bd")
 have F_36:=bG (st:=iI) l_36 c_36 k_36
 have b_36:=F_36.binds (ps:=["_law_locker_here", "_law_halyards_here", "_law_numbers"]) (by walk_at "bd")
 have F_37:=bG (st:=iF) l_37 c_37 k_37
 have b_37:=F_37.binds (ps:=["_law_hoist_here"]) (by walk_at "bd")
 have F_38:=bG (st:=fF) l_38 c_38 k_38
 have b_38:=F_38.binds (ps:=["_law_found", "_law_locker_here", "_law_halyards_here", "_law_number", "_law_word_here"]) (by walk_at "bd")
 have F_39:=bG (st:=iC) l_39 c_39 k_39
 have b_39:=F_39.binds (ps:=["_law_locker_here", "_law_halyards_here", "_law_number", "_law_word_here"]) (by walk_at "bd")
 have F_40:=bG (st:=lQ) l_40 c_40 k_40
 refine ⟨PySem.W.fnOf "law" "law" (aR lQ) (aQ lQ) (aG lQ) .none kV_40 dc_40 pm_40 an_40 cd_40 ct_40,λs v=>.of_eq rfl,λbase _ _=>?_⟩
 have mk:∀ {k:Nat} {x:Str} {ps:List Str} {sp:Sp} {f:Addr} {fd:FuncData},FnOk l.prog w K mg base CX0 k f fd ps sp->mg x=some (.ref f)->PySem.W.keepIn K (.ref f)=true->Binds K fd ps []->Cal l.prog w K mg base k x ps sp:=λa b c d=>⟨_,_,a,b,c,d⟩
 have mkX:∀ {k:Nat} {x:Str} {ps:List Str} {sp:Sp} {f:Addr} {fd:FuncData},FnOk l.prog w K mg base (CXr l.prog w) k f fd ps sp->mg x=some (.ref f)->PySem.W.keepIn K (.ref f)=true->Binds K fd ps []->uG l.prog w K mg base k x ps sp:=λa b c d=>⟨_,_,a,b,c,d⟩
 have c_l_cell:=mk (aJM F_0 G ) (M a_0) k_0 b_0
 have c_l_stream:=mk (vS F_1 G ) (M a_1) k_1 b_1
 have c_l_choices:=mk (uD F_2 G ) (M a_2) k_2 b_2
 have c_l_hoist:=mk (aQB F_3 G c_l_stream c_l_choices) (M a_3) k_3 b_3
 have c_l_word:=mk (aX9 F_4 G c_l_stream) (M a_4) k_4 b_4
 have c_l_halyards:=mk (qO F_5 G c_l_hoist c_l_word) (M a_5) k_5 b_5
 have c_l_locker:=mk (vP F_6 G c_l_stream) (M a_6) k_6 b_6
 have c_l_drawn:=mk (aQF F_7 G c_l_cell c_l_halyards c_l_word c_l_locker) (M a_7) k_7 b_7
 have c_plain_locker:=mk (oA F_8 G ) (M a_8) k_8 b_8
 have c_put_in:=mk (aJW F_9 G c_plain_locker) (M a_9) k_9 b_9
 have c_rising_lists:Cal l.prog w K mg base 9 "rising_lists" ["numbers", "many"] (cM 8):=⟨f_10,_,bXA cM mL (M a_10) k_10 b_10 (λd n c=>nY F_10 G c) 8,M a_10,k_10,b_10⟩
 have c_sets_of:=mk (zJ F_11 G c_rising_lists) (M a_11) k_11 b_11
 have c_Lack_init:zO l.prog w K mg base 1 Zw ["self", "wants", "flags"] (fY Zw):=⟨f_12,_,tQ F_12 G ,a_12,y_12,b_12⟩
 have c_others_hung:=mk (qG F_13 G ) (M a_13) k_13 b_13
 have c_wants_of:=mk (vU F_14 G ) (M a_14) k_14 b_14
 have c_choices_at:=mk (qQ F_15 G ) (M a_15) k_15 b_15
 have c_choices_of:=mk (qX F_16 G c_wants_of c_choices_at) (M a_16) k_16 b_16
 have c_hoists_of:=mk (vA F_17 G ) (M a_17) k_17 b_17
 have c_asked_from:=mk (qT F_18 G ) (M a_18) k_18 b_18
 have c_hang_along:=mk (rF F_19 G ) (M a_19) k_19 b_19
 have c_hang_all:=mkX (wQ F_20 G c_choices_of c_plain_locker c_hoists_of c_asked_from c_hang_along c_Lack_init) (M a_20) k_20 b_20
 have c_lack_of:=mk (zL F_21 G c_hang_all) (M a_21) k_21 b_21
 have c_flags_on:=mk (vR F_22 G ) (M a_22) k_22 b_22
 have c_is_flag:=mk (aQD F_23 G ) (M a_23) k_23 b_23
 have c_may_stand:=mk (tM F_24 G c_is_flag) (M a_24) k_24 b_24
 have c_is_hoist:=mk (xO F_25 G c_may_stand) (M a_25) k_25 b_25
 have c_read_of:=mkX (yY F_26 G c_is_hoist) (M a_26) k_26 b_26
 have c_words_with:=mk (rG F_27 G c_read_of) (M a_27) k_27 b_27
 have c_least_set:=mkX (uQ F_28 G c_sets_of c_Lack_init c_others_hung c_put_in c_lack_of c_flags_on c_words_with) (M a_28) k_28 b_28
 have c_Short_init:zO l.prog w K mg base 1 Zx ["self", "flag"] (hU Zx):=⟨f_29,_,qU F_29 G ,a_29,y_29,b_29⟩
 have c_taken:=mkX (bZC F_30 G c_plain_locker c_Short_init) (M a_30) k_30 b_30
 have c_hauled:=mkX (aJC F_31 G c_put_in c_least_set c_flags_on c_hang_all c_taken c_words_with) (M a_31) k_31 b_31
 have c_l_told:=mk (aJT F_32 G c_hauled) (M a_32) k_32 b_32
 have c_l_others:=mk (vO F_33 G ) (M a_33) k_33 b_33
 have c_l_plain:=mk (yC F_34 G ) (M a_34) k_34 b_34
 have c_l_is_hoist_of:=mk (nE F_35 G c_l_choices) (M a_35) k_35 b_35
 have c_l_pool:=mk (aZL F_36 G ) (M a_36) k_36 b_36
 have c_l_read:=mk (aZS F_37 G ) (M a_37) k_37 b_37
 have c_l_right:=mk (zF F_38 G c_l_others c_l_plain c_l_is_hoist_of c_l_pool c_l_read) (M a_38) k_38 b_38
 have c_l_good:=mk (aZD F_39 G c_l_told c_l_right) (M a_39) k_39 b_39
 exact cJS F_40 G c_l_drawn c_l_good
theorem walk {l:PySem.W.OpenLaw} {q:Program} {loose:List Str} {XP:(Str->Option Value)->Heap->Prop} {YP:World->Heap->Prop} {d:DefRec} {K:Params->PySem.W.Frag} (hn:l.most=some 63) (hdf:d.params.defaults=[])
   (hY:∀ (w:World) (h:Heap),YP w h->(K w.params).In h)
   (F:∀ (w:World) (mg:Str->Option Value) (fa:Addr) (h:Heap),(K w.params).In h->h.Ns mainGlobals mg->mg d.name=some (.ref fa)->
     ∃ fd:FuncData,(∀ (s:Shared) (u:Value),BindsTo s fd ⟨[u],[]⟩ [("_law_script",u)])/\∀ base:Heap,(K w.params).In base->base.Ns mainGlobals mg->FnOk l.prog w (K w.params) mg base CX0 15 fa fd ["_law_script"] (uN (K w.params))) :
   PySem.W.WalkO q loose XP YP l.row.toRowW d [] (λf vs=>PySem.call f vs) :=
 L2.bJ5 (n:=63) (k:=15) (x := "_law_script") (CX:=λ_=>CX0) (sp:=λw=>uN (K w.params)) hn (by decide) hdf ⟨rfl,by decide,by decide⟩ hY F (λ_ _ a ns hl _ hS=>⟨a,ns,rfl,hS,hl,λ_=>rfl⟩) λ_ _ _ _ _ z=>z
end Mine
namespace PySem.W.Fast
theorem tw5354771629957805935:True:=⟨⟩
theorem tw2895440098823866962:True:=⟨⟩
theorem tw8195945850304985381:True:=⟨⟩
theorem tw9910161743977503963:True:=⟨⟩
theorem tw1966567818894581400:True:=⟨⟩
theorem tw16734140884584770771:True:=⟨⟩
theorem tw4657747688976632015:True:=⟨⟩
theorem tw15428503956566607119:True:=⟨⟩
theorem tw11334204949181608116:True:=⟨⟩
theorem tw5677130666167233612:True:=⟨⟩
theorem tw12845484368382021061:True:=⟨⟩
theorem tw5807795927759241525:True:=⟨⟩
theorem tw11219066107171602628:True:=⟨⟩
theorem tw9223178945679084540:True:=⟨⟩
theorem tw12390247862212072331:True:=⟨⟩
theorem tw14922513191975659349:True:=⟨⟩
theorem tw1083335137075411340:True:=⟨⟩
theorem tw3295256945206503141:True:=⟨⟩
theorem tw10974850390634984574:True:=⟨⟩
theorem tw13862509750690244983:True:=⟨⟩
theorem tw3469628205491921126:True:=⟨⟩
theorem tw14453015278693129275:True:=⟨⟩
theorem tw7397972162266814382:True:=⟨⟩
theorem tw2493505379407287720:True:=⟨⟩
theorem tw5856909815461539736:True:=⟨⟩
theorem tw2871284986478575610:True:=⟨⟩
theorem tw833541082924195284:True:=⟨⟩
theorem tw3798786618510819787:True:=⟨⟩
theorem tw12318920566196390087:True:=⟨⟩
theorem tw5210407730234297066:True:=⟨⟩
theorem tw4897675440774517308:True:=⟨⟩
theorem tw8877984388437671210:True:=⟨⟩
theorem tw17551193446428671399:True:=⟨⟩
theorem tw18183977147543547566:True:=⟨⟩
theorem tw16748621974736822485:True:=⟨⟩
theorem tw11033574714738656097:True:=⟨⟩
theorem tw15653545437040414647:True:=⟨⟩
theorem tw9906676636270223600:True:=⟨⟩
theorem tw14322455883882819208:True:=⟨⟩
theorem tw7648721099984058060:True:=⟨⟩
theorem tw16064236452029582559:True:=⟨⟩
theorem tw12330325767397341169:True:=⟨⟩
theorem tw14943391213956027980:True:=⟨⟩
theorem tw4402267358439197061:True:=⟨⟩
theorem tw16340852380789117726:True:=⟨⟩
theorem tw13377140469891897021:True:=⟨⟩
theorem tw12011151852640149005:True:=⟨⟩
theorem tw5075803233028183698:True:=⟨⟩
theorem tw13621984551402744018:True:=⟨⟩
theorem tw5773119471605655637:True:=⟨⟩
theorem tw10544068257105979726:True:=⟨⟩
theorem tw14835421201130410292:True:=⟨⟩
theorem tw6543353277945498377:True:=⟨⟩
theorem tw4233282857906602681:True:=⟨⟩
theorem tw3927990472549318374:True:=⟨⟩
theorem tw342093155478025818:True:=⟨⟩
theorem tw3457235023142686599:True:=⟨⟩
theorem tw16062070792948039627:True:=⟨⟩
theorem tw3330344671349503329:True:=⟨⟩
theorem tw13289788384479862979:True:=⟨⟩
theorem tw3147156782529145831:True:=⟨⟩
theorem tw11202291048375379382:True:=⟨⟩
theorem tw3106172472887166213:True:=⟨⟩
theorem tw1598132056305077267:True:=⟨⟩
theorem tw14245564025650363070:True:=⟨⟩
theorem tw11197959836358565954:True:=⟨⟩
theorem tw17303828786363673449:True:=⟨⟩
theorem tw1092147942023998645:True:=⟨⟩
theorem tw18378345990110816706:True:=⟨⟩
theorem tw12308034008074135681:True:=⟨⟩
theorem tw5653647426521692982:True:=⟨⟩
theorem tw27704209376928285:True:=⟨⟩
theorem tw858691183040210823:True:=⟨⟩
theorem tw9352236770325836064:True:=⟨⟩
theorem tw2070060569827571756:True:=⟨⟩
theorem tw15054448172419597534:True:=⟨⟩
theorem tw1014165420082652933:True:=⟨⟩
theorem tw16619280432820562190:True:=⟨⟩
theorem tw1138681720286756143:True:=⟨⟩
theorem tw15207327443271292223:True:=⟨⟩
theorem tw13384575586087377467:True:=⟨⟩
theorem tw9291887282959488687:True:=⟨⟩
theorem tw11069241889259037472:True:=⟨⟩
theorem tw17113785067977561251:True:=⟨⟩
theorem tw12710435816172544596:True:=⟨⟩
theorem tw8873410284355674926:True:=⟨⟩
theorem tw9775913342902867935:True:=⟨⟩
theorem tw10433965498676692000:True:=⟨⟩
theorem tw9161990775528992141:True:=⟨⟩
theorem tw3493326763765580152:True:=⟨⟩
theorem tw17542905129223048795:True:=⟨⟩
theorem tw3921669701828989972:True:=⟨⟩
theorem tw4260678739994440471:True:=⟨⟩
theorem tw7950255098648300478:True:=⟨⟩
theorem tw11037410639393949834:True:=⟨⟩
theorem tw16123190911928950855:True:=⟨⟩
theorem tw16897887853231019216:True:=⟨⟩
theorem tw9042986502448254853:True:=⟨⟩
theorem tw1476748392297964028:True:=⟨⟩
theorem tw14166918355428708654:True:=⟨⟩
theorem tw2148814530404947583:True:=⟨⟩
theorem tw14229561431415654586:True:=⟨⟩
theorem tw2704192182219308942:True:=⟨⟩
theorem tw4228230337624628486:True:=⟨⟩
theorem tw17816730889444612710:True:=⟨⟩
theorem tw7857929651214532644:True:=⟨⟩
theorem tw13086298974167570964:True:=⟨⟩
theorem tw12708098435077442185:True:=⟨⟩
theorem tw4477980436247961009:True:=⟨⟩
theorem tw15471927223833068923:True:=⟨⟩
theorem tw17580266740608732335:True:=⟨⟩
theorem tw13325274300701189296:True:=⟨⟩
theorem tw2682842143896608545:True:=⟨⟩
theorem tw13461485539344716107:True:=⟨⟩
theorem tw11563167967943151252:True:=⟨⟩
theorem tw10422360139254518982:True:=⟨⟩
theorem tw14281717942034714470:True:=⟨⟩
theorem tw4440304869967794599:True:=⟨⟩
theorem tw3409702358525093435:True:=⟨⟩
theorem tw7442827462298206207:True:=⟨⟩
theorem tw10685517948115298025:True:=⟨⟩
theorem tw13639464777232471944:True:=⟨⟩
theorem tw4656580612501175175:True:=⟨⟩
theorem tw17426423128590351814:True:=⟨⟩
theorem tw8695887197253751611:True:=⟨⟩
theorem tw17922861226592574881:True:=⟨⟩
theorem tw18278993393041083396:True:=⟨⟩
theorem tw11624815600409537966:True:=⟨⟩
theorem tw10269561637401104099:True:=⟨⟩
theorem tw9884532510692796259:True:=⟨⟩
theorem tw10533976906828751465:True:=⟨⟩
theorem tw5148399377491882737:True:=⟨⟩
theorem tw13422002708128060185:True:=⟨⟩
theorem tw10194255578112890237:True:=⟨⟩
theorem tw7089764522219792082:True:=⟨⟩
theorem tw15824685108655030463:True:=⟨⟩
theorem tw14605896910155480443:True:=⟨⟩
theorem tw1080995339412884814:True:=⟨⟩
theorem tw5797175174290242553:True:=⟨⟩
theorem tw12660697240265073529:True:=⟨⟩
theorem tw220651088063095639:True:=⟨⟩
theorem tw3631627822454500990:True:=⟨⟩
theorem tw8734663015648303458:True:=⟨⟩
theorem tw16217965689639930492:True:=⟨⟩
theorem tw809785906294866570:True:=⟨⟩
theorem tw2489762654274006322:True:=⟨⟩
theorem tw8968718214085355950:True:=⟨⟩
theorem tw13044748779439812079:True:=⟨⟩
theorem tw13866133754791646626:True:=⟨⟩
theorem tw5462360587548726811:True:=⟨⟩
theorem tw271911880706528896:True:=⟨⟩
theorem tw16224735765769487458:True:=⟨⟩
theorem tw14847499263188389639:True:=⟨⟩
theorem tw7445894439368204603:True:=⟨⟩
theorem tw5430858985333877770:True:=⟨⟩
theorem tw7780834393383062228:True:=⟨⟩
theorem tw7535778310564429209:True:=⟨⟩
theorem tw17526474172827540182:True:=⟨⟩
theorem tw10960728855063132525:True:=⟨⟩
theorem tw8915724937313887472:True:=⟨⟩
theorem tw17534047854059967796:True:=⟨⟩
theorem tw4757338492132588705:True:=⟨⟩
theorem tw17945252058757525031:True:=⟨⟩
theorem tw15017948973184730318:True:=⟨⟩
theorem tw4427009250861951686:True:=⟨⟩
theorem tw10749229939482048135:True:=⟨⟩
theorem tw7727369682430305901:True:=⟨⟩
theorem tw1982237221948587228:True:=⟨⟩
theorem tw10223134701675534878:True:=⟨⟩
theorem tw3569844960390734437:True:=⟨⟩
theorem tw3867712290574846424:True:=⟨⟩
theorem tw10552611034749522401:True:=⟨⟩
theorem tw14141935755418981372:True:=⟨⟩
theorem tw2339729255598879105:True:=⟨⟩
theorem tw9677378860238833219:True:=⟨⟩
theorem tw15876196329549351438:True:=⟨⟩
theorem tw1250273495194804568:True:=⟨⟩
theorem tw12514618977454796453:True:=⟨⟩
theorem tw4593650975502381830:True:=⟨⟩
theorem tw16928908886795810655:True:=⟨⟩
theorem tw6081778271373301127:True:=⟨⟩
theorem tw11751033894124657350:True:=⟨⟩
theorem tw11109486463688112852:True:=⟨⟩
theorem tw15217578704285917044:True:=⟨⟩
theorem tw8870799745492099722:True:=⟨⟩
theorem tw1836231993671635135:True:=⟨⟩
theorem tw1032749295138176028:True:=⟨⟩
theorem tw4748461075224044618:True:=⟨⟩
theorem tw5970511005290589669:True:=⟨⟩
theorem tw13818212394386632310:True:=⟨⟩
theorem tw14401784508594054497:True:=⟨⟩
theorem tw17507413929070759652:True:=⟨⟩
theorem tw7899198701373000264:True:=⟨⟩
theorem tw11172748741426336254:True:=⟨⟩
theorem tw3446257614483843286:True:=⟨⟩
theorem tw17177340548894057567:True:=⟨⟩
theorem tw17278716220621887478:True:=⟨⟩
theorem tw2328622095039184181:True:=⟨⟩
theorem tw6846578690750637055:True:=⟨⟩
theorem tw7159377008635775534:True:=⟨⟩
theorem tw15686610026310985927:True:=⟨⟩
theorem tw18369594345229555766:True:=⟨⟩
theorem tw17920818966198969513:True:=⟨⟩
theorem tw12277758207599525110:True:=⟨⟩
theorem tw15950183646406429639:True:=⟨⟩
theorem tw1563002777559028581:True:=⟨⟩
theorem tw4605246956609549926:True:=⟨⟩
theorem tw14070485969438344224:True:=⟨⟩
theorem tw10601888094301294561:True:=⟨⟩
theorem tw8054902867356471592:True:=⟨⟩
theorem tw17708774130188210216:True:=⟨⟩
theorem tw7241179134312550746:True:=⟨⟩
theorem tw6347105539121301025:True:=⟨⟩
theorem tw15439755117500974594:True:=⟨⟩
theorem tw2434232179113198018:True:=⟨⟩
theorem tw10436035237298946327:True:=⟨⟩
theorem tw10624946390580175604:True:=⟨⟩
theorem tw15889386072135301266:True:=⟨⟩
theorem tw9735918854867446946:True:=⟨⟩
theorem tw10375237828412165532:True:=⟨⟩
theorem tw17320870683543541986:True:=⟨⟩
theorem tw4172103791975030440:True:=⟨⟩
theorem tw18306792815642667268:True:=⟨⟩
theorem tw15686463192876634030:True:=⟨⟩
theorem tw1271844667223169875:True:=⟨⟩
theorem tw7997829067626036503:True:=⟨⟩
theorem tw11909936097386464438:True:=⟨⟩
theorem tw3930372222055446598:True:=⟨⟩
theorem tw7855533791990641170:True:=⟨⟩
theorem tw6202349803916433867:True:=⟨⟩
theorem tw17389781130189268728:True:=⟨⟩
theorem tw8770581254205437822:True:=⟨⟩
theorem tw3225514134822388497:True:=⟨⟩
theorem tw11902208095495302543:True:=⟨⟩
theorem tw9995286829568318134:True:=⟨⟩
theorem tw3727893894441908591:True:=⟨⟩
theorem tw1551184659165892554:True:=⟨⟩
theorem tw3436917603324227319:True:=⟨⟩
theorem tw15456372592219035568:True:=⟨⟩
theorem tw4645118988920272495:True:=⟨⟩
theorem tw4384344959500984444:True:=⟨⟩
theorem tw3912828755728594769:True:=⟨⟩
theorem tw859575782763631982:True:=⟨⟩
theorem tw14553672592224095580:True:=⟨⟩
theorem tw10984625812170484716:True:=⟨⟩
theorem tw15907249243535778141:True:=⟨⟩
theorem tw3283029916541131259:True:=⟨⟩
theorem tw2151710243456221724:True:=⟨⟩
theorem tw10269644260325330723:True:=⟨⟩
theorem tw16850586309311899393:True:=⟨⟩
theorem tw9830255246359000192:True:=⟨⟩
theorem tw11254740629705314622:True:=⟨⟩
theorem tw5425999580553499943:True:=⟨⟩
theorem tw5669555612999538090:True:=⟨⟩
theorem tw147012702577352731:True:=⟨⟩
theorem tw10580252564349324156:True:=⟨⟩
theorem tw2623455730884187745:True:=⟨⟩
theorem tw2117158612095459890:True:=⟨⟩
theorem tw3992129839426140946:True:=⟨⟩
theorem tw5412491476820238486:True:=⟨⟩
theorem tw12714448621480387108:True:=⟨⟩
theorem tw8094704015247106599:True:=⟨⟩
theorem tw7979360676728684151:True:=⟨⟩
theorem tw10172124121508597749:True:=⟨⟩
theorem tw2270437857009315804:True:=⟨⟩
theorem tw2286398658931863358:True:=⟨⟩
theorem tw4685995469858152080:True:=⟨⟩
theorem tw17444528544548097026:True:=⟨⟩
theorem tw15895301897577734029:True:=⟨⟩
theorem tw9319224549312763937:True:=⟨⟩
theorem tw1016252274428731577:True:=⟨⟩
theorem tw2551418870735914791:True:=⟨⟩
theorem tw11891518770131271042:True:=⟨⟩
theorem tw5890655744183775046:True:=⟨⟩
theorem tw16616586416671053681:True:=⟨⟩
theorem tw14014210819417024443:True:=⟨⟩
theorem tw7925015189024750909:True:=⟨⟩
theorem tw8063890049525798636:True:=⟨⟩
theorem tw5702957510873060722:True:=⟨⟩
theorem tw9773045290110031701:True:=⟨⟩
theorem tw4659070943379905823:True:=⟨⟩
theorem tw12167955480068851193:True:=⟨⟩
theorem tw5291183916677181014:True:=⟨⟩
theorem tw9470006376807177307:True:=⟨⟩
theorem tw18265884529853539259:True:=⟨⟩
theorem tw14507751912769225931:True:=⟨⟩
theorem tw16505252528929859640:True:=⟨⟩
theorem tw17000135261297249851:True:=⟨⟩
theorem tw11897874616623953105:True:=⟨⟩
theorem tw12351662203509028796:True:=⟨⟩
theorem tw7725622032584692286:True:=⟨⟩
theorem tw8141352960887820017:True:=⟨⟩
theorem tw7864241035736410957:True:=⟨⟩
theorem tw14159582197842404181:True:=⟨⟩
theorem tw14310761706054142491:True:=⟨⟩
theorem tw12785106576007428997:True:=⟨⟩
theorem tw10922389570236754477:True:=⟨⟩
theorem tw991800448146189946:True:=⟨⟩
theorem tw3493086200206243282:True:=⟨⟩
theorem tw9623750993309622274:True:=⟨⟩
theorem tw14844953075190708062:True:=⟨⟩
theorem tw7388826358785065425:True:=⟨⟩
theorem tw10385070459487489948:True:=⟨⟩
theorem tw11635301457455489477:True:=⟨⟩
end PySem.W.Fast
open PySem PySem.W PyProof.Rows
set_option maxRecDepth 100000 in
set_option maxHeartbeats 0 in
theorem PySem.Challenge.cw_flaglocker_k26_what_is_lowered_holds : PySem.Challenge.rw_flaglocker_k26_what_is_lowered.Holds := by
  w_on; o_law; k_head; (case hw => w_witness2)
  k_fill
  refine Mine.walk (l:=PySem.Challenge.rw_flaglocker_k26_what_is_lowered) rfl rfl (fun w h Y => PySem.W.kIn_of Y) ?F
  case F =>
    intro w mg fa h KX G hmg
    refine' Mine.all_mk KX G hmg ?a_0 ?l_0 ?c_0 ?k_0 ?a_1 ?l_1 ?c_1 ?k_1 ?a_2 ?l_2 ?c_2 ?k_2 ?a_3 ?l_3 ?c_3 ?k_3 ?a_4 ?l_4 ?c_4 ?k_4 ?a_5 ?l_5 ?c_5 ?k_5 ?a_6 ?l_6 ?c_6 ?k_6 ?a_7 ?l_7 ?c_7 ?k_7 ?a_8 ?l_8 ?c_8 ?k_8 ?a_9 ?l_9 ?c_9 ?k_9 ?a_10 ?l_10 ?c_10 ?k_10 ?a_11 ?l_11 ?c_11 ?k_11 ?y_12 ?a_12 ?l_12 ?c_12 ?k_12 ?a_13 ?l_13 ?c_13 ?k_13 ?a_14 ?l_14 ?c_14 ?k_14 ?a_15 ?l_15 ?c_15 ?k_15 ?a_16 ?l_16 ?c_16 ?k_16 ?a_17 ?l_17 ?c_17 ?k_17 ?a_18 ?l_18 ?c_18 ?k_18 ?a_19 ?l_19 ?c_19 ?k_19 ?a_20 ?l_20 ?c_20 ?k_20 ?a_21 ?l_21 ?c_21 ?k_21 ?a_22 ?l_22 ?c_22 ?k_22 ?a_23 ?l_23 ?c_23 ?k_23 ?a_24 ?l_24 ?c_24 ?k_24 ?a_25 ?l_25 ?c_25 ?k_25 ?a_26 ?l_26 ?c_26 ?k_26 ?a_27 ?l_27 ?c_27 ?k_27 ?a_28 ?l_28 ?c_28 ?k_28 ?y_29 ?a_29 ?l_29 ?c_29 ?k_29 ?a_30 ?l_30 ?c_30 ?k_30 ?a_31 ?l_31 ?c_31 ?k_31 ?a_32 ?l_32 ?c_32 ?k_32 ?a_33 ?l_33 ?c_33 ?k_33 ?a_34 ?l_34 ?c_34 ?k_34 ?a_35 ?l_35 ?c_35 ?k_35 ?a_36 ?l_36 ?c_36 ?k_36 ?a_37 ?l_37 ?c_37 ?k_37 ?a_38 ?l_38 ?c_38 ?k_38 ?a_39 ?l_39 ?c_39 ?k_39 ?a_40 ?l_40 ?c_40 ?k_40 ?z_len ?z_range ?z_min ?z_list ?z_max ?z_enumerate ?z_int ?z_all ?z_zip ?z_isinstance ?z_dict ?z_tuple ?z_bool ?g_FLAGS ?g_SUBSTITUTES ?g_MOST_PLACES ?q_Lack ?q_TowerError ?q_Short ?q_NoHoist ?f_m_Lack ?f_x_NoHoist ?f_m_Short ?f_t1_TowerError ?f_t2_TowerError ?f_t3_TowerError ?f_xo_Lack ?f_xk_Lack ?f_xe1_Lack ?f_xe2_Lack ?f_xe3_Lack ?f_xe4_Lack ?f_xe5_Lack ?f_xe6_Lack ?f_xe7_Lack ?f_xe8_Lack ?f_xs_Lack ?f_xr_Lack ?f_xv_Lack ?f_xn_Lack_wants ?f_xn_Lack_flags ?f_xo_Short ?f_xk_Short ?f_xe1_Short ?f_xe2_Short ?f_xe3_Short ?f_xe4_Short ?f_xe5_Short ?f_xe6_Short ?f_xe7_Short ?f_xe8_Short ?f_xs_Short ?f_xr_Short ?f_xv_Short ?f_xn_Short_flag
    (case q_Lack | q_TowerError | q_Short | q_NoHoist | a_0 | l_0 | c_0 | k_0 | a_1 | l_1 | c_1 | k_1 | a_2 | l_2 | c_2 | k_2 | a_3 | l_3 | c_3 | k_3 | a_4 | l_4 | c_4 | k_4 | a_5 | l_5 | c_5 | k_5 | a_6 | l_6 | c_6 | k_6 | a_7 | l_7 | c_7 | k_7 | a_8 | l_8 | c_8 | k_8 => k_is)
    (case a_9 | l_9 | c_9 | k_9 | a_10 | l_10 | c_10 | k_10 | a_11 | l_11 | c_11 | k_11 | a_12 | l_12 | c_12 | k_12 | a_13 | l_13 | c_13 | k_13 | a_14 | l_14 | c_14 | k_14 | a_15 | l_15 | c_15 | k_15 | a_16 | l_16 | c_16 | k_16 | a_17 | l_17 | c_17 | k_17 | a_18 | l_18 | c_18 | k_18 => k_is)
    (case a_19 | l_19 | c_19 | k_19 | a_20 | l_20 | c_20 | k_20 | a_21 | l_21 | c_21 | k_21 | a_22 | l_22 | c_22 | k_22 | a_23 | l_23 | c_23 | k_23 | a_24 | l_24 | c_24 | k_24 | a_25 | l_25 | c_25 | k_25 | a_26 | l_26 | c_26 | k_26 | a_27 | l_27 | c_27 | k_27 | a_28 | l_28 | c_28 | k_28 => k_is)
    (case a_29 | l_29 | c_29 | k_29 | a_30 | l_30 | c_30 | k_30 | a_31 | l_31 | c_31 | k_31 | a_32 | l_32 | c_32 | k_32 | a_33 | l_33 | c_33 | k_33 | a_34 | l_34 | c_34 | k_34 | a_35 | l_35 | c_35 | k_35 | a_36 | l_36 | c_36 | k_36 | a_37 | l_37 | c_37 | k_37 | a_38 | l_38 | c_38 | k_38 => k_is)
    (case a_39 | l_39 | c_39 | k_39 | a_40 | l_40 | c_40 | k_40 | z_len | z_range | z_min | z_list | z_max | z_enumerate | z_int | z_all | z_zip | z_isinstance | z_dict | z_tuple | z_bool | g_FLAGS | g_SUBSTITUTES | g_MOST_PLACES => k_is)
    (case f_m_Lack => kts_exm)
    (case f_x_NoHoist => k_exc)
    (case f_m_Short => kts_exm)
    (case f_t1_TowerError | f_t2_TowerError | f_t3_TowerError => k_is)
    (case f_xo_Lack => kernel_rfl!)
    (case f_xk_Lack | f_xe1_Lack | f_xe2_Lack | f_xe3_Lack | f_xe4_Lack | f_xe5_Lack | f_xe6_Lack | f_xe7_Lack | f_xe8_Lack | f_xs_Lack => k_is)
    (case f_xr_Lack => kernel_rfl!)
    (case f_xv_Lack | f_xn_Lack_wants | f_xn_Lack_flags => k_is)
    (case f_xo_Short => kernel_rfl!)
    (case f_xk_Short | f_xe1_Short | f_xe2_Short | f_xe3_Short | f_xe4_Short | f_xe5_Short | f_xe6_Short | f_xe7_Short | f_xe8_Short | f_xs_Short => k_is)
    (case f_xr_Short => kernel_rfl!)
    (case f_xv_Short | f_xn_Short_flag | y_12 | y_29 => k_is)
