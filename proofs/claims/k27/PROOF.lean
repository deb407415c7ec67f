import PyProof.Rows.All
import Wide.All
import OpenK.AllK
import Wide.FinOn
import Lean
import PyProof.EqAt
import PyProof.EqKinds
import PyProof.TupleCall
import PySem.Challenge.RW_flaglocker_k27_fewest_lowered
set_option Elab.async false
set_option compiler.extract_closed false
set_option linter.all false
set_option maxRecDepth 100000
abbrev Q0:=PySem.Value->PySem.Shared->Prop
abbrev Q2:=List (PySem.Addr × PySem.Obj)
abbrev Q3:=List (Option (List Nat))
abbrev Q4:=PySem.Str->Option PySem.Value
abbrev Q5:=List (List Nat)
abbrev Aa:=@List.getElem?_eq_getElem
abbrev Ab:=@List.length_map
abbrev Ac:=@List.getD_eq_getElem?_getD
abbrev Ad:=@PySem.wpAny_bind
abbrev Ae:=@List.getElem?_eq_some_iff
abbrev Af:=@PySem.Heap.get?_push_of_some
abbrev Ag:=@List.getElem?_map
abbrev Ah:=@Nat.le_refl
abbrev Ai:=@List.mem_of_getElem?
abbrev Aj:=@List.length_append
abbrev Ak:=@List.map_append
abbrev Al:=@PySem.wpAny_pure
abbrev Am:=@decide_eq_false
abbrev An:=@decide_eq_true
abbrev Ao:=@List.mem_cons_of_mem
abbrev Ap:=@List.getElem?_append_left
abbrev Aq:=@Bool.false_ne_true
abbrev Ar:=@PySem.Heap.lt_size
abbrev As:=@List.mem_cons_self
abbrev Au:=@List.map_cons
abbrev Av:=@List.getElem?_append_right
abbrev Aw:=@List.mem_singleton
abbrev Ax:=@PySem.Heap.get?_push_size
abbrev Ay:=@PySem.wpAny_loadPart'
abbrev Az:=@PySem.PassesOwn.never
abbrev Ba:=@List.take_add_one
abbrev Bb:=@List.length_cons
abbrev Bc:=@Nat.le_trans
abbrev Bd:=@List.mem_cons
abbrev Be:=@List.mem_map
abbrev Bf:=@List.size_toArray
abbrev Bg:=@of_decide_eq_true
abbrev Bh:=@Nat.lt_of_lt_of_le
abbrev Bi:=@Nat.ne_of_lt
abbrev Bj:=@PySem.F.plainAttrs_list
abbrev Bk:=@List.mem_append
abbrev Bl:=@List.take_length
abbrev Bm:=@List.mem_range
abbrev Bo:=@Option.some.inj
abbrev Bp:=@decide_eq_true_iff
abbrev Bq:=@List.mem_append_right
abbrev Br:=@List.append_nil
abbrev Bs:=@List.length_take
abbrev Bt:=@PySem.F.slot_dict_get
abbrev Bu:=@List.take_of_length_le
abbrev Bv:=@List.getElem_mem
abbrev Bw:=@Nat.zero_le
abbrev Bx:=@PySem.wpAny_holding
abbrev By:=@List.map_map
abbrev Bz:=@List.length_range
abbrev Ca:=@of_decide_eq_false
abbrev Cb:=@List.nodup_cons
abbrev Cc:=@List.mem_iff_getElem
abbrev Cd:=@Bool.eq_false_iff
abbrev Ce:=@PySem.wpAny_mono
abbrev Cf:=@PySem.F.slot_list_append
abbrev Cg:=@PySem.F.type_list_append
abbrev Ci:=@List.range_succ
abbrev Cj:=@List.filterMap_append
abbrev Ck:=@List.length_drop
abbrev Cm:=@PySem.Heap.get?_update_other
abbrev Co:=@PySem.F.type_dict_get
abbrev Cp:=@List.map_congr_left
abbrev Cq:=@List.all_eq_true
abbrev Cr:=@List.mem_append_left
abbrev Cs:=@Bool.and_eq_true
abbrev Ct:=@List.sum_cons
abbrev Cu:=@Array.getElem?_toList
abbrev Cv:=@PyProof.Rows.callWith_type1
abbrev Cw:=@congrArg
abbrev Cy:=@Array.getElem?_eq_some_iff
abbrev Cz:=@Int.emod_lt_of_pos
abbrev Da:=@List.mem_filter
abbrev Dc:=@PySem.W.kia_one
abbrev Dd:=@Int.emod_nonneg
abbrev De:=@Nat.le_of_lt
abbrev Df:=@PySem.mem_of_lookup
abbrev Dg:=@Array.length_toList
abbrev Dh:=@List.flatMap_append
abbrev Di:=@Nat.lt_irrefl
abbrev Dj:=@List.length_filterMap_le
abbrev Dm:=@List.filterMap_cons_some
abbrev Dn:=@List.mem_filterMap
abbrev Do:=@List.filterMap_nil
abbrev Dp:=@PySem.Around.under_plainId
abbrev Dr:=@decide_eq_decide
abbrev Ds:=@List.countP_cons
abbrev Dt:=@PySem.wpAny_richCompare_same_room
abbrev Du:=@List.getElem?_set_self
abbrev Dv:=@Int.toNat_natCast
abbrev Dw:=@List.nodup_append
abbrev Dx:=@List.filterMap_cons
abbrev Dy:=@PySem.codeAny_builtin
abbrev Dz:=@List.drop_eq_getElem_cons
abbrev Ea:=@List.pairwise_iff_getElem
abbrev Eb:=@List.lookup_cons
abbrev Ec:=@PySem.wpAny_call_entry
abbrev Ed:=@List.filterMap_cons_none
abbrev Ee:=@PySem.F.slot_list_extend
abbrev Ef:=@PySem.F.type_list_extend
abbrev Eg:=@List.getElem?_set_ne
abbrev Eh:=@PySem.codeAny_call_builtin
abbrev Ei:=@PySem.wpAny_typeNameOfWhole_keyiter
abbrev Ej:=@List.take_zero
abbrev Ek:=@PySem.wpAny_truthy_bool
abbrev El:=@List.flatMap_cons
abbrev Em:=@Option.map_some
abbrev En:=@PySem.F.slot_dict_keyiterator_next
abbrev Eo:=@beq_eq_false_iff_ne
abbrev Ep:=@List.filter_sublist
abbrev Er:=@PySem.wpAny_Call_Name_kw
abbrev Et:=@Nat.lt_of_le_of_lt
abbrev Eu:=@PySem.tupleKind_room_in1
abbrev Ew:=@List.filter_append
abbrev Ey:=@PySem.wpAny_passesOwn
abbrev Ez:=@List.length_set
abbrev Fa:=@Nat.not_lt_zero
abbrev Fb:=@PySem.codeAny_mono
abbrev Fc:=@PySem.wpAny_pyIter_list
abbrev Fd:=@Option.isSome_iff_exists
abbrev Fe:=@PySem.wpAny_getItem_str_slice
abbrev Ff:=@List.mem_flatMap
abbrev Fg:=@PySem.call_meetsIn
abbrev Fh:=@PySem.F.entry_dict_get
abbrev Fi:=@List.pairwise_lt_range
abbrev Fj:=@List.countP_eq_length_filter
abbrev Fk:=@PySem.wpAny_standAt
abbrev Fl:=@Bool.false_or
abbrev Fm:=@PySem.plainId_quiet
abbrev Fn:=@List.getElem?_eq_none
abbrev Fo:=@List.getElem?_zipWith
abbrev Fp:=@PySem.wpAny_loadPart_at
abbrev Fq:=@List.foldl_append
abbrev Fs:=@PySem.Heap.get?_none_of_le
abbrev Ft:=@PySem.wpAny_field
abbrev Fu:=@PySem.F.excBase_ValueError
abbrev Fv:=@Nat.pow_le_pow_right
abbrev Fw:=@List.getElem_inj
abbrev Fx:=@List.map_nil
abbrev Fy:=@List.getElem_map
abbrev Fz:=@Nat.sub_self
abbrev Ga:=@List.filter_cons
abbrev Gb:=@PySem.Calls.call_function_entry
abbrev Gc:=@PySem.Heap.SameBut.update
abbrev Gd:=@PyProof.Rows.listUpdate_at
abbrev Ge:=@PySem.wpAny_specialOf
abbrev Gf:=@PySem.wpAny_call
abbrev Gg:=@PySem.SeqAt.EqAt.int_int
abbrev Gh:=@PySem.Code.quiet_builtin
abbrev Gi:=@Nat.add_sub_cancel_left
abbrev Gj:=@Nat.le_succ
abbrev Gk:=@Int.le_refl
abbrev Gm:=@Nat.ne_of_gt
abbrev Gp:=@List.take_sublist
abbrev Gq:=@PySem.Calls.callWith_builtin
abbrev Gr:=@PySem.wpAny_newObj_type
abbrev Gu:=@PySem.Heap.size_push
abbrev Gv:=@PySem.AutoSeq1.sub_list_list
abbrev Gw:=@List.append_assoc
abbrev Gx:=@List.drop_eq_nil_of_le
abbrev Gy:=@List.drop_of_length_le
abbrev Gz:=@List.filter_eq_nil_iff
abbrev Ha:=@List.any_eq_true
abbrev Hb:=@Nat.min_eq_right
abbrev He:=@List.any_cons
abbrev Hf:=@PySem.wpAny_newList
abbrev Hh:=@PyProof.Rows.seqEpoch_at
namespace L2
open PySem PySem.Spec PyProof.Rows
abbrev Key:=Sum Int Str
def lK:Key->Value->Bool
 | .inl k,v=>Value.isInt k v
 | .inr x,v=>Value.isStrOf x v
def eQO (w:World):Key->Int
 | .inl k=>hashInt k
 | .inr x=>hashStr w x
theorem bX:∀ {k:Key} {v:Value},lK k v=true->(∃ i t,k=Sum.inl i/\v=Value.int i t)\/(∃ x t,k=Sum.inr x/\v=Value.str x t)
 | .inl i,v,h=>by
   obtain ⟨t,e⟩:=Value.isInt_shape (k:=i) (v:=v) h;exact .inl ⟨i,t,rfl,e⟩
 | .inr x,v,h=>by
   obtain ⟨t,e⟩:=Value.isStrOf_shape (x:=x) (v:=v) h;exact .inr ⟨x,t,rfl,e⟩
theorem bQA (i:Int) (t:Tok):lK (.inl i) (.int i t)=true:=by simp [lK,Value.isInt]
theorem aJ7 (x:Str) (t:Tok):lK (.inr x) (.str x t)=true:=by simp [lK,Value.isStrOf]
theorem dZQ (a b:Int):decide ((Sum.inl a:Key)=Sum.inl b)=(a == b):=by
 by_cases e:a=b
 · subst e; simp
 · have h:¬ (Sum.inl a:Key)=Sum.inl b:=λq=>e (Sum.inl.inj q)
   rw [Am h];exact (Eo.mpr e).symm
theorem dJC (a b:Str):decide ((Sum.inr a:Key)=Sum.inr b)=decide (a=b):=by
 by_cases e:a=b
 · subst e; simp
 · have h:¬ (Sum.inr a:Key)=Sum.inr b:=λq=>e (Sum.inr.inj q)
   rw [Am h,Am e]
theorem dXJ (a:Int) (b:Str):decide ((Sum.inl a:Key)=Sum.inr b)=false:=Am (λq=>nomatch q)
theorem dJH (a:Str) (b:Int):decide ((Sum.inr a:Key)=Sum.inl b)=false:=Am (λq=>nomatch q)
def bE (prog:Program) (w:World):PySem.KeyKind prog w Key where
 is:=lK
 hash:=eQO w
 inj:=λv a b ha hb=>by
   rcases bX ha with ⟨i,t,rfl,rfl⟩ | ⟨x,t,rfl,rfl⟩
   · rcases bX hb with ⟨j,u,rfl,e⟩ | ⟨y,u,rfl,e⟩
     · injection e with e1 _; rw [e1]
     · exact nomatch e
   · rcases bX hb with ⟨j,u,rfl,e⟩ | ⟨y,u,rfl,e⟩
     · exact nomatch e
     · injection e with e1 _; rw [e1]
 byValue:=λk v h=>by
   rcases bX h with ⟨i,t,rfl,rfl⟩ | ⟨x,t,rfl,rfl⟩ <;> rfl
 pyHash:=λhv h=>by
   rcases bX hv with ⟨i,t,rfl,rfl⟩ | ⟨x,t,rfl,rfl⟩
   · exact wpAny_pyHash_int h
   · exact wpAny_pyHash_str h
 eqBool:=λhu hv h=>by
   rcases bX hu with ⟨i,t,rfl,rfl⟩ | ⟨x,t,rfl,rfl⟩
   · rcases bX hv with ⟨j,u,rfl,rfl⟩ | ⟨y,u,rfl,rfl⟩
     · rw [dZQ] at h; exact wpAny_eqBool_int h
     · rw [dXJ] at h; exact SeqAt.EqAt.int_str i t y u _ _ _ _ h
   · rcases bX hv with ⟨j,u,rfl,rfl⟩ | ⟨y,u,rfl,rfl⟩
     · rw [dJH] at h; exact SeqAt.EqAt.str_int x t j u _ _ _ _ h
     · rw [dJC] at h; exact wpAny_eqBool_str h
 «strs» := λk x t v h=>by
   rcases bX h with ⟨i,u,rfl,e⟩ | ⟨y,u,rfl,e⟩
   · exact nomatch e
   · injection e with e1 _
     subst e1;cases v <;> rfl
theorem yE (prog:Program) (w:World) (i:Int) (t:Tok):(bE prog w).is (.inl i) (.int i t)=true:=bQA i t
theorem xY (prog:Program) (w:World) (x:Str) (t:Tok):(bE prog w).is (.inr x) (.str x t)=true:=aJ7 x t
end L2
namespace L2
open PySem PySem.Spec PyProof.Rows
inductive V where
 | non | bl (b:Bool) | int (i:Int) | str (x:Str) | byt (b:Array UInt8) | flt (b:UInt64) | ref (a:Addr) | ty (n:String)
 deriving DecidableEq
def RelV:V->Value->Prop
 | .non,u=>u=Value.none
 | .bl b,u=>u=Value.bool b
 | .int i,u=>∃ t,u=Value.int i t
 | .str x,u=>∃ t,u=Value.str x t
 | .byt b,u=>∃ t,u=Value.bytes b t
 | .flt b,u=>∃ t,u=Value.float b t
 | .ref a,u=>u=Value.ref a
 | .ty n,u=>u=Value.type n
abbrev Vals:List V->List Value->Prop:=Paired RelV
theorem Vals.length {xs:List V} {us:List Value} (r:Vals xs us):xs.length=us.length:=Paired.length r
theorem Vals.get:∀ {xs:List V} {us:List Value} {i:Nat} {x:V},Vals xs us->xs[i]?=some x->∃ u,us[i]?=some u/\RelV x u
 | _,_,_,_,.nil,e=>by simp at e
 | _,_,0,_,.cons r _,e=>by simp at e; subst e; exact ⟨_,rfl,r⟩
 | _,_,i+1,x,.cons _ t,e=>by
   obtain ⟨u,h1,h2⟩:=Vals.get (i:=i) (x:=x) t (by simpa using e)
   exact ⟨u,by simpa using h1,h2⟩
theorem Vals.set {x:V} {u:Value} (r:RelV x u):∀ {xs:List V} {us:List Value} (i:Nat),Vals xs us->Vals (xs.set i x) (us.set i u)
 | _,_,_,.nil=>.nil
 | _,_,0,.cons _ t=>.cons r t
 | _,_,i+1,.cons q t=>.cons q (Vals.set r i t)
theorem Vals.append:∀ {xs ys:List V} {us ws:List Value},Vals xs us->Vals ys ws->Vals (xs++ys) (us++ws)
 | _,_,_,_,.nil,s=>s
 | _,_,_,_,.cons r t,s=>.cons r (Vals.append t s)
theorem Vals.take:∀ {xs:List V} {us:List Value} (n:Nat),Vals xs us->Vals (xs.take n) (us.take n)
 | _,_,0,_=>.nil
 | _,_,_+1,.nil=>.nil
 | _,_,n+1,.cons r t=>.cons r (Vals.take n t)
theorem Vals.drop:∀ {xs:List V} {us:List Value} (n:Nat),Vals xs us->Vals (xs.drop n) (us.drop n)
 | _,_,0,r=>r
 | _,_,_+1,.nil=>.nil
 | _,_,n+1,.cons _ t=>Vals.drop n t
def RelO:Option V->Option Value->Prop
 | some v,some u=>RelV v u
 | none,none=>True
 | _,_=>False
def KV {κ:Type}:List (κ×V)->List (κ×Value)->Prop:=Paired λ(p:κ×V) (q:κ×Value)=>p.1=q.1/\RelV p.2 q.2
def kV:Key->V
 | .inl i=>.int i
 | .inr x=>.str x
inductive HO where
   | lst (xs:List V)
   | tup (xs:List V)
   | dK (kvs:List (Key×V)) | dT (kvs:List (List Key×V))
   | set (S:Int->Bool) (n:Nat)
   | ins (C dx:Addr) (fs:List (Str×V))
   | own (x:Addr)
   | xd (fs:List (Str×V))
   | met (f x:Addr)
   | rng (lo hi:Int)
   | frz (o:Obj) (u:HO)
   | tbl (ps:Array Value)
   | ext (φ:Heap->Prop)
abbrev Hp:=Addr->Option HO
def upd (H:Hp) (a:Addr) (o:HO):Hp:=λb=>if b=a then some o else H b
theorem aD {H:Hp} {a:Addr} {o:HO}:upd H a o a=some o:=by unfold upd; rw [if_pos rfl]
theorem aK {H:Hp} {a b:Addr} {o:HO} (h:b≠a):upd H a o b=H b:=by unfold upd; rw [if_neg h]
theorem aZ6 {H:Hp} {a:Addr} {o u:HO}:upd (upd H a o) a u=upd H a u:=by
 funext b; unfold upd; split <;> rfl
theorem eXM {H:Hp} {a b:Addr} {o u:HO} (h:H a=some o) (h':H b=some u) (d:o≠u):a≠b:=by
 intro e; subst e; rw [h] at h'; exact d (Bo h')
theorem bL {H:Hp} {a b:Addr} {o:HO} (h:H a=some o) (h':H b=none):a≠b:=by
 intro e; subst e; rw [h] at h'; cases h'
section
variable (P:Program) (w:World)
def ObjOk (H:Hp) (h:Heap) (a:Addr):HO->Prop
 | .lst xs=>xs.length<=sizeLine/\∃ (its:List Value) (n:Nat),Vals xs its/\h.get? a=some { cls:=.type "list",data:=.seq its.toArray n }
 | .tup xs=>xs.length<=sizeLine/\∃ its:List Value,Vals xs its/\IsTup h a its.toArray
 | .dK kvs=>kvs.length<=sizeLine/\(a == sysModules)=false/\∃ vs,KV kvs vs/\h.DictOf (bE P w) a vs
 | .dT kvs=>kvs.length<=sizeLine/\(a == sysModules)=false/\∃ xs:List (List Key×Addr×Value),
     Paired (λ(p:List Key×V) (q:List Key×Addr×Value)=>p.1=q.1/\H q.2.1=some (.tup (p.1.map kV))/\RelV p.2 q.2.2) kvs xs/\
     ∃ o es ep,h.get? a=some o/\o.ExactDict/\o.data=.dict es ep/\es.toList=xs.map (entryOfKey (tupleKind (bE P w)))/\(xs.map (·.1)).Nodup
 | .set S n=>h.SetOf (intKind P w) a S n
 | .ins C dx fs=>H dx=some (.own a)/\fs.length<=1000/\dx≠a/\h.get? a=some (PySem.W.instObj C dx)/\
     ∃ mA,h.Ns1 dx mA/\(∀ f,RelO (fs.lookup f) (mA f))/\PySem.Within mA (fs.map (·.1))
 | .own _=>∃ o,h.get? a=some o
 | .xd fs=>∃ mA,h.Ns1 a mA/\∀ f,RelO (fs.lookup f) (mA f)
 | .rng lo hi=>∃ t u v,h.get? a=some { cls:=.type "range",data:=.fields #[.int lo t,.int hi u,.int 1 v] }
 | .frz o u=>h.get? a=some o/\ObjOk H h a u
 | .tbl ps=>h.get? a=some { cls:=.none,data:=.fields ps }
 | .met f x=>h.get? a=some (PySem.W.methodObj (.ref f) (.ref x))
 | .ext φ=>φ h/\(∃ o,h.get? a=some o)/\∀ h1 h2:Heap,φ h1->(∀ o,h1.get? a=some o->h2.get? a=some o)->φ h2
def HOk (H:Hp) (h:Heap):Prop:=∀ a o,H a=some o->ObjOk P w H h a o
end
section
variable {P:Program} {w:World} {H H':Hp} {h h':Heap} {a:Addr} {o:HO}
theorem ObjOk.lt (x:ObjOk P w H h a o):a<h.objs.size:=by
 cases o with
 | lst xs=>obtain ⟨_,_,_,_,e⟩:=x; exact Ar e
 | tup xs=>obtain ⟨_,_,_,p⟩:=x; exact p.lt
 | dK kvs=>obtain ⟨_,_,_,_,o,_,_,e,_⟩:=x; exact Ar e
 | dT kvs=>obtain ⟨_,_,_,_,o,_,_,e,_⟩:=x; exact Ar e
 | set S n=>obtain ⟨o,_,_,_,e,_⟩:=x; exact Ar e
 | ins C dx fs=>obtain ⟨_,_,_,e,_⟩:=x; exact Ar e
 | own y=>obtain ⟨_,e⟩:=x; exact Ar e
 | xd fs=>obtain ⟨_,⟨_,_,_,e,_⟩,_⟩:=x; exact Ar e
 | rng lo hi=>obtain ⟨_,_,_,e⟩:=x; exact Ar e
 | frz ob u=>obtain ⟨e,_⟩:=x; exact Ar e
 | tbl ps=>exact Ar (show h.get? a=some _ from x)
 | met f y=>exact Ar (show h.get? a=some _ from x)
 | ext φ=>obtain ⟨_,⟨_,e⟩,_⟩:=x; exact Ar e
theorem Paired.mapP {α β:Type} {F G:α->β->Prop}:∀ {l₁:List α} {l₂:List β},Paired F l₁ l₂->(∀ a b,F a b->G a b)->Paired G l₁ l₂
 | _,_,.nil,_=>.nil
 | _,_,.cons r t,f=>.cons (f _ _ r) (Paired.mapP t f)
theorem ObjOk.stay (x:ObjOk P w H h a o) (k:∀ b u,(b=a\/H b=some (.own a))->h.get? b=some u->h'.get? b=some u)
   (ho:∀ b,H b=some (.own a)->H' b=some (.own a)) (ht:∀ b xs,H b=some (.tup xs)->H' b=some (.tup xs)):ObjOk P w H' h' a o:=by
 induction o with
 | lst xs=>obtain ⟨z,its,n,r,e⟩:=x; exact ⟨z,its,n,r,k _ _ (.inl rfl) e⟩
 | tup xs=>obtain ⟨z,its,r,ob,e,c⟩:=x; exact ⟨z,its,r,ob,k _ _ (.inl rfl) e,c⟩
 | dK kvs=>obtain ⟨z,y,vs,r,ob,es,ep,e,c⟩:=x; exact ⟨z,y,vs,r,ob,es,ep,k _ _ (.inl rfl) e,c⟩
 | dT kvs=>
   obtain ⟨z,y,xs,r,ob,es,ep,e,c⟩:=x;exact ⟨z,y,xs,Paired.mapP r λp q z=>⟨z.1,ht _ _ z.2.1,z.2.2⟩,ob,es,ep,k _ _ (.inl rfl) e,c⟩
 | set S n=>obtain ⟨ob,es,ep,t,e,c⟩:=x; exact ⟨ob,es,ep,t,k _ _ (.inl rfl) e,c⟩
 | ins C dx fs=>
   obtain ⟨d,z,ne,e,mA,⟨od,es,ep,e2,c⟩,r⟩:=x;exact ⟨ho _ d,z,ne,k _ _ (.inl rfl) e,mA,⟨od,es,ep,k _ _ (.inr d) e2,c⟩,r⟩
 | own y=>obtain ⟨ob,e⟩:=x; exact ⟨ob,k _ _ (.inl rfl) e⟩
 | xd fs=>obtain ⟨mA,⟨od,es,ep,e,c⟩,r⟩:=x; exact ⟨mA,⟨od,es,ep,k _ _ (.inl rfl) e,c⟩,r⟩
 | rng lo hi=>obtain ⟨t,u,v,e⟩:=x; exact ⟨t,u,v,k _ _ (.inl rfl) e⟩
 | frz ob u ih=>obtain ⟨e,q⟩:=x; exact ⟨k _ _ (.inl rfl) e,ih q⟩
 | tbl ps=>
   have e:h.get? a=some { cls:=.none,data:=.fields ps }:=x
   show h'.get? a=some { cls:=.none,data:=.fields ps }
   exact k a _ (.inl rfl) e
 | met f y=>
   have e:h.get? a=some (PySem.W.methodObj (.ref f) (.ref y)):=x
   show h'.get? a=some (PySem.W.methodObj (.ref f) (.ref y))
   exact k a _ (.inl rfl) e
 | ext φ=>obtain ⟨p,⟨o,e⟩,st⟩:=x; exact ⟨st _ _ p λo q=>k _ _ (.inl rfl) q,⟨o,k _ _ (.inl rfl) e⟩,st⟩
theorem HOk.lt (x:HOk P w H h) (e:H a=some o):a<h.objs.size:=(x a o e).lt
theorem HOk.fresh (x:HOk P w H h) (e:h.objs.size<=a):H a=none:=by
 cases q:H a with
 | none=>rfl
 | some u=>exact absurd (Bh (x.lt q) e) (Di _)
theorem HOk.kept (x:HOk P w H h) (k:∀ b u,h.get? b=some u->h'.get? b=some u):HOk P w H h':=λa o e=>
 (x a o e).stay (λb u _ q=>k b u q) (λ_ q=>q) λ_ _ q=>q
theorem HOk.laid (x:HOk P w H h) (k:∀ b u,h.get? b=some u->h'.get? b=some u) (hp:h.objs.size<=a) (new:ObjOk P w (upd H a o) h' a o):HOk P w (upd H a o) h':=λb u e=>by
 have hn:=x.fresh hp
 by_cases hb:b=a
 · subst hb; rw [aD] at e; cases e; exact new
 · rw [aK hb] at e;exact (x b u e).stay (λc v _ q=>k c v q) (λc q=>by rw [aK (bL q hn)]; exact q) λc xs q=>by rw [aK (bL q hn)]; exact q
end
def Rd (H:Hp) (a:Addr) (u:HO):Prop:=H a=some u\/∃ o,H a=some (.frz o u)
theorem Rd.ok {P:Program} {w:World} {H:Hp} {h:Heap} {a:Addr} {u:HO} (r:Rd H a u) (x:HOk P w H h):ObjOk P w H h a u:=by
 rcases r with r | ⟨o,r⟩
 · exact x a u r
 · obtain ⟨_,q⟩:=x a _ r;exact q
def Mut:Option HO->Prop
 | some (.lst _)=>True
 | some (.dK _)=>True
 | some (.dT _)=>True
 | some (.set _ _)=>True
 | some (.ins _ _ _)=>True
 | some (.ext _)=>True
 | _=>False
section
variable {P:Program} {w:World} {H:Hp} {h h':Heap} {x e:Addr} {o':HO}
theorem HOk.write (ok:HOk P w H h) (mu:Mut (H x)) (he:e=x\/H e=some (.own x)) (k:∀ b u,b≠e->h.get? b=some u->h'.get? b=some u) (heo:∃ u,h'.get? e=some u)
   (new:ObjOk P w (upd H x o') h' x o'):HOk P w (upd H x o') h':=λb u q=>by
 have nown:∀ c y,H c=some (.own y)->c≠x:=λc y r z=>by subst z; rw [r] at mu; exact mu
 have ntup:∀ c xs,H c=some (.tup xs)->c≠x:=λc xs r z=>by subst z; rw [r] at mu; exact mu
 by_cases hb:b=x
 · subst hb; rw [aD] at q; cases q; exact new
 · rw [aK hb] at q;by_cases hbe:b=e
   · have q':H b=some (.own x):=by
       rcases he with z | z
       · exact absurd (hbe.trans z) hb
       · rw [hbe]; exact z
     rw [q] at q'; cases q';obtain ⟨v,hv⟩:=heo;exact ⟨v,by rw [hbe]; exact hv⟩
   · refine (ok b u q).stay (λc v hc r=>k c v ?_ r) (λc r=>by rw [aK (nown c b r)]; exact r) λc xs r=>by rw [aK (ntup c xs r)]; exact r
     rcases hc with rfl | hc
     · exact hbe
     · rintro rfl;rcases he with z | z
       · exact nown c b hc z
       · rw [hc] at z; cases z; exact hb rfl
end
structure Un (fs ex:List Addr) (H H':Hp) (h h':Heap):Prop where
 keep:∀ b o,h.get? b=some o->H b=none->b ∉ fs->b ∉ ex->h'.get? b=some o
 slot:∀ b o,h.get? b=some o->H b=none->b ∈ fs->b ∉ ex->∃ sl,h'.get? b=some { o with slots:=sl }
 free:∀ b o,h.get? b=some o->H b=none->b ∉ ex->H' b=none
 there:∀ b o,h.get? b=some o->b ∉ ex->∃ o',h'.get? b=some o'
 tups:∀ b xs,H b=some (.tup xs)->H' b=some (.tup xs)
 frzs:∀ b o u,H b=some (.frz o u)->H' b=some (.frz o u)
 tbls:∀ b ps,H b=some (.tbl ps)->∃ more,H' b=some (.tbl (ps++more))
section
variable {fs fs' ex ex':List Addr} {H H1 H2:Hp} {h h1 h2 h':Heap} {a x e:Addr} {o:HO}
theorem Un.any (u:Un fs ex H H1 h h1) {b:Addr} {ob:Obj} (q:h.get? b=some ob) (n:H b=none) (hx:b ∉ ex):∃ sl,h1.get? b=some { ob with slots:=sl }:=by
 by_cases hb:b∈fs
 · exact u.slot b ob q n hb hx
 · exact ⟨ob.slots,u.keep b ob q n hb hx⟩
theorem Un.trans (a:Un fs ex H H1 h h1) (b:Un fs ex H1 H2 h1 h2):Un fs ex H H2 h h2 where
 keep:=λc ob q n hc hx=>b.keep c ob (a.keep c ob q n hc hx) (a.free c ob q n hx) hc hx
 slot:=λc ob q n hc hx=>by
   obtain ⟨sl,e1⟩:=a.slot c ob q n hc hx;obtain ⟨sl',e2⟩:=b.slot c _ e1 (a.free c ob q n hx) hc hx;exact ⟨sl',e2⟩
 free:=λc ob q n hx=>by
   obtain ⟨o',e1⟩:=a.there c ob q hx;exact b.free c o' e1 (a.free c ob q n hx) hx
 there:=λc ob q hx=>by
   obtain ⟨o',e1⟩:=a.there c ob q hx;exact b.there c o' e1 hx
 tups:=λc xs q=>b.tups c xs (a.tups c xs q)
 frzs:=λc ob xs q=>b.frzs c ob xs (a.frzs c ob xs q)
 tbls:=λc ps q=>by
   obtain ⟨m1,e1⟩:=a.tbls c ps q;obtain ⟨m2,e2⟩:=b.tbls c _ e1;exact ⟨m1++m2,by rw [e2,Array.append_assoc]⟩
theorem Un.kept (k:∀ b u,h.get? b=some u->h'.get? b=some u):Un fs ex H H h h' :=
 ⟨λb ob q _ _ _=>k b ob q,λb ob q _ _ _=>⟨ob.slots,k b ob q⟩,λ_ _ _ n _=>n,λb ob q _=>⟨ob,k b ob q⟩,λ_ _ q=>q,λ_ _ _ q=>q,λ_ ps q=>⟨#[],by rw [q]; simp⟩⟩
theorem Un.refl:Un fs ex H H h h:=Un.kept λ_ _ q=>q
theorem Un.laid (k:∀ b u,h.get? b=some u->h'.get? b=some u) (hp:h.objs.size<=a) (hn:H a=none):Un fs ex H (upd H a o) h h' where
 keep:=λb u q _ _ _=>k b u q
 slot:=λb u q _ _ _=>⟨u.slots,k b u q⟩
 free:=λb u q n _=>by rw [aK (Bi (Bh (Ar q) hp))]; exact n
 there:=λb u q _=>⟨u,k b u q⟩
 tups:=λb xs q=>by rw [aK (bL q hn)]; exact q
 frzs:=λb u xs q=>by rw [aK (bL q hn)]; exact q
 tbls:=λb ps q=>⟨#[],by rw [aK (bL q hn),q]; simp⟩
theorem Un.write (mu:Mut (H x)) (he:e=x\/H e=some (.own x)) (k:∀ b u,b≠e->h.get? b=some u->h'.get? b=some u) (heo:∃ u,h'.get? e=some u):Un fs ex H (upd H x o) h h':=by
 have hx:∀ b,H b=none->b≠x:=λb n z=>by subst z; rw [n] at mu; exact mu
 have hb:∀ b,H b=none->b≠e:=λb n z=>by
   subst z;rcases he with r | r
   · exact hx b n r
   · rw [n] at r; cases r
 have hm:∀ b u,H b=some u->¬ Mut (some u)->b≠x:=λb u q nm z=>by subst z; rw [q] at mu; exact nm mu
 refine ⟨λb u q n _ _=>k b u (hb b n) q,λb u q n _ _=>⟨u.slots,k b u (hb b n) q⟩,λb u q n _=>by rw [aK (hx b n)]; exact n,λb u q _=>?_,
   λb xs q=>by rw [aK (hm b _ q λz=>z)]; exact q,λb u xs q=>by rw [aK (hm b _ q λz=>z)]; exact q,λb ps q=>⟨#[],by rw [aK (hm b _ q λz=>z),q]; simp⟩⟩
 by_cases hbe:b=e
 · subst hbe; exact heo
 · exact ⟨u,k b u hbe q⟩
theorem Un.mono (u:Un fs ex H H1 h h1) (hs:∀ b∈fs,b∈fs') (hx:∀ b∈ex,b∈ex'):Un fs' ex' H H1 h h1 :=
 ⟨λb ob q n hb he=>u.keep b ob q n (λz=>hb (hs b z)) λz=>he (hx b z),λ_ _ q n _ he=>u.any q n λz=>he (hx _ z),λb ob q n he=>u.free b ob q n λz=>he (hx b z),λb ob q he=>u.there b ob q λz=>he (hx b z),u.tups,u.frzs,u.tbls⟩
end
def trk (h:Heap) (H:Hp):List Addr:=(List.range h.objs.size).filter λa=>(H a).isSome
def vX (h:Heap) (H:Hp):Heap:=PySem.W.hideAll h (trk h H)
theorem aJF (h:Heap) (H:Hp):(vX h H).objs.size=h.objs.size:=PySem.W.hideAll_size _ _
theorem bXJ {h:Heap} {H:Hp} {b:Addr} {o:Obj} (e:h.get? b=some o) (n:H b=none):(vX h H).get? b=some o :=
 PySem.W.hideAll_get _ e λhm=>by
   have q:(H b).isSome=true:=(Da.mp hm).2
   rw [n] at q; simp at q
theorem cJC {h:Heap} {H:Hp} {b:Addr} {o:Obj} (e:(vX h H).get? b=some o):h.get? b=some o/\H b=none:=by
 have e':h.get? b=some o:=PySem.W.of_hideAll (trk h H) e
 refine ⟨e',?_⟩;cases q:H b with
 | none=>rfl
 | some x=>
   have hm:b∈trk h H:=List.mem_filter.mpr ⟨List.mem_range.mpr (Heap.lt_size e'),by simp [q]⟩
   have z:(vX h H).get? b=none:=PySem.W.hideAll_none (trk h H) hm
   rw [z] at e; cases e
end L2
namespace L2
open PySem PySem.Spec PyProof.Rows
structure Mod (K:PySem.W.Frag) (mg:Str->Option Value) (base:Heap):Prop where
 kin:K.In base
 glob:base.Ns mainGlobals mg
 blt:∃ mb,base.Ns builtinsNs mb/\∀ x:Str,x≠"__name__"->mb x=bootBuiltins x
 nolimit:base.NoLimit
structure Cx where
 prog:Program
 w:World
 K:PySem.W.Frag
 mg:Str->Option Value
 base:Heap
 A:Around
 N:List Str
 s₀:Shared
 H₀:Hp
 env:Env
 outer:List Env
 stack:List Env
 ex:List Addr
 fn:Str->Bool
 calm:Bool
 pn:List (Addr×Obj)
 xe:Value->Shared->Prop
def frs (l:List Env):List Addr:=l.filterMap (·.frame)
abbrev Cx.fs (X:Cx):List Addr:=frs X.outer
def Vis (sc:Scope) (x:Str):Prop:=sc.names.lookup x=some .local\/sc.names.lookup x=some .cell\/sc.names.lookup x=some .free
def Loc (sc:Scope) (x:Str):Prop:=sc.names.lookup x=some .local\/sc.names.lookup x=some .cell
def eZD (env:Env) (h:Heap) (m:Str->Option Value) (x:Str) (u:Value):Prop :=
 (env.kindOf x=some .local/\m x=some u)\/((env.kindOf x=some .cell\/env.kindOf x=some .free)/\∃ c,env.cells.lookup x=some c/\h.IsCell c (some u))
structure Cx.Ok (X:Cx):Prop where
 mod:Mod X.K X.mg X.base
 kind:X.env.scope.kind=.function
 glob:X.env.globals=mainGlobals
 blt:X.env.builtins=builtinsNs
 above:X.s₀.heap.objs.size<=X.env.locals
 inj:∀ x y c,X.env.cells.lookup x=some c->X.env.cells.lookup y=some c->x=y
 has:∀ x,(X.env.kindOf x=some .cell\/X.env.kindOf x=some .free)->∃ c,X.env.cells.lookup x=some c
 cab:∀ x c,X.fn x=true->X.env.cells.lookup x=some c->X.s₀.heap.objs.size<=c
 hd:X.calm=true->X.A.handled=none
 frames:X.A.frames=some X.stack
 stk:X.stack=X.outer\/(X.stack=X.env::X.outer/\X.env.frame=some X.env.locals)
 exf:∀ b∈X.ex,b≠X.env.locals/\∀ x c,X.env.cells.lookup x=some c->c≠b
 bs:∀ b o,X.base.get? b=some o->X.s₀.heap.get? b=some o/\X.H₀ b=none
 bsz:X.base.objs.size<=X.s₀.heap.objs.size
 noex:∀ b o,X.base.get? b=some o->b ∉ X.ex
 exfs:∀ b ∈ X.ex,b ∉ X.fs
 funs:X.s₀.heap.FunFrames X.base X.outer
 frf:∀ b∈X.fs,X.H₀ b=none
structure Inv (X:Cx) (pins:List (Addr×Obj)) (σ:List (Option V)) (H:Hp) (s:Shared):Prop where
 ok:X.Ok
 os:s.os=X.s₀.os
 bare:AllBare s.gens
 base:Un X.fs X.ex X.H₀ H X.s₀.heap s.heap
 loc:∃ m,s.heap.Ns X.env.locals m/\∀ (i:Nat) (x:Str) (v:V),X.N[i]?=some x->σ[i]?=some (some v)->Vis X.env.scope x->∃ u,RelV v u/\eZD X.env s.heap m x u
 cell:∀ x c,X.env.cells.lookup x=some c->∃ v,s.heap.IsCell c v
 free:H X.env.locals=none
 freeC:∀ x c,X.env.cells.lookup x=some c->H c=none
 pin:∀ p ∈ X.pn++pins,s.heap.get? p.1=some p.2/\H p.1=none/\p.1≠X.env.locals/\p.1 ∉ X.fs/\∀ v,p.2.data≠.cell v
 hok:HOk X.prog X.w H s.heap
 len:σ.length=X.N.length
section
variable {X:Cx} {pins:Q2} {σ:List (Option V)} {H H':Hp} {s:Shared} {h':Heap}
theorem Cx.Ok.nofr (ok:X.Ok) {b:Addr} {o:Obj} (e:X.base.get? b=some o):b ∉ X.fs:=λhb=>by
 have:=(ok.funs.mem hb).1
 rw [e] at this; cases this
theorem Inv.bs (I:Inv X pins σ H s):∀ b o,X.base.get? b=some o->s.heap.get? b=some o/\H b=none:=λb o e=>
 ⟨I.base.keep b o (I.ok.bs b o e).1 (I.ok.bs b o e).2 (I.ok.nofr e) (I.ok.noex b o e),I.base.free b o (I.ok.bs b o e).1 (I.ok.bs b o e).2 (I.ok.noex b o e)⟩
theorem Inv.bk (I:Inv X pins σ H s):∀ b o,X.base.get? b=some o->s.heap.get? b=some o:=λb o e=>(I.bs b o e).1
theorem Inv.mod (I:Inv X pins σ H s):Mod X.K X.mg X.base:=I.ok.mod
theorem Inv.kIn (I:Inv X pins σ H s):X.K.In s.heap:=I.ok.mod.kin.keeps I.bk
theorem Inv.fr (I:Inv X pins σ H s):∃ m,Fr X.base X.env.locals s.heap m :=
 let ⟨m,hn,_⟩:=I.loc
 ⟨m,hn,I.bk,Bc I.ok.bsz I.ok.above⟩
theorem Inv.lt (I:Inv X pins σ H s):X.env.locals<s.heap.objs.size:=let ⟨_,hn,_⟩:=I.loc; hn.lt
theorem Inv.sz (I:Inv X pins σ H s):X.s₀.heap.objs.size<=s.heap.objs.size:=Bc I.ok.above (De I.lt)
theorem Inv.nofs (I:Inv X pins σ H s) {a:Addr} (h:s.heap.objs.size<=a):a ∉ X.fs:=λhb=>by
 obtain ⟨_,o,ho,_⟩:=I.ok.funs.mem hb;exact absurd (Bh (Ar ho) (Bc I.sz h)) (Di _)
theorem Inv.cne (I:Inv X pins σ H s):∀ x c,X.env.cells.lookup x=some c->c≠X.env.locals:=λx c e z=>by
 obtain ⟨v,o,ho,hd⟩:=I.cell x c e;obtain ⟨m,⟨o',es,ep,ho',hd',_⟩,_⟩:=I.loc;rw [z,ho'] at ho; cases ho; rw [hd'] at hd; cases hd
theorem Inv.funs (I:Inv X pins σ H s):s.heap.FunFrames X.base X.outer:=by
 have all:∀ (l:List Env),(∀ b∈frs l,b∈X.fs)->X.s₀.heap.FunFrames X.base l->s.heap.FunFrames X.base l:=by
   intro l;induction l with
   | nil=>intro _ _; trivial
   | cons env r ih=>
     intro hs hl;obtain ⟨hk,⟨L,o,hf,hn,ho,hd⟩,hr⟩:=hl;have hL:L∈X.fs:=hs L (by unfold frs; rw [Dx,hf]; exact As)
     obtain ⟨sl,e⟩:=I.base.slot L o ho (I.ok.frf L hL) hL λz=>I.ok.exfs L z hL;exact ⟨hk,⟨L,_,hf,hn,e,hd⟩,ih (λb hb=>hs b (by unfold frs; rw [Dx,hf]; exact Ao _ hb)) hr⟩
 exact all X.outer (λ_ hb=>hb) I.ok.funs
theorem Inv.stack (I:Inv X pins σ H s):s.heap.FunFrames X.base X.stack:=by
 rcases I.ok.stk with e | ⟨e,hf⟩
 · rw [e]; exact I.funs
 · rw [e];obtain ⟨m,hn,_⟩:=I.loc;refine .cons (by rw [I.ok.kind]; decide) hf hn ?_ I.funs
   exact Fs (Bc I.ok.bsz I.ok.above)
theorem Inv.stkSub (I:Inv X pins σ H s):∀ b∈frs X.stack,b∈X.env.locals::X.fs:=λb hb=>by
 rcases I.ok.stk with e | ⟨e,hf⟩
 · rw [e] at hb; exact Ao _ hb
 · rw [e] at hb;unfold frs at hb;rw [Dx,hf] at hb;exact hb
theorem Inv.stkFree (I:Inv X pins σ H s):∀ b∈frs X.stack,H b=none:=λb hb=>by
 rcases Bd.mp (I.stkSub b hb) with e | hb
 · rw [e]; exact I.free
 · obtain ⟨_,o,ho,_⟩:=I.ok.funs.mem hb;exact I.base.free b o ho (I.ok.frf b hb) λz=>I.ok.exfs b z hb
theorem Inv.step {g':Array GenState} {t':Nat} {d':Drawn} {ch:List Addr} (I:Inv X pins σ H s)
   (hch:∀ b∈ch,(b∈X.ex\/X.s₀.heap.objs.size<=b)/\b≠X.env.locals/\(∀ x c,X.env.cells.lookup x=some c->c≠b)/\∀ p∈X.pn++pins,p.1≠b)
   (keep:∀ b o,b≠X.env.locals->b ∉ X.fs->b ∉ ch->s.heap.get? b=some o->H b=none->h'.get? b=some o)
   (slot:∀ b o,b≠X.env.locals->b ∈ X.fs->b ∉ ch->s.heap.get? b=some o->H b=none->∃ sl,h'.get? b=some { o with slots:=sl }) (free:∀ b o,b ∉ ch->s.heap.get? b=some o->H b=none->H' b=none)
   (there:∀ b o,b ∉ ch->s.heap.get? b=some o->∃ o',h'.get? b=some o')
   (tups:∀ b xs,H b=some (.tup xs)->H' b=some (.tup xs)) (frzs:∀ b o u,H b=some (.frz o u)->H' b=some (.frz o u)) (tbls:∀ b ps,H b=some (.tbl ps)->∃ more,H' b=some (.tbl (ps++more)))
   (ns:∀ m,s.heap.Ns X.env.locals m->h'.Ns X.env.locals m) (hok:HOk X.prog X.w H' h') (hg:AllBare g') :
   Inv X pins σ H' { s with heap:=h',gens:=g',drawn:=d',toks:=t' }:=by
 have neL:∀ b o,X.s₀.heap.get? b=some o->b≠X.env.locals:=λb o e=>Bi (Bh (Ar e) I.ok.above)
 have neC:∀ b o,X.s₀.heap.get? b=some o->b ∉ X.ex->b ∉ ch:=λb o e hx hb=>by
   rcases (hch b hb).1 with z | z
   · exact hx z
   · exact absurd (Bh (Ar e) z) (Di _)
 have cellK:∀ x c,X.env.cells.lookup x=some c->∀ v,s.heap.IsCell c v->h'.IsCell c v:=λx c e v ⟨o,ho,hd⟩=>by
   have nch:c ∉ ch:=λz=>(hch c z).2.2.1 x c e rfl
   by_cases hc:c∈X.fs
   · obtain ⟨sl,q⟩:=slot c o (I.cne x c e) hc nch ho (I.freeC x c e);exact ⟨_,q,hd⟩
   · exact ⟨o,keep c o (I.cne x c e) hc nch ho (I.freeC x c e),hd⟩
 refine ⟨I.ok,I.os,hg,⟨λb o e n hb hx=>?_,λb o e n hb hx=>?_,λb o e n hx=>?_,λb o e hx=>?_,λb xs e=>tups b xs (I.base.tups b xs e),λb o xs e=>frzs b o xs (I.base.frzs b o xs e),λb ps e=>?_⟩,?_,λx c e=>?_,?_,λx c e=>?_,λp hp=>?_,hok,I.len⟩
 · exact keep b o (neL b o e) hb (neC b o e hx) (I.base.keep b o e n hb hx) (I.base.free b o e n hx)
 · obtain ⟨sl,e1⟩:=I.base.slot b o e n hb hx;obtain ⟨sl',e2⟩:=slot b _ (neL b o e) hb (neC b o e hx) e1 (I.base.free b o e n hx);exact ⟨sl',e2⟩
 · obtain ⟨o',e1⟩:=I.base.there b o e hx;exact free b o' (neC b o e hx) e1 (I.base.free b o e n hx)
 · obtain ⟨o',e1⟩:=I.base.there b o e hx;exact there b o' (neC b o e hx) e1
 · obtain ⟨m1,e1⟩:=I.base.tbls b ps e;obtain ⟨m2,e2⟩:=tbls b _ e1;exact ⟨m1++m2,by rw [e2,Array.append_assoc]⟩
 · obtain ⟨m,hn,hl⟩:=I.loc;refine ⟨m,ns m hn,λi x v e1 e2 e3=>?_⟩;obtain ⟨u,r,l⟩:=hl i x v e1 e2 e3;refine ⟨u,r,?_⟩;rcases l with l | ⟨k,c,e,z⟩
   · exact .inl l
   · exact .inr ⟨k,c,e,cellK x c e _ z⟩
 · obtain ⟨v,z⟩:=I.cell x c e;exact ⟨v,cellK x c e v z⟩
 · obtain ⟨m,⟨o,_,_,ho,_⟩,_⟩:=I.loc;exact free _ o (λz=>(hch _ z).2.1 rfl) ho I.free
 · obtain ⟨v,o,ho,hd⟩:=I.cell x c e;exact free c o (λz=>(hch c z).2.2.1 x c e rfl) ho (I.freeC x c e)
 · obtain ⟨e,n,ne,nf,d⟩:=I.pin p hp;have nch:p.1 ∉ ch:=λz=>(hch p.1 z).2.2.2 p hp rfl
   exact ⟨keep p.1 p.2 ne nf nch e n,free p.1 p.2 nch e n,ne,nf,d⟩
theorem Inv.un {t':Nat} (I:Inv X pins σ H s) (u:Un X.fs [] H H' s.heap h') (hok:HOk X.prog X.w H' h'):Inv X pins σ H' { s with heap:=h',toks:=t' }:=by
 obtain ⟨m,⟨o,es,ep,ho,r⟩,_⟩:=id I.loc;obtain ⟨sl,hL⟩:=u.any ho I.free (by simp)
 exact I.step (g':=s.gens) (d':=s.drawn) (ch:=[]) (λ_ z=>nomatch z) (λb o _ hb _ e n=>u.keep b o e n hb (by simp)) (λb o _ hb _ e n=>u.slot b o e n hb (by simp)) (λb o _ e n=>u.free b o e n (by simp)) (λb o _ e=>u.there b o e (by simp)) u.tups u.frzs u.tbls (λm' hm=>by
   obtain ⟨o',es',ep',ho',r'⟩:=hm;rw [ho] at ho'; cases ho';exact ⟨_,es',ep',hL,r'⟩) hok I.bare
theorem Inv.call {g':Array GenState} {t':Nat} {d':Drawn} {ch:List Addr} (I:Inv X pins σ H s) (u:Un (frs X.stack) ch H H' s.heap h') (hok:HOk X.prog X.w H' h') (hg:AllBare g')
   (hch:∀ b∈ch,(b∈X.ex\/X.s₀.heap.objs.size<=b)/\b≠X.env.locals/\(∀ x c,X.env.cells.lookup x=some c->c≠b)/\∀ p∈X.pn++pins,p.1≠b) :
   Inv X pins σ H' { s with heap:=h',gens:=g',drawn:=d',toks:=t' }:=by
 obtain ⟨m,⟨o,es,ep,ho,r⟩,_⟩:=id I.loc;obtain ⟨sl,hL⟩:=u.any ho I.free λz=>(hch _ z).2.1 rfl;exact I.step (ch:=ch) hch (λb o hL hb hc e n=>u.keep b o e n (λz=>(Bd.mp (I.stkSub b z)).elim hL hb) hc) (λb o _ _ hc e n=>u.any e n hc) (λb o hc e n=>u.free b o e n hc) (λb o hc e=>u.there b o e hc) u.tups u.frzs u.tbls (λm' hm=>by
   obtain ⟨o',es',ep',ho',r'⟩:=hm;rw [ho] at ho'; cases ho';exact ⟨_,es',ep',hL,r'⟩) hok hg
theorem Inv.turned {t':Nat} {it:Addr} (I:Inv X pins σ H s) (k:∀ b o,b≠it->s.heap.get? b=some o->h'.get? b=some o) (hn:H it=none) (hL:it≠X.env.locals)
   (h1:it∈X.ex\/X.s₀.heap.objs.size<=it) (h2:∀ x c,X.env.cells.lookup x=some c->c≠it) (h3:∀ p∈X.pn++pins,p.1≠it):Inv X pins σ H { s with heap:=h',toks:=t' }:=by
 have nit:∀ b u,H b=some u->b≠it:=λb u e z=>by rw [z,hn] at e; cases e
 refine I.step (g':=s.gens) (d':=s.drawn) (ch:=[it]) (λb hb=>?_) (λb o _ _ hc e _=>k b o (λz=>hc (by simp [z])) e) (λb o _ _ hc e _=>⟨o.slots,k b o (λz=>hc (by simp [z])) e⟩) (λ_ _ _ _ n=>n)
   (λb o hc e=>⟨o,k b o (λz=>hc (by simp [z])) e⟩) (λ_ _ e=>e) (λ_ _ _ e=>e) (λb ps e=>⟨#[],by rw [e]; simp⟩) (λm hm=>?_) (λb u e=>?_) I.bare
 · have e:b=it:=by simpa using hb
   subst e;exact ⟨h1,hL,h2,h3⟩
 · obtain ⟨o,es,ep,ho,r⟩:=hm;exact ⟨o,es,ep,k _ o (Ne.symm hL) ho,r⟩
 · refine (I.hok b u e).stay (λc v hc q=>k c v ?_ q) (λ_ q=>q) λ_ _ q=>q;rcases hc with z | z
   · rw [z]; exact nit b u e
   · exact nit c _ z
theorem Inv.tok (I:Inv X pins σ H s) (t:Nat):Inv X pins σ H { s with toks:=t }:=I.un (h':=s.heap) (t':=t) Un.refl I.hok
theorem Inv.kept {t':Nat} (I:Inv X pins σ H s) (k:∀ b u,s.heap.get? b=some u->h'.get? b=some u):Inv X pins σ H { s with heap:=h',toks:=t' }:=I.un (Un.kept k) (I.hok.kept k)
theorem Inv.laid {a:Addr} {o:HO} {t':Nat} (I:Inv X pins σ H s) (k:∀ b u,s.heap.get? b=some u->h'.get? b=some u) (hp:s.heap.objs.size<=a) (new:ObjOk X.prog X.w (upd H a o) h' a o) :
   Inv X pins σ (upd H a o) { s with heap:=h',toks:=t' }:=I.un (Un.laid k hp (I.hok.fresh hp)) (I.hok.laid k hp new)
theorem Inv.write {x e:Addr} {o:HO} {t':Nat} (I:Inv X pins σ H s) (mu:Mut (H x)) (he:e=x\/H e=some (.own x)) (k:∀ b u,b≠e->s.heap.get? b=some u->h'.get? b=some u) (heo:∃ u,h'.get? e=some u)
   (new:ObjOk X.prog X.w (upd H x o) h' x o):Inv X pins σ (upd H x o) { s with heap:=h',toks:=t' }:=I.un (Un.write mu he k heo) (I.hok.write mu he k heo new)
theorem Inv.weak {σ':List (Option V)} (I:Inv X pins σ H s) (hl:σ'.length=σ.length) (w:∀ (i:Nat) v,σ'[i]?=some (some v)->σ[i]?=some (some v)):Inv X pins σ' H s :=
 ⟨I.ok,I.os,I.bare,I.base,let ⟨m,hn,hl'⟩:=I.loc; ⟨m,hn,λi x v e1 e2 e3=>hl' i x v e1 (w i v e2) e3⟩,I.cell,I.free,I.freeC,I.pin,I.hok,hl.trans I.len⟩
theorem Inv.pins_of {pins':Q2} (I:Inv X pins σ H s) (h:∀ p ∈ pins',s.heap.get? p.1=some p.2/\H p.1=none/\p.1≠X.env.locals/\p.1 ∉ X.fs/\∀ v,p.2.data≠.cell v):Inv X pins' σ H s :=
 ⟨I.ok,I.os,I.bare,I.base,I.loc,I.cell,I.free,I.freeC,λp hp=>(Bk.mp hp).elim (λz=>I.pin p (Cr _ z)) (h p),I.hok,I.len⟩
theorem pP {N:List Str} (hN:N.Nodup) {i j:Nat} {x:Str} (a:N[i]?=some x) (b:N[j]?=some x):i=j:=by
 obtain ⟨h1,e1⟩:=Ae.mp a;obtain ⟨h2,e2⟩:=Ae.mp b;exact (Fw hN).mp (e1.trans e2.symm)
theorem tW {M:Model} {A:Around} {E:Q0} {i:Nat} {x:Str} {v:V} {u:Value} {Q:Unit->Shared->Prop} (I:Inv X pins σ H s) (hN:X.N.Nodup) (hi:X.N[i]?=some x) (hx:Loc X.env.scope x) (r:RelV v u)
   (h:∀ s',Inv X pins (σ.set i (some v)) H s'->(∃ a,Heap.SameBut a s.heap s'.heap/\(a=X.env.locals\/X.env.cells.lookup x=some a))->Q () s') (hf:X.fn x=true\/X.env.scope.names.lookup x=some .local:=by first | exact .inl rfl | exact .inr rfl | assumption):wpAny M A (storeName X.env x u) Q E s:=by
 obtain ⟨m,hn,hl⟩:=id I.loc;have hcls:(X.env.scope.kind == .class || (X.env.scope.kind == .module && X.env.locals != X.env.globals))=false:=by rw [I.ok.kind]; rfl
 have hiσ:i<σ.length:=by rw [I.len]; exact (Ae.mp hi).1
 have cne:=I.cne
 have tracked:∀ {a:Addr} {h':Heap},(∃ o,s.heap.get? a=some o/\H a=none)->Heap.SameBut a s.heap h'->HOk X.prog X.w H h':=fun {a h'} ha hs b ob e=>by
   obtain ⟨_,_,hfree⟩:=ha;refine (I.hok b ob e).stay (λc w' hc q=>(hs.2 c ?_).trans q) (λ_ q=>q) λ_ _ q=>q;rintro rfl;rcases hc with rfl | hc
   · rw [hfree] at e; cases e
   · rw [hfree] at hc; cases hc
 rcases hx with hk | hk
 · refine wpAny_storeName_local hk hn (λh' hn' hs=>?_) hcls;obtain ⟨oL,_,_,hoL,_⟩:=id hn;refine h _ ⟨I.ok,I.os,I.bare,⟨λb o e n hb hx=>?_,λb o e n hb hx=>?_,I.base.free,λb o e hx=>?_,I.base.tups,I.base.frzs,I.base.tbls⟩,⟨_,hn',λj y v' e1 e2 e3=>?_⟩,λy c e=>?_,I.free,I.freeC,λp hp=>?_,tracked ⟨oL,hoL,I.free⟩ hs,by simpa using I.len⟩ ⟨_,hs,.inl rfl⟩
   · exact (hs.2 b (Bi (Bh (Ar e) I.ok.above))).trans (I.base.keep b o e n hb hx)
   · obtain ⟨sl,e1⟩:=I.base.slot b o e n hb hx;exact ⟨sl,(hs.2 b (Bi (Bh (Ar e) I.ok.above))).trans e1⟩
   · obtain ⟨o',e1⟩:=I.base.there b o e hx;exact ⟨o',(hs.2 b (Bi (Bh (Ar e) I.ok.above))).trans e1⟩
   · by_cases hj:j=i
     · subst hj;rw [hi] at e1; cases e1;rw [Du hiσ] at e2;cases e2;exact ⟨u,r,.inl ⟨hk,by simp⟩⟩
     · rw [Eg (Ne.symm hj)] at e2;obtain ⟨u',r',q⟩:=hl j y v' e1 e2 e3;refine ⟨u',r',?_⟩;rcases q with ⟨k,e⟩ | ⟨k,c,e,z⟩
       · refine .inl ⟨k,?_⟩;have:y≠x:=λe=>hj (pP hN e1 (e ▸ hi))
         simp [this,e]
       · exact .inr ⟨k,c,e,z.sameBut hs (cne y c e)⟩
   · obtain ⟨w',z⟩:=I.cell y c e;exact ⟨w',z.sameBut hs (cne y c e)⟩
   · obtain ⟨e,n,ne,nf,d⟩:=I.pin p hp;exact ⟨(hs.2 p.1 ne).trans e,n,ne,nf,d⟩
 · have hfn:X.fn x=true:=by
     rcases hf with z | z
     · exact z
     · rw [z] at hk; cases hk
   obtain ⟨c,hc⟩:=I.ok.has x (.inl hk);obtain ⟨w',z⟩:=I.cell x c hc;refine wpAny_storeName_cell I.ok.kind hk hc z (λh' hc' hs=>?_);obtain ⟨oc,hoc,hocd⟩:=id z;refine h { s with heap:=h' } ⟨I.ok,I.os,I.bare,⟨λb o e n hb hx=>?_,λb o e n hb hx=>?_,I.base.free,λb o e hx=>?_,I.base.tups,I.base.frzs,I.base.tbls⟩,⟨m,hn.sameBut hs (Ne.symm (cne x c hc)),λj y v' e1 e2 e3=>?_⟩,λy c' e=>?_,I.free,I.freeC,λp hp=>?_,tracked ⟨oc,hoc,I.freeC x c hc⟩ hs,by simpa using I.len⟩ ⟨c,hs,.inr hc⟩
   · exact (hs.2 b (Bi (Bh (Ar e) (I.ok.cab x c hfn hc)))).trans (I.base.keep b o e n hb hx)
   · obtain ⟨sl,e1⟩:=I.base.slot b o e n hb hx;exact ⟨sl,(hs.2 b (Bi (Bh (Ar e) (I.ok.cab x c hfn hc)))).trans e1⟩
   · obtain ⟨o',e1⟩:=I.base.there b o e hx;exact ⟨o',(hs.2 b (Bi (Bh (Ar e) (I.ok.cab x c hfn hc)))).trans e1⟩
   · by_cases hj:j=i
     · subst hj;rw [hi] at e1; cases e1;rw [Du hiσ] at e2;cases e2;exact ⟨u,r,.inr ⟨.inl hk,c,hc,hc'⟩⟩
     · rw [Eg (Ne.symm hj)] at e2;obtain ⟨u',r',q⟩:=hl j y v' e1 e2 e3;refine ⟨u',r',?_⟩;rcases q with q | ⟨k,c',e,z'⟩
       · exact .inl q
       · refine .inr ⟨k,c',e,z'.sameBut hs ?_⟩;rintro rfl;exact hj (pP hN e1 (I.ok.inj _ _ _ e hc ▸ hi))
   · by_cases hcc:c'=c
     · subst hcc; exact ⟨_,hc'⟩
     · obtain ⟨w2,z2⟩:=I.cell y c' e;exact ⟨w2,z2.sameBut hs hcc⟩
   · obtain ⟨e,n,ne,nf,d⟩:=I.pin p hp;refine ⟨(hs.2 p.1 ?_).trans e,n,ne,nf,d⟩;intro q;rw [q,hoc] at e;have q':oc=p.2:=Bo e
     exact d w' (by rw [<-q']; exact hocd)
theorem pX {M:Model} {A:Around} {E:Q0} {i:Nat} {x:Str} {v:V} {u:Value} {Q:Unit->Shared->Prop} (I:Inv X pins σ H s) (hN:X.N.Nodup) (hi:X.N[i]?=some x) (hx:Loc X.env.scope x) (r:RelV v u)
   (h:∀ s',Inv X pins (σ.set i (some v)) H s'->Q () s') (hf:X.fn x=true\/X.env.scope.names.lookup x=some .local:=by first | exact .inl rfl | exact .inr rfl | assumption):wpAny M A (storeName X.env x u) Q E s :=
 tW I hN hi hx r (λs' I' _=>h s' I') hf
theorem Inv.call' {s':Shared} {ch:List Addr} (I:Inv X pins σ H s) (ho:s'.os=s.os) (u:Un (frs X.stack) ch H H' s.heap s'.heap) (hok:HOk X.prog X.w H' s'.heap) (hg:AllBare s'.gens)
   (hch:∀ b∈ch,(b∈X.ex\/X.s₀.heap.objs.size<=b)/\b≠X.env.locals/\(∀ x c,X.env.cells.lookup x=some c->c≠b)/\∀ p∈X.pn++pins,p.1≠b):Inv X pins σ H' s':=by
 obtain ⟨h',g',d',t',o'⟩:=s';have e:o'=s.os:=ho
 subst e;exact I.call (g':=g') (t':=t') (d':=d') u hok hg hch
end
abbrev XK:=Value->Option Addr->Hp->Prop
abbrev St:=List (Option V)
abbrev VK:=V->Hp->Prop
abbrev TE:=St->Hp->VK->Prop
abbrev TT:=St->Hp->(Bool->Hp->Prop)->Prop
abbrev TA:=St->Hp->(List V->Hp->Prop)->Prop
structure Ends where
 nx:St->Hp->Prop
 rt:VK
 bk:St->Hp->Prop:=λ_ _=>False
 ct:St->Hp->Prop:=λ_ _=>False
abbrev TS:=Ends->St->Hp->Prop
def EP (X:Cx) (pins:List (Addr×Obj)) (σ:St) (Q:VK) (u:Value) (s':Shared):Prop:=∃ v H',Inv X pins σ H' s'/\RelV v u/\Q v H'
def TP (X:Cx) (pins:List (Addr×Obj)) (σ:St) (Q:Bool->Hp->Prop) (b:Bool) (s':Shared):Prop:=∃ H',Inv X pins σ H' s'/\Q b H'
def AP (X:Cx) (pins:List (Addr×Obj)) (σ:St) (Q:List V->Hp->Prop) (us:List Value) (s':Shared):Prop:=∃ vs H',Inv X pins σ H' s'/\Vals vs us/\Q vs H'
def SP (X:Cx) (pins:List (Addr×Obj)) (D:Ends) (f:Flow) (s':Shared):Prop :=
 match f with
 | .next=>∃ σ' H',Inv X pins σ' H' s'/\D.nx σ' H'
 | .brk=>∃ σ' H',Inv X pins σ' H' s'/\D.bk σ' H'
 | .cont=>∃ σ' H',Inv X pins σ' H' s'/\D.ct σ' H'
 | .ret u=>∃ v σ' H',Inv X pins σ' H' s'/\RelV v u/\D.rt v H'
def PE (X:Cx) (e:Expr) (t:TE):Prop :=
 ∀ (pins:Q2) (s:Shared) (σ:St) (H:Hp) (Q:VK),Inv X pins σ H s->t σ H Q->wpAny (model X.prog X.w) X.A (eval e X.env) (EP X pins σ Q) X.xe s
def PT (X:Cx) (e:Expr) (t:TT):Prop :=
 ∀ (pins:Q2) (s:Shared) (σ:St) (H:Hp) (Q:Bool->Hp->Prop),Inv X pins σ H s->t σ H Q->wpAny (model X.prog X.w) X.A (isTrue e X.env (eval e X.env)) (TP X pins σ Q) X.xe s
def PW (X:Cx) (e:Expr) (t:TT):Prop :=
 ∀ (whole:Sem Value) (pins:Q2) (s:Shared) (σ:St) (H:Hp) (Q:Bool->Hp->Prop),Inv X pins σ H s->t σ H Q->wpAny (model X.prog X.w) X.A (isTrue e X.env whole) (TP X pins σ Q) X.xe s
theorem PW.pt {X:Cx} {e:Expr} {t:TT} (h:PW X e t):PT X e t:=h _
def PA (X:Cx) (es:List Expr) (t:TA):Prop :=
 ∀ (pos:Pos) (pins:Q2) (s:Shared) (σ:St) (H:Hp) (Q:List V->Hp->Prop),Inv X pins σ H s->t σ H Q->wpAny (model X.prog X.w) X.A (spliced (backTo pos (starEach es X.env))) (AP X pins σ Q) X.xe s
def PS (X:Cx) (st:Stmt) (t:TS):Prop :=
 ∀ (pins:Q2) (s:Shared) (σ:St) (H:Hp) (D:Ends),Inv X pins σ H s->t D σ H->wpAny (model X.prog X.w) X.A (exec st X.env) (SP X pins D) X.xe s
def PSs (X:Cx) (st:List Stmt) (t:TS):Prop :=
 ∀ (pins:Q2) (s:Shared) (σ:St) (H:Hp) (D:Ends),Inv X pins σ H s->t D σ H->wpAny (model X.prog X.w) X.A (execs st X.env) (SP X pins D) X.xe s
theorem thn {α:Type} {t:Sem α} {Q Q':α->Shared->Prop} {M:Model} {A:Around} {E:Q0} {s:Shared} (h:wpAny M A t Q E s) (hQ:∀ a s,Q a s->Q' a s):wpAny M A t Q' E s:=Ce h hQ λ_ _ x=>x
end L2
namespace L2
open PySem PySem.Spec PyProof.Rows
section
variable {X:Cx}
theorem bin {a b:Expr} {ta tb:TE} (ha:PE X a ta) (hb:PE X b tb) {pins:Q2} {s:Shared} {σ:St} {H:Hp} {R:V->V->Hp->Prop} (I:Inv X pins σ H s) (h:ta σ H λx H1=>tb σ H1 λy H2=>R x y H2)
   {α:Type} {Q:α->Shared->Prop} {f:Value->Value->Sem α}
   (hf:∀ v u s2 x y H2,Inv X pins σ H2 s2->RelV x v->RelV y u->R x y H2->wpAny (model X.prog X.w) X.A (f v u) Q X.xe s2) :
   wpAny (model X.prog X.w) X.A (eval a X.env) (λv s₁=>wpAny (model X.prog X.w) X.A (eval b X.env) (λu s₂=>wpAny (model X.prog X.w) X.A (f v u) Q X.xe s₂) X.xe s₁) X.xe s:=by
 refine thn (ha pins s σ H _ I h) λv s1 ⟨x,H1,I1,r1,q1⟩=>?_;refine thn (hb pins s1 σ H1 _ I1 q1) λu s2 ⟨y,H2,I2,r2,q2⟩=>?_;exact hf v u s2 x y H2 I2 r1 r2 q2
def eQK (i:Nat):TE:=λσ H Q=>∃ v,σ[i]?=some (some v)/\Q v H
def tC (v:V):TE:=λ_ H Q=>Q v H
theorem dZL {i:Nat} {x:Str} {pos:Pos} (hN:X.N[i]?=some x) (hv:Vis X.env.scope x) (hd:(x == ("__debug__" : Str))=false:=by decide) (hcd:(x == ("__classdict__" : Str))=false:=by decide):PE X (.Name x pos) (eQK i):=by
 intro pins s σ H Q I h;obtain ⟨v,e,h⟩:=h;obtain ⟨m,hn,hl⟩:=I.loc;obtain ⟨u,r,l⟩:=hl i x v hN e hv;have fin:EP X pins σ Q u s:=⟨v,H,I,r,h⟩
 rcases l with ⟨hk,hm⟩ | ⟨hk,c,hc,hcell⟩
 · exact wpAny_Name (wpAny_loadName_local I.ok.kind hk hn hm fin) hd
 · rcases hk with hk | hk
   · exact wpAny_Name (wpAny_loadName_cell I.ok.kind hk hc hcell fin) hd
   · exact wpAny_Name (wpAny_loadName_free I.ok.kind hk hc hcell fin hcd) hd
theorem aJ {i j pos}:PE X (.Constant (.int i) j pos) (tC (.int i)):=λ_ _ _ H _ I h=>wpAny_Constant_int ⟨.int i,H,I.tok _,⟨_,rfl⟩,h⟩
theorem fO {b j pos}:PE X (.Constant (.bool b) j pos) (tC (.bl b)):=λ_ _ _ H _ I h=>Constant_bool ⟨.bl b,H,I,rfl,h⟩
theorem gU {j pos}:PE X (.Constant .none j pos) (tC .non):=λ_ _ _ H _ I h=>Constant_none ⟨.non,H,I,rfl,h⟩
theorem gG {x j pos}:PE X (.Constant (.str x) j pos) (tC (.str x)):=λ_ _ _ H _ I h=>Calls.Constant_str ⟨.str x,H,I.tok _,⟨_,rfl⟩,h⟩
def Gl (X:Cx) (x:Str):Prop:=X.env.kindOf x=some .globalImplicit
theorem gZ {E:Q0} {pins:Q2} {s:Shared} {σ:St} {H:Hp} {x:Str} {u:Value} {pos:Pos} {Q:Q0} (I:Inv X pins σ H s) (hg:Gl X x) (hm:X.mg x=some u) (h:Q u s)
   (hd:(x == ("__debug__" : Str))=false:=by decide):wpAny (model X.prog X.w) X.A (eval (.Name x pos) X.env) Q E s :=
 Calls.Name_function_global I.ok.kind hg (Calls.loadGlobal_global (by rw [I.ok.glob]; exact I.mod.glob.keeps I.bk) hm h) hd
theorem jQ {E:Q0} {pins:Q2} {s:Shared} {σ:St} {H:Hp} {x:Str} {u:Value} {pos:Pos} {Q:Q0} (I:Inv X pins σ H s) (hg:Gl X x) (hm:X.mg x=none) (hv:bootBuiltins x=some u) (h:Q u s)
   (hn:x≠"__name__" := by decide) (hd:(x == ("__debug__" : Str))=false:=by decide):wpAny (model X.prog X.w) X.A (eval (.Name x pos) X.env) Q E s:=by
 obtain ⟨mb,h1,h2⟩:=I.mod.blt;exact Calls.Name_function_global I.ok.kind hg (Calls.loadGlobal_builtin (by rw [I.ok.glob]; exact I.mod.glob.keeps I.bk) hm (by rw [I.ok.blt]; exact h1.keeps I.bk) ((h2 x hn).trans hv) h) hd
theorem aZ5 {x:Str} {v:V} {u:Value} {pos:Pos} (hg:Gl X x) (hm:X.mg x=some u) (r:RelV v u) (hd:(x == ("__debug__" : Str))=false:=by decide):PE X (.Name x pos) (tC v) :=
 λ_ _ _ H _ I h=>gZ I hg hm ⟨v,H,I,r,h⟩ hd
theorem cZ9 {x:Str} {v:V} {u:Value} {pos:Pos} (hg:Gl X x) (hm:X.mg x=none) (hv:bootBuiltins x=some u) (r:RelV v u) (hn:x≠"__name__" := by decide) (hd:(x == ("__debug__" : Str))=false:=by decide):PE X (.Name x pos) (tC v) :=
 λ_ _ _ H _ I h=>jQ I hg hm hv ⟨v,H,I,r,h⟩ hn hd
variable {a b:Expr} {ta tb:TE} {pos:Pos}
variable {tA tB':TT} {rest:List Expr}
def eQ1 (t u:TT):TT:=λσ H Q=>t σ H λc H1=>if c=true then u σ H1 Q else Q false H1
def tOr (t u:TT):TT:=λσ H Q=>t σ H λc H1=>if c=true then Q true H1 else u σ H1 Q
def eQF (t:TT):TT:=λσ H Q=>t σ H λc H1=>Q (!c) H1
theorem pE (ha:PT X a tA):PW X (.BoolOp .And [a] pos) tA:=by
 intro wh pins s σ H Q I h;refine isTrue_and (thn (ha pins s σ H Q I h) λc s1 e=>?_);cases c with
 | true=>exact isTrue_and_nil e
 | false=>exact e
theorem jG (ha:PT X a tA):PW X (.BoolOp .Or [a] pos) tA:=by
 intro wh pins s σ H Q I h;refine isTrue_or (thn (ha pins s σ H Q I h) λc s1 e=>?_);cases c with
 | false=>exact isTrue_or_nil e
 | true=>exact e
theorem vK (ha:PT X a tA) (hb:PW X (.BoolOp .And (b::rest) pos) tB'):PW X (.BoolOp .And (a::b::rest) pos) (eQ1 tA tB'):=by
 intro wh pins s σ H Q I h;refine isTrue_and (thn (ha pins s σ H _ I h) λc s1 ⟨H1,I1,q1⟩=>?_);cases c with
 | true=>exact hb wh pins s1 σ H1 Q I1 q1
 | false=>exact ⟨H1,I1,q1⟩
theorem iW (ha:PT X a tA) (hb:PW X (.BoolOp .Or (b::rest) pos) tB'):PW X (.BoolOp .Or (a::b::rest) pos) (tOr tA tB'):=by
 intro wh pins s σ H Q I h;refine isTrue_or (thn (ha pins s σ H _ I h) λc s1 ⟨H1,I1,q1⟩=>?_);cases c with
 | true=>exact ⟨H1,I1,q1⟩
 | false=>exact hb wh pins s1 σ H1 Q I1 q1
theorem iE (ha:PT X a tA):PT X (.UnaryOp .Not a pos) (eQF tA):=by
 intro pins s σ H Q I h;exact isTrue_not (ha pins s σ H (λc H1=>Q (!c) H1) I h)
theorem bZR {op} {t:TE} (h:PE X a t):PE X (.BoolOp op [a] pos) t:=λpins s σ H Q I hw=>BoolOp_one (h pins s σ H Q I hw)
def tIf (t:TT) (ta tb:TE):TE:=λσ H Q=>t σ H λc H1=>if c=true then ta σ H1 Q else tb σ H1 Q
theorem wI {c:Expr} (hc:PT X c tA) (ha:PE X a ta) (hb:PE X b tb):PE X (.IfExp c a b pos) (tIf tA ta tb):=by
 intro pins s σ H Q I h;refine wpAny_IfExp (thn (hc pins s σ H _ I h) λd s1 ⟨H1,I1,q1⟩=>?_);cases d with
 | true=>exact ha pins s1 σ H1 Q I1 q1
 | false=>exact hb pins s1 σ H1 Q I1 q1
end
end L2
namespace L2
open PySem PySem.Spec PyProof.Rows
def SqL (K:PySem.W.Frag) (H:Hp) (a:Addr) (xs:List V):Prop :=
 Rd H a (.lst xs)\/
   ∃ (o:Obj) (its:Array Value) (n:Nat),K.lookup a=some o/\o.cls=.type "list"/\o.dict=none/\o.data=.seq its n/\its.size<=sizeLine/\Vals xs its.toList
def SqT (K:PySem.W.Frag) (H:Hp) (a:Addr) (xs:List V):Prop :=
 Rd H a (.tup xs)\/
   ∃ (o:Obj) (its:Array Value) (n:Nat),K.lookup a=some o/\o.cls=.type "tuple"/\o.data=.seq its n/\its.size<=sizeLine/\Vals xs its.toList
def eZQ:Value->Option V
 | .none=>some .non
 | .bool b=>some (.bl b)
 | .int i _=>some (.int i)
 | .str x _=>some (.str x)
 | .bytes b _=>some (.byt b)
 | .float b _=>some (.flt b)
 | .ref a=>some (.ref a)
 | .type n=>some (.ty n)
 | _=>none
theorem RelV.abs {x:V} {u:Value} (r:RelV x u):eZQ u=some x:=by
 cases x with
 | non=>cases r; rfl
 | bl _=>cases r; rfl
 | int _=>obtain ⟨t,rfl⟩:=r; rfl
 | str _=>obtain ⟨t,rfl⟩:=r; rfl
 | byt _=>obtain ⟨t,rfl⟩:=r; rfl
 | flt _=>obtain ⟨t,rfl⟩:=r; rfl
 | ref _=>cases r; rfl
 | ty _=>cases r; rfl
theorem RelV.inj {x y:V} {u:Value} (r:RelV x u) (q:RelV y u):x=y:=Bo (r.abs.symm.trans q.abs)
theorem Vals.inj:∀ {xs ys:List V} {us:List Value},Vals xs us->Vals ys us->xs=ys
 | _,_,_,.nil,.nil=>rfl
 | _,_,_,.cons r t,.cons r' t'=>by rw [r.inj r',Vals.inj t t']
section
variable {X:Cx} {pins:Q2} {σ:St} {H:Hp} {s:Shared} {a:Addr} {xs ys:List V}
theorem SqT.of {K:PySem.W.Frag} (h:H a=some (.tup xs)):SqT K H a xs:=.inl (.inl h)
theorem Inv.list (I:Inv X pins σ H s) (h:SqL X.K H a xs):∃ its:List Value,Vals xs its/\PlainL s.heap a its.toArray/\xs.length<=sizeLine:=by
 rcases h with h | ⟨o,its,n,hk,hc,hd,hs,hz,r⟩
 · obtain ⟨z,its,n,r,e⟩:=h.ok I.hok;exact ⟨its,r,⟨_,n,e,rfl,rfl,rfl⟩,z⟩
 · refine ⟨its.toList,r,⟨o,n,I.kIn a o hk,hc,hd,by simpa using hs⟩,?_⟩
   have e:=r.length
   simp only [Array.length_toList] at e;omega
theorem Inv.tuple (I:Inv X pins σ H s) (h:SqT X.K H a xs):∃ its:List Value,Vals xs its/\IsTup s.heap a its.toArray/\xs.length<=sizeLine:=by
 rcases h with h | ⟨o,its,n,hk,hc,hs,hz,r⟩
 · obtain ⟨z,its,r,p⟩:=h.ok I.hok;exact ⟨its,r,p,z⟩
 · refine ⟨its.toList,r,⟨o,I.kIn a o hk,hc,n,by simpa using hs⟩,?_⟩
   have e:=r.length
   simp only [Array.length_toList] at e;omega
theorem Inv.list_inj (I:Inv X pins σ H s) (h:SqL X.K H a xs) (h':SqL X.K H a ys):xs=ys:=by
 obtain ⟨its,r,⟨o,n,e,_,_,d⟩,_⟩:=I.list h;obtain ⟨its',r',⟨o',n',e',_,_,d'⟩,_⟩:=I.list h';rw [e] at e'; cases e';rw [d] at d';injection d' with d1 _
 have:its=its':=by simpa using congrArg Array.toList d1
 subst this;exact r.inj r'
end
abbrev Cx.wish (X:Cx) (E:Value->Shared->Prop):Cx:={ X with xe:=E }
abbrev Cx.nox (X:Cx):Cx:=X.wish λ_ _=>False
theorem Cx.Ok.wish {X:Cx} (ok:X.Ok) (E:Q0):(X.wish E).Ok :=
 ⟨ok.mod,ok.kind,ok.glob,ok.blt,ok.above,ok.inj,ok.has,ok.cab,ok.hd,ok.frames,ok.stk,ok.exf,ok.bs,ok.bsz,ok.noex,ok.exfs,ok.funs,ok.frf⟩
theorem Cx.Ok.unwish {X:Cx} {E:Q0} (ok:(X.wish E).Ok):X.Ok :=
 ⟨ok.mod,ok.kind,ok.glob,ok.blt,ok.above,ok.inj,ok.has,ok.cab,ok.hd,ok.frames,ok.stk,ok.exf,ok.bs,ok.bsz,ok.noex,ok.exfs,ok.funs,ok.frf⟩
section
variable {X:Cx} {pins:Q2} {σ:St} {H:Hp} {s:Shared} {E:Q0}
theorem Inv.wish (I:Inv X pins σ H s) (E:Q0):Inv (X.wish E) pins σ H s:=⟨I.ok.wish E,I.os,I.bare,I.base,I.loc,I.cell,I.free,I.freeC,I.pin,I.hok,I.len⟩
theorem Inv.unwish (I:Inv (X.wish E) pins σ H s):Inv X pins σ H s:=⟨I.ok.unwish,I.os,I.bare,I.base,I.loc,I.cell,I.free,I.freeC,I.pin,I.hok,I.len⟩
theorem SP.unwish {D:Ends} {f:Flow} {s':Shared} (h:SP (X.wish E) pins D f s'):SP X pins D f s':=by
 cases f with
 | next=>obtain ⟨σ',H',I,q⟩:=h; exact ⟨σ',H',I.unwish,q⟩
 | brk=>obtain ⟨σ',H',I,q⟩:=h; exact ⟨σ',H',I.unwish,q⟩
 | cont=>obtain ⟨σ',H',I,q⟩:=h; exact ⟨σ',H',I.unwish,q⟩
 | ret u=>obtain ⟨v,σ',H',I,r,q⟩:=h; exact ⟨v,σ',H',I.unwish,r,q⟩
theorem PSs.nox {st:List Stmt} {t:TS} (h:PSs X.nox st t):PSs X st t:=λpins s σ H D I hw=>
 Ce (h pins s σ H D (I.wish _) hw) (λ_ _ q=>q.unwish) λ_ _ z=>False.elim z
end
section
variable {X:Cx} {st:Stmt} {rest:List Stmt} {t u:TS} {e:Expr} {te:TE} {pos:Pos}
def cJX:TS:=λD σ H=>D.nx σ H
def dQZ (t u:TS):TS:=λD σ H=>t { D with nx:=u D } σ H
theorem bO:PSs X [] cJX:=λ_ _ σ H _ I h=>wpAny_execs_nil ⟨σ,H,I,h⟩
theorem aE (h1:PS X st t) (h2:PSs X rest u):PSs X (st::rest) (dQZ t u):=by
 intro pins s σ H D I h;refine wpAny_execs_cons (thn (h1 pins s σ H { D with nx:=u D } I h) λf s1 q=>?_)
 cases f with
 | next=>
   obtain ⟨σ',H',I',q⟩:=q;exact h2 pins s1 σ' H' D I' q
 | ret v=>exact q
 | brk=>exact q
 | cont=>exact q
theorem aI (h1:PS X st t):PSs X [st] t:=by
 intro pins s σ H D I h;refine wpAny_execs_cons (thn (h1 pins s σ H D I h) λf s1 q=>?_);cases f with
 | next=>exact wpAny_execs_nil q
 | ret v=>exact q
 | brk=>exact q
 | cont=>exact q
theorem Inv.quiet {pins:Q2} {σ:St} {H:Hp} {s:Shared} (I:Inv X pins σ H s):interactive X.env=false:=by simp [interactive,I.ok.kind]
def dQC (te:TE):TS:=λD σ H=>te σ H λ_ H1=>D.nx σ H1
theorem cG (he:PE X e te) (hs:swapsWith e none pos.line X.env=pure false:=by rfl):PS X (.Expr e pos) (dQC te):=by
 intro pins s σ H D I h;exact wpAny_Expr_any (thn (he pins s σ H _ I h) λv s1 ⟨x,H1,I1,r1,q1⟩=>⟨σ,H1,I1,q1⟩) I.quiet hs
def eXO (te:TE):TS:=λD σ H=>te σ H D.rt
theorem aW (he:PE X e te):PS X (.Return (some e) pos) (eXO te):=by
 intro pins s σ H D I h;exact wpAny_Return_some (thn (he pins s σ H _ I h) λv s1 ⟨x,H1,I1,r1,q1⟩=>⟨x,σ,H1,I1,r1,q1⟩)
def eQX (c:TT) (t u:TS):TS:=λD σ H=>c σ H λb H1=>if b=true then t D σ H1 else u D σ H1
theorem cU {c:Expr} {a b:List Stmt} {tc:TT} (hc:PT X c tc) (ha:PSs X a t) (hb:PSs X b u):PS X (.If c a b pos) (eQX tc t u):=by
 intro pins s σ H D I h;refine wpAny_If (thn (hc pins s σ H _ I h) λd s1 ⟨H1,I1,q1⟩=>?_);cases d with
 | true=>exact ha pins s1 σ H1 D I1 q1
 | false=>exact hb pins s1 σ H1 D I1 q1
end
abbrev TG:=V->St->Hp->(St->Hp->Prop)->Prop
abbrev TGs:=List V->St->Hp->(St->Hp->Prop)->Prop
def PG (X:Cx) (target:Expr) (t:TG):Prop :=
 ∀ (pins:Q2) (s:Shared) (σ:St) (H:Hp) (v:V) (u:Value) (Q:St->Hp->Prop),Inv X pins σ H s->RelV v u->t v σ H Q->
   wpAny (model X.prog X.w) X.A (assign target X.env u) (λ_ s'=>∃ σ' H',Inv X pins σ' H' s'/\Q σ' H') X.xe s
def PGs (X:Cx) (ts:List Expr) (t:TGs):Prop :=
 ∀ (pins:Q2) (s:Shared) (σ:St) (H:Hp) (vs:List V) (us:List Value) (Q:St->Hp->Prop),Inv X pins σ H s->Vals vs us->t vs σ H Q->
   wpAny (model X.prog X.w) X.A (assignInOrder ((assignEach ts X.env).map (·.2)) us) (λ_ s'=>∃ σ' H',Inv X pins σ' H' s'/\Q σ' H') X.xe s
abbrev cZP:=V->V->V->Hp->(Hp->Prop)->Prop
def dJU (X:Cx) (t:cZP):Prop :=
 ∀ (pins:Q2) (s:Shared) (σ:St) (H:Hp) (o i v:V) (ov iv u:Value) (Q:Hp->Prop),Inv X pins σ H s->RelV o ov->RelV i iv->RelV v u->t o i v H Q->
   wpAny (model X.prog X.w) X.A (setItem ov iv u) (λ_ s'=>∃ H',Inv X pins σ H' s'/\Q H') X.xe s
section
variable {X:Cx} {pos:Pos}
def qS (i:Nat):TG:=λv σ H Q=>Q (σ.set i (some v)) H
theorem aO {i:Nat} {x:Str} (hN:X.N.Nodup) (hi:X.N[i]?=some x) (hx:Loc X.env.scope x) (hf:X.fn x=true\/X.env.scope.names.lookup x=some .local:=by first | exact .inl rfl | exact .inr rfl | assumption):PG X (.Name x pos) (qS i):=by
 intro pins s σ H v u Q I r h;exact wpAny_assign_Name (pX I hN hi hx r (λs' I'=>⟨_,H,I',h⟩) hf)
def dZZ:TGs:=λvs σ H Q=>vs=[]/\Q σ H
def aXN (t:TG) (u:TGs):TGs:=λvs σ H Q=>∃ v r,vs=v::r/\t v σ H λσ' H'=>u r σ' H' Q
theorem uR:PGs X [] dZZ:=by
 intro pins s σ H vs us Q I r h;obtain ⟨e,h⟩:=h;subst e;cases r;exact assignInOrder_nil ⟨σ,H,I,h⟩
theorem fK {e:Expr} {es:List Expr} {t:TG} {u:TGs} (h1:PG X e t) (h2:PGs X es u)
   (hs:(assignEach (e::es) X.env).map (·.2)=assign e X.env::(assignEach es X.env).map (·.2):=by rfl):PGs X (e::es) (aXN t u):=by
 intro pins s σ H vs us Q I r h;obtain ⟨v,vr,e1,h⟩:=h;subst e1;cases r with
 | cons r rr=>
   rw [hs];refine assignInOrder_cons (thn (h1 pins s σ H _ _ _ I r h) λ_ s1 ⟨σ1,H1,I1,q1⟩=>?_);exact h2 pins s1 σ1 H1 _ _ Q I1 rr q1
def dQ9 (K:PySem.W.Frag) (n:Nat) (t:TGs):TG:=λv σ H Q=>∃ a xs,v=.ref a/\SqT K H a xs/\xs.length=n/\t xs σ H Q
theorem bJX {es:List Expr} {k:Nat} {t:TGs} {n:Nat} (hc:X.calm=true) (h:PGs X es t)
   (hn:(assignEach es X.env).length=n:=by rfl) (hst:(assignEach es X.env).findIdx? (·.1)=none:=by rfl):PG X (.Tuple es k pos) (dQ9 X.K n t):=by
 intro pins s σ H v u Q I r hw;obtain ⟨a,xs,e1,hq,hl,hw⟩:=hw;subst e1;cases r;obtain ⟨its,rv,ht,hz⟩:=I.tuple hq;refine assign_Tuple_tuple (I.ok.hd hc) ht (by simp [hn,<-hl,rv.length]) hst λh' hx=>?_
 have I1:Inv X pins σ H { s with heap:=h' }:=I.kept (t':=s.toks) λb o e=>hx b o (Bi (Ar e)) e
 exact h pins _ σ H xs _ Q I1 (by simpa using rv) hw
def eXA (to ti:TE) (t:cZP):TG:=λv σ H Q=>to σ H λo H1=>ti σ H1 λi H2=>t o i v H2 λH3=>Q σ H3
theorem dXP {o i:Expr} {to ti:TE} {t:cZP} (ho:PE X o to) (hi:PE X i ti) (hs:dJU X t)
   (ha:∀ v,assign (.Subscript o i pos) X.env v=(do
     let ov <-holding [v] (eval o X.env)
     let iv <-holding [v,ov] (eval i X.env)
     standAt pos
     holding [v,ov,iv] (setItem ov iv v)
     release [v,ov,iv] []):=by intro _; rfl):PG X (.Subscript o i pos) (eXA to ti t):=by
 intro pins s σ H v u Q I r h;rw [ha];refine Ad (Bx (thn (ho pins s σ H _ I h) λov s1 ⟨x,H1,I1,r1,q1⟩=>?_));refine Ad (Bx (thn (hi pins s1 σ H1 _ I1 q1) λiv s2 ⟨y,H2,I2,r2,q2⟩=>?_));refine Ad (Fk (Ad (Bx (thn (hs pins s2 σ H2 x y v ov iv u _ I2 r1 r2 r q2) λ_ s3 ⟨H3,I3,q3⟩=>?_))));exact wpAny_release ⟨σ,H3,I3,q3⟩
def cQ9 (te:TE) (g:TG):TS:=λD σ H=>te σ H λx H1=>g x σ H1 D.nx
theorem aQC {tg e:Expr} {te:TE} {g:TG} (he:PE X e te) (hg:PG X tg g) (hs:swapsWithSole [tg] e pos.line X.env=pure false:=by rfl) (hw:swappedStores [tg] e X.env=pure none:=by rfl)
   (h1:(assignEach [tg] X.env).map (·.2)=[assign tg X.env]:=by rfl):PS X (.Assign [tg] e pos) (cQ9 te g):=by
 intro pins s σ H D I h;refine wpAny_Assign_stores (thn (he pins s σ H _ I h) λv s1 ⟨x,H1,I1,r1,q1⟩=>?_) hs hw;rw [h1];exact thn (hg pins s1 σ H1 x v _ I1 r1 q1) λ_ s2 q=>q
theorem aP {i:Nat} {x:Str} {e:Expr} {te:TE} {pos':Pos} (hN:X.N.Nodup) (hi:X.N[i]?=some x) (hx:Loc X.env.scope x) (he:PE X e te) (hs:swapsWith e (some (.Name x pos')) pos.line X.env=pure false:=by rfl) (hf:X.fn x=true\/X.env.scope.names.lookup x=some .local:=by first | exact .inl rfl | exact .inr rfl | assumption) :
   PS X (.Assign [.Name x pos'] e pos) (cQ9 te (qS i)):=by
 intro pins s σ H D I h;refine wpAny_Assign_Name (thn (he pins s σ H _ I h) λv s1 ⟨y,H1,I1,r1,q1⟩=>?_) hs;exact pX I1 hN hi hx r1 (λs2 I2=>⟨_,H1,I2,q1⟩) hf
end
section
variable {X:Cx} {pos:Pos}
def dZH (c:TT) (tb:TS):TS:=λD σ H=>∃ W:Nat->St->Hp->Prop,(∃ m,W m σ H)/\∀ m σ H,W m σ H->
 c σ H λb H1=>if b=true then ∃ N:St->Hp->Prop,(∀ σ' H',N σ' H'->∃ m',m' < m/\W m' σ' H')/\tb { D with nx:=N,ct:=N,bk:=D.nx } σ H1 else D.nx σ H1
theorem wW {c:Expr} {body:List Stmt} {tc:TT} {tb:TS} (hp:PassesOwn (model X.prog X.w) X.A X.env X.xe) (hc:PT X c tc) (hb:PSs X body tb):PS X (.While c body [] pos) (dZH tc tb):=by
 intro pins s σ H D I h;obtain ⟨W,⟨m0,w0⟩,turn⟩:=h;refine wpAny_While (codeAny_whileLoop (λn s'=>∃ σ' H',Inv X pins σ' H' s'/\W n σ' H') ?_ m0 ⟨σ,H,I,w0⟩);rintro n s1 ⟨σ1,H1,I1,w1⟩;refine Ey hp (thn (hc pins s1 σ1 H1 _ I1 (turn n σ1 H1 w1)) λb s2 ⟨H2,I2,q2⟩=>?_);cases b with
 | true=>
   obtain ⟨N,hN,q2⟩:=q2;rw [if_pos rfl];refine Ey hp (thn (hb pins s2 σ1 H2 _ I2 q2) λf s3 q3=>?_);cases f with
   | next=>
     obtain ⟨σ3,H3,I3,n3⟩:=q3;obtain ⟨m',hm,w3⟩:=hN σ3 H3 n3;exact ⟨m',hm,σ3,H3,I3,w3⟩
   | cont=>
     obtain ⟨σ3,H3,I3,n3⟩:=q3;obtain ⟨m',hm,w3⟩:=hN σ3 H3 n3;exact ⟨m',hm,σ3,H3,I3,w3⟩
   | brk=>exact q3
   | ret v=>exact q3
 | false=>
   rw [if_neg Aq];exact wpAny_execs_nil ⟨σ1,H2,I2,q2⟩
end
structure It where
 go:Nat->Hp->Prop
 yld:Nat->Hp->V->Hp->Prop
 stop:Nat->Hp->Prop
def lB (X:Cx) (pins:List (Addr×Obj)) (H:Hp) (b:Addr):Prop :=
 H b=none/\b≠X.env.locals/\b ∉ X.fs/\(b ∈ X.ex\/X.s₀.heap.objs.size<=b)/\(∀ x c,X.env.cells.lookup x=some c->c≠b)/\∀ p ∈ X.pn++pins,p.1≠b
theorem Inv.fpOk {X:Cx} {pins:Q2} {σ:St} {H H':Hp} {s:Shared} {b:Addr} (I:Inv X pins σ H s) (hb:s.heap.objs.size<=b) (hn:H' b=none):lB X pins H' b:=by
 refine ⟨hn,Gm (Bh I.lt hb),I.nofs hb,.inr (Bc I.sz hb),λx c e z=>?_,λp hp z=>?_⟩
 · obtain ⟨v,q⟩:=I.cell x c e;exact absurd (Bh q.lt (by rw [z]; exact hb)) (Di _)
 · exact absurd (Bh (Ar (I.pin p hp).1) (by rw [z]; exact hb)) (Di _)
structure Turn (P:Program) (w:World) (K:PySem.W.Frag) (tg:Expr) (J:It) (fp:List Addr) (it:Addr) (tn:Nat->Heap->Prop):Prop where
 mem:it∈fp
 obj:∀ i h,tn i h->∀ b∈fp,∃ o,h.get? b=some o/\∀ v,o.data≠.cell v
 keep:∀ i h h',tn i h->(∀ b∈fp,∀ o,h.get? b=some o->h'.get? b=some o)->tn i h'
 item:∀ (X:Cx),X.prog=P->X.w=w->X.K=K->X.calm=true->∀ (i:Nat) (pins:Q2) (s:Shared) (σ:St) (H:Hp) (E:Q0),Inv X pins σ H s->(∀ b∈fp,lB X pins H b)->tn i s.heap->J.go i H->
   wpAny (model P w) X.A (pyNext (.ref it)) (λr s1=>∃ u,r=some u/\
     wpAny (model P w) X.A (letOwnedTupleGo tg (.ref it) u) (λ_ s2=>∃ x H',Inv X pins σ H' s2/\RelV x u/\J.yld i H x H'/\tn (i+1) s2.heap/\∀ b∈fp,H' b=none) E s1) E s
 done:∀ (X:Cx),X.prog=P->X.w=w->X.K=K->X.calm=true->∀ (i:Nat) (pins:Q2) (s:Shared) (σ:St) (H:Hp) (E:Q0),Inv X pins σ H s->(∀ b∈fp,lB X pins H b)->tn i s.heap->J.stop i H->
   wpAny (model P w) X.A (pyNext (.ref it)) (λr s1=>r=none/\Inv X pins σ H s1) E s
 self:∀ (A:Around) (i:Nat) (s:Shared) (Q:Q0) (E:Q0),tn i s.heap->Q (.ref it) s->wpAny (model P w) A (pyIter (.ref it)) Q E s
abbrev TI:=St->Hp->(It->Hp->Prop)->Prop
def PIE (X:Cx) (pins:List (Addr×Obj)) (σ:St) (tg:Expr) (R:It->Hp->Prop) (itv:Value) (s2:Shared):Prop :=
 ∃ (it:Addr) (fp:List Addr) (tn:Nat->Heap->Prop) (J:It) (H':Hp),itv=.ref it/\Inv X pins σ H' s2/\Turn X.prog X.w X.K tg J fp it tn/\tn 0 s2.heap/\(∀ b∈fp,lB X pins H' b)/\R J H'
def PI (X:Cx) (tg iter:Expr) (wi:TI):Prop :=
 ∀ (pins:Q2) (s:Shared) (σ:St) (H:Hp) (R:It->Hp->Prop),Inv X pins σ H s->wi σ H R->
   wpAny (model X.prog X.w) X.A (eval iter X.env) (λv s1=>wpAny (model X.prog X.w) X.A (pyIter v) (PIE X pins σ tg R) X.xe s1) X.xe s
theorem qI {M:Model} {A:Around} {E:Q0} {s:Shared} {tg:Expr} {it:Addr} {u:Value} {o:Obj} {n:String} {vs:Array Value} {Q:Unit->Shared->Prop} (ho:s.heap.get? it=some o) (hc:o.cls=.type n) (hd:o.data=.fields vs)
   (hn:["enumerate", "zip", "dict_itemiterator", "dict_reverseitemiterator", "odict_iterator", "itertools.zip_longest", "itertools.pairwise"].contains n=false) (hQ:Q () s):wpAny M A (letOwnedTupleGo tg (.ref it) u) Q E s:=by
 unfold letOwnedTupleGo;cases tg <;> first
   | exact Al hQ
   | (cases u <;> first
       | exact Al hQ
       | (refine Ad (wpAny_load ho ?_)
          rw [hc,hd];show wpAny M A (if (["enumerate", "zip", "dict_itemiterator", "dict_reverseitemiterator", "odict_iterator", "itertools.zip_longest", "itertools.pairwise"].contains n && vs[0]? == some (rawInt _))=true then _ else _) Q E s
          rw [if_neg (by intro h; rw [hn,Bool.false_and] at h; cases h)]
          exact Al hQ))
def Itl (K:PySem.W.Frag) (a:Addr):It :=
 ⟨λi H=>∃ xs x,SqL K H a xs/\xs[i]?=some x,λi H x H'=>H'=H/\∀ xs,SqL K H a xs->xs[i]?=some x,λi H=>∃ xs,SqL K H a xs/\xs.length<=i⟩
def Itr (lo:Int) (n:Nat):It:=⟨λi _=>i<n,λi H x H'=>H'=H/\x=.int (lo+i),λi _=>n<=i⟩
theorem bQH {P:Program} {w:World} {K:PySem.W.Frag} {tg:Expr} (a it:Addr):Turn P w K tg (Itl K a) [it] it (λi h=>h.IsListIter it a i) where
 mem:=by simp
 obj:=λi h st b hb=>by
   have e:b=it:=by simpa using hb
   subst e;obtain ⟨o,e,c,d⟩:=st;exact ⟨o,e,λv z=>by rw [d] at z; cases z⟩
 keep:=λi h h' st k=>st.at λo e=>k it (by simp) o e
 item:=by
   intro X hP hw hK hc i pins s σ H E I hf st hg;subst hP hw hK;obtain ⟨xs,x,hq,hx⟩:=hg;obtain ⟨its,rv,p,hz⟩:=I.list hq;obtain ⟨u,hu,ru⟩:=rv.get hx;obtain ⟨f0,f1,f2,f3,f4,f5⟩:=hf it (by simp)
   refine wpAny_pyNext_list_item st p.isList (x:=u) (by simpa using hu) λh' st' sb=>?_
   have I1:Inv X pins σ H { s with heap:=h' }:=I.turned (t':=s.toks) (λb o hb e=>(sb.2 b hb).trans e) f0 f1 f3 f4 f5
   obtain ⟨o,e,c,d⟩:=id st';exact ⟨u,rfl,qI (s:={ s with heap:=h' }) e c d (by decide) ⟨x,H,I1,ru,⟨rfl,λys hy=>by rw [I.list_inj hy hq]; exact hx⟩,st',λb hb=>(hf b hb).1⟩⟩
 done:=by
   intro X hP hw hK hc i pins s σ H E I hf st hg;subst hP hw hK;obtain ⟨xs,hq,hx⟩:=hg;obtain ⟨its,rv,p,hz⟩:=I.list hq;obtain ⟨f0,f1,f2,f3,f4,f5⟩:=hf it (by simp)
   have hl:=rv.length
   exact wpAny_pyNext_list_end (I.ok.hd hc) st p.isList (by simp; omega) λh' eb=>⟨rfl,I.turned (t':=s.toks) (λb o hb e=>eb b o hb e) f0 f1 f3 f4 f5⟩
 self:=λ_ _ _ _ _ st h=>wpAny_pyIter_listiter st h
theorem aQ8 {P:Program} {w:World} {K:PySem.W.Frag} {tg:Expr} (it:Addr) (lo:Int) (n:Nat):Turn P w K tg (Itr lo n) [it] it (λi h=>IsRangeIter h it (lo+(i:Nat) * 1) ((n:Int) - (i:Nat)) 1) where
 mem:=by simp
 obj:=λi h st b hb=>by
   have e:b=it:=by simpa using hb
   subst e;exact ⟨_,st,λv z=>by
     have z':Data.fields _=Data.cell v:=z
     cases z'⟩
 keep:=λi h h' st k=>k it (by simp) _ st
 item:=by
   intro X hP hw hK hc i pins s σ H E I hf st hg;subst hP hw hK;obtain ⟨f0,f1,f2,f3,f4,f5⟩:=hf it (by simp)
   have W:=Walks.range (prog:=X.prog) (w:=X.w) (I.ok.hd hc) it lo 1 n
   refine W.item i s _ _ hg st λv h' tk hv st' kk=>?_;obtain ⟨t,rfl⟩:=hv;have I1:Inv X pins σ H { s with heap:=h',toks:=tk }:=I.turned (λb o hb e=>kk b o (by simpa using hb) e) f0 f1 f3 f4 f5
   refine ⟨_,rfl,qI (s:={ s with heap:=h',toks:=tk }) (n := "range_iterator") st' rfl rfl (by decide) ⟨.int (lo+i),H,I1,⟨t,?_⟩,⟨rfl,rfl⟩,st',λb hb=>(hf b hb).1⟩⟩
   rw [Int.mul_one]
 done:=by
   intro X hP hw hK hc i pins s σ H E I hf st hg;subst hP hw hK;obtain ⟨f0,f1,f2,f3,f4,f5⟩:=hf it (by simp)
   exact wpAny_pyNext_range_end (I.ok.hd hc) st (by have:n<=i:=hg; omega) λh' eb=>⟨rfl,I.turned (t':=s.toks) (λb o hb e=>eb b o hb e) f0 f1 f3 f4 f5⟩
 self:=λ_ _ _ _ _ st h=>wpAny_pyIter_rangeiter st h
end L2
namespace L2
open PySem PySem.Spec PyProof.Rows
section
variable {X:Cx} {tg:Expr}
theorem xV {pins:Q2} {σ:St} {H:Hp} {s:Shared} {R:It->Hp->Prop} {E:Q0} {lo hi:Int} {t u v:Tok} {tk:Nat} (I:Inv X pins σ H s) (h1:-(2 ^ 62)<=lo) (h2:lo<2 ^ 62) (h3:-(2 ^ 62)<=hi) (h4:hi<2 ^ 62)
   (q:R (Itr lo (hi - lo).toNat) H):wpAny (model X.prog X.w) X.A (pyIter (.ref s.heap.objs.size)) (PIE X pins σ tg R) E { s with heap:=s.heap.push { cls:=.type "range",data:=.fields #[.int lo t,.int hi u,.int 1 v] },toks:=tk }:=by
 refine wpAny_pyIter_range (IsRange.new ..) (small_one h1 h2 h3 h4) ?_;have I1:Inv X pins σ H { s with heap:=s.heap.push { cls:=.type "range",data:=.fields #[.int lo t,.int hi u,.int 1 v] },toks:=tk }:=I.kept λb o e=>Af _ e
 refine ⟨(s.heap.push { cls:=.type "range",data:=.fields #[.int lo t,.int hi u,.int 1 v] }).objs.size,[(s.heap.push { cls:=.type "range",data:=.fields #[.int lo t,.int hi u,.int 1 v] }).objs.size],_,_,H,rfl,
   I1.kept (t':=tk) λb o e=>Af _ e,aQ8 _ lo (hi - lo).toNat,?_,λb hb=>?_,q⟩
 · have e1:lo+((0:Nat):Int) * 1=lo:=by simp
   have e2:(((hi - lo).toNat:Nat):Int) - ((0:Nat):Int)=Builtin.Range.rangeSize lo hi 1:=by rw [rangeSize_one]; split <;> omega
   show IsRangeIter _ _ (lo+((0:Nat):Int) * 1) ((((hi - lo).toNat:Nat):Int) - ((0:Nat):Int)) 1
   rw [e1,e2];exact Ax _ rfl
 · have e:b=(s.heap.push { cls:=.type "range",data:=.fields #[.int lo t,.int hi u,.int 1 v] }).objs.size:=by simpa using hb
   subst e;exact I1.fpOk (Ah _) (I1.hok.fresh (Ah _))
def eZL (wi:TI) (g:TG) (tb:TS):TS:=λD σ H=>wi σ H λJ H1=>∃ W:Nat->Nat->St->Hp->Prop,(∃ m,W 0 m σ H1)/\∀ i m σ H,W i m σ H->
 (J.stop i H/\D.nx σ H)\/(J.go i H/\∃ N:St->Hp->Prop,(∀ σ' H',N σ' H'->∃ m',m' < m/\W (i+1) m' σ' H')/\∀ x H',J.yld i H x H'->g x σ H' λσ2 H2=>tb { D with nx:=N,ct:=N,bk:=D.nx } σ2 H2)
def nP (fp:List Addr) (h:Heap):List (Addr×Obj):=fp.filterMap λb=>(h.get? b).map λo=>(b,o)
theorem jD {fp:List Addr} {h:Heap} {b:Addr} {o:Obj} (hb:b∈fp) (e:h.get? b=some o):(b,o)∈nP fp h:=Dn.mpr ⟨b,hb,by rw [e]; rfl⟩
theorem bQZ {fp:List Addr} {h:Heap} {p:Addr×Obj} (hp:p∈nP fp h):p.1∈fp/\h.get? p.1=some p.2:=by
 obtain ⟨b,hb,e⟩:=Dn.mp hp;cases q:h.get? b with
 | none=>rw [q] at e; cases e
 | some o=>
   rw [q] at e;have e':(b,o)=p:=Bo e
   subst e';exact ⟨hb,q⟩
theorem Inv.pinned {pins:Q2} {σ:St} {H:Hp} {s:Shared} {fp:List Addr} (I:Inv X pins σ H s) (hf:∀ b∈fp,lB X pins H b) (ho:∀ b∈fp,∃ o,s.heap.get? b=some o/\∀ v,o.data≠.cell v):Inv X (pins++nP fp s.heap) σ H s :=
 I.pins_of λp hp=>(Bk.mp hp).elim (λz=>I.pin p (Bq _ z)) λz=>by
   obtain ⟨hb,e⟩:=bQZ z;obtain ⟨f0,f1,f2,_⟩:=hf p.1 hb;obtain ⟨o,e',d⟩:=ho p.1 hb;rw [e] at e'; cases e';exact ⟨e,f0,f1,f2,d⟩
theorem Inv.unpinned {pins pl:Q2} {σ:St} {H:Hp} {s:Shared} (I:Inv X (pins++pl) σ H s):Inv X pins σ H s:=I.pins_of λp hp=>I.pin p (Bq _ (Cr _ hp))
theorem dZJ {iter:Expr} {body:List Stmt} {wi:TI} {g:TG} {tb:TS} {pos:Pos} (hp:PassesOwn (model X.prog X.w) X.A X.env X.xe) (hc:X.calm=true) (hi:PI X tg iter wi) (hg:PG X tg g) (hb:PSs X body tb)
   (hs:∀ x,foldedSetIterable iter X.env x=pure x:=by intro _; rfl):PS X (.For tg iter body [] pos) (eZL wi g tb):=by
 intro pins s σ H D I h;refine wpAny_For (thn (hi pins s σ H _ I h) λv s1 h1=>thn h1 λitv s2 h2=>?_) hs;obtain ⟨it,fp,tn,J,H2,e,I2,T,st2,f2,W,⟨m0,w0⟩,turn⟩:=h2;subst e
 -- what stays true of the iterator's objects through the loop
 have stat:∀ {H':Hp},(∀ b∈fp,H' b=none)->∀ b∈fp,lB X pins H' b:=λhn b hb=>⟨hn b hb,(f2 b hb).2⟩
 refine codeAny_forLoop_any (λn s'=>∃ i σ' H',Inv X pins σ' H' s'/\tn i s'.heap/\(∀ b∈fp,H' b=none)/\W i n σ' H') ?_ m0 ⟨0,σ,H2,I2,st2,λb hb=>(f2 b hb).1,w0⟩;rintro n s3 ⟨i,σ3,H3,I3,st3,fr3,w3⟩;rcases turn i n σ3 H3 w3 with ⟨stop,qn⟩ | ⟨go,N,hN,step⟩
 · refine Ey hp (thn (T.done X rfl rfl rfl hc i pins s3 σ3 H3 X.xe I3 (stat fr3) st3 stop) λr s4 ⟨hr,I4⟩=>?_);subst hr;exact wpAny_execs_nil ⟨σ3,H3,I4,qn⟩
 · refine Ey hp (thn (T.item X rfl rfl rfl hc i pins s3 σ3 H3 X.xe I3 (stat fr3) st3 go) λr s4 ⟨u,hr,h4⟩=>?_);subst hr;refine Ey hp (thn h4 λ_ s5 ⟨x,H5,I5,r5,y5,st5,fr5⟩=>?_);have I5':=I5.pinned (stat fr5) (T.obj _ _ st5)
   refine Ey hp (thn (hg _ s5 σ3 H5 x u _ I5' r5 (step x H5 y5)) λ_ s6 ⟨σ6,H6,I6,q6⟩=>?_);refine Ey hp (thn (hb _ s6 σ6 H6 _ I6 q6) λf s7 q7=>?_);have again:∀ {σ7:St} {H7:Hp},Inv X (pins++nP fp s5.heap) σ7 H7 s7->N σ7 H7->∃ m,m<n/\∃ i σ' H',Inv X pins σ' H' s7/\tn i s7.heap/\(∀ b∈fp,H' b=none)/\W i m σ' H':=fun {σ7 H7} I7 n7=>by
     obtain ⟨m',hm,w7⟩:=hN σ7 H7 n7;refine ⟨m',hm,i+1,σ7,H7,I7.unpinned,T.keep _ _ _ st5 λb hb o e=>(I7.pin (b,o) (Bq _ (Bq _ (jD hb e)))).1,λb hb=>?_,w7⟩;obtain ⟨o,e,d⟩:=T.obj _ _ st5 b hb;exact (I7.pin (b,o) (Bq _ (Bq _ (jD hb e)))).2.1
   cases f with
   | next=>obtain ⟨σ7,H7,I7,n7⟩:=q7; exact again I7 n7
   | cont=>obtain ⟨σ7,H7,I7,n7⟩:=q7; exact again I7 n7
   | brk=>obtain ⟨σ7,H7,I7,q7⟩:=q7; exact ⟨σ7,H7,I7.unpinned,q7⟩
   | ret v=>obtain ⟨x7,σ7,H7,I7,r7,q7⟩:=q7; exact ⟨x7,σ7,H7,I7.unpinned,r7,q7⟩
end
theorem cQM {K:PySem.W.Frag} {a:Addr} {xs:List V} {g:TG} {tb:TS} {D:Ends} {σ:St} {H:Hp} (Pv:Nat->St->Hp->Prop) (h0:Pv 0 σ H) (hl:∀ i σ H,i<=xs.length->Pv i σ H->SqL K H a xs)
   (hs:∀ i x σ H,xs[i]?=some x->Pv i σ H->g x σ H λσ2 H2=>tb { D with nx:=Pv (i+1),ct:=Pv (i+1),bk:=D.nx } σ2 H2) (hd:∀ σ H,Pv xs.length σ H->D.nx σ H) :
   ∃ W:Nat->Nat->St->Hp->Prop,(∃ m,W 0 m σ H)/\∀ i m σ H,W i m σ H->
     ((Itl K a).stop i H/\D.nx σ H)\/((Itl K a).go i H/\∃ N:St->Hp->Prop,(∀ σ' H',N σ' H'->∃ m',m' < m/\W (i+1) m' σ' H')/\∀ x H',(Itl K a).yld i H x H'->g x σ H' λσ2 H2=>tb { D with nx:=N,ct:=N,bk:=D.nx } σ2 H2):=by
 refine ⟨λi m σ H=>m=xs.length - i/\i<=xs.length/\Pv i σ H,⟨xs.length,by simp,Nat.zero_le _,h0⟩,?_⟩
 rintro i m σ H ⟨rfl,hi,p⟩;have q:=hl i σ H hi p
 by_cases hlt:i<xs.length
 · refine .inr ⟨⟨xs,xs[i],q,by simp [hlt]⟩,Pv (i+1),λσ' H' p'=>⟨xs.length - (i+1),by omega,rfl,hlt,p'⟩,λx H' y=>?_⟩
   obtain ⟨e,y⟩:=y;subst e;exact hs i x σ _ (y xs q) p
 · have e:i=xs.length:=by omega
   subst e;exact .inl ⟨⟨xs,q,Ah _⟩,hd σ H p⟩
theorem bQ2 {lo:Int} {n:Nat} {g:TG} {tb:TS} {D:Ends} {σ:St} {H:Hp} (Pv:Nat->St->Hp->Prop) (h0:Pv 0 σ H)
   (hs:∀ i σ H,i<n->Pv i σ H->g (.int (lo+i)) σ H λσ2 H2=>tb { D with nx:=Pv (i+1),ct:=Pv (i+1),bk:=D.nx } σ2 H2) (hd:∀ σ H,Pv n σ H->D.nx σ H) :
   ∃ W:Nat->Nat->St->Hp->Prop,(∃ m,W 0 m σ H)/\∀ i m σ H,W i m σ H->
     ((Itr lo n).stop i H/\D.nx σ H)\/((Itr lo n).go i H/\∃ N:St->Hp->Prop,(∀ σ' H',N σ' H'->∃ m',m' < m/\W (i+1) m' σ' H')/\∀ x H',(Itr lo n).yld i H x H'->g x σ H' λσ2 H2=>tb { D with nx:=N,ct:=N,bk:=D.nx } σ2 H2):=by
 refine ⟨λi m σ H=>m=n - i/\i<=n/\Pv i σ H,⟨n,by simp,Nat.zero_le _,h0⟩,?_⟩
 rintro i m σ H ⟨rfl,hi,p⟩;by_cases hlt:i<n
 · refine .inr ⟨hlt,Pv (i+1),λσ' H' p'=>⟨n - (i+1),by omega,rfl,hlt,p'⟩,λx H' y=>?_⟩
   obtain ⟨e,y⟩:=y;subst e y;exact hs i σ _ hlt p
 · have e:i=n:=by omega
   subst e;exact .inl ⟨Ah _,hd σ H p⟩
end L2
namespace L2
open PySem PySem.Spec PyProof.Rows
abbrev R2:=V->V->Hp->VK->Prop
def OpR (X:Cx) (f:Value->Value->Sem Value) (r:R2):Prop :=
 ∀ (pins:Q2) (s:Shared) (σ:St) (H:Hp) (x y:V) (v u:Value) (Q:VK),Inv X pins σ H s->RelV x v->RelV y u->r x y H Q->
   wpAny (model X.prog X.w) X.A (f v u) (EP X pins σ Q) X.xe s
def UnR (X:Cx) (f:Value->Sem Value) (r:V->Hp->VK->Prop):Prop :=
 ∀ (pins:Q2) (s:Shared) (σ:St) (H:Hp) (x:V) (v:Value) (Q:VK),Inv X pins σ H s->RelV x v->r x H Q->
   wpAny (model X.prog X.w) X.A (f v) (EP X pins σ Q) X.xe s
def CallR (X:Cx) (f:Value) (r:List V->Hp->VK->Prop):Prop :=
 ∀ (pins:Q2) (s:Shared) (σ:St) (H:Hp) (xs:List V) (us:List Value) (Q:VK),Inv X pins σ H s->Vals xs us->r xs H Q->
   wpAny (model X.prog X.w) X.A (call f us) (EP X pins σ Q) X.xe s
def eX7 (X:Cx) (r:V->Hp->(Bool->Hp->Prop)->Prop):Prop :=
 ∀ (pins:Q2) (s:Shared) (σ:St) (H:Hp) (x:V) (v:Value) (Q:Bool->Hp->Prop),Inv X pins σ H s->RelV x v->r x H Q->
   wpAny (model X.prog X.w) X.A (truthy v) (TP X pins σ Q) X.xe s
def tOp (r:R2) (ta tb:TE):TE:=λσ H Q=>ta σ H λx H1=>tb σ H1 λy H2=>r x y H2 Q
def tUn (r:V->Hp->VK->Prop) (ta:TE):TE:=λσ H Q=>ta σ H λx H1=>r x H1 Q
def rI (C:Int->Int->Prop) (g:Int->Int->V):R2:=λx y H Q=>∃ i j,x=.int i/\y=.int j/\C i j/\Q (g i j) H
def rI0 (g:Int->Int->V):R2:=λx y H Q=>∃ i j,x=.int i/\y=.int j/\Q (g i j) H
def rU (g:Int->V):V->Hp->VK->Prop:=λx H Q=>∃ i,x=.int i/\Q (g i) H
section
variable {X:Cx} {a b c:Expr} {ta tb tc:TE} {pos:Pos}
theorem dX9 (ha:PE X a ta) (hb:PE X b tb) {pins:Q2} {s:Shared} {σ:St} {H:Hp} {R:V->V->Hp->Prop} (I:Inv X pins σ H s)
   (h:ta σ H λx H1=>tb σ H1 λy H2=>R x y H2) {Q:Q0} {f:Value->Value->Sem Value}
   (hf:∀ v u s2 x y H2,Inv X pins σ H2 s2->RelV x v->RelV y u->R x y H2->wpAny (model X.prog X.w) X.A (f v u) Q X.xe s2) :
   wpAny (model X.prog X.w) X.A (eval a X.env) (λv s₁=>wpAny (model X.prog X.w) X.A (eval b X.env) (λu s₂=>wpAny (model X.prog X.w) X.A (f v u) Q X.xe s₂) X.xe s₁) X.xe s:=by
 refine thn (ha pins s σ H _ I h) λv s1 ⟨x,H1,I1,r1,q1⟩=>?_;refine thn (hb pins s1 σ H1 _ I1 q1) λu s2 ⟨y,H2,I2,r2,q2⟩=>?_;exact hf v u s2 x y H2 I2 r1 r2 q2
theorem aX {op:Operator} {r:R2} (ho:OpR X (binaryOp op) r) (ha:PE X a ta) (hb:PE X b tb):PE X (.BinOp a op b pos) (tOp r ta tb):=by
 intro pins s σ H Q I h;exact wpAny_BinOp (dX9 ha hb I h λv u s2 x y H2 I2 rx ry q=>ho pins s2 σ H2 x y v u Q I2 rx ry q)
theorem cJ9 {op:UnaryOp} {r:V->Hp->VK->Prop} (ho:UnR X (unaryOp op) r) (ha:PE X a ta):PE X (.UnaryOp op a pos) (tUn r ta):=by
 intro pins s σ H Q I h;exact UnaryOp_ (thn (ha pins s σ H _ I h) λv s1 ⟨x,H1,I1,r1,q1⟩=>ho pins s1 σ H1 x v Q I1 r1 q1)
theorem opI {f:Value->Value->Sem Value} {C:Int->Int->Prop} {g:Int->Int->Int}
   (rule:∀ (i j:Int) (t u:Tok) (s:Shared) (Q:Q0) (E:Q0),C i j->Q (.int (g i j) s.toks) { s with toks:=s.toks+1 }->wpAny (model X.prog X.w) X.A (f (.int i t) (.int j u)) Q E s) :
   OpR X f (rI C λi j=>.int (g i j)):=by
 intro pins s σ H x y v u Q I rx ry h;obtain ⟨i,j,rfl,rfl,hc,q⟩:=h;obtain ⟨t,rfl⟩:=rx;obtain ⟨t',rfl⟩:=ry;exact rule i j t t' s _ _ hc ⟨.int (g i j),H,I.tok _,⟨_,rfl⟩,q⟩
theorem dJ4 {f:Value->Value->Sem Value} {g:Int->Int->Int}
   (rule:∀ (i j:Int) (t u:Tok) (s:Shared) (Q:Q0) (E:Q0),Q (.int (g i j) s.toks) { s with toks:=s.toks+1 }->wpAny (model X.prog X.w) X.A (f (.int i t) (.int j u)) Q E s) :
   OpR X f (rI0 λi j=>.int (g i j)):=by
 intro pins s σ H x y v u Q I rx ry h;obtain ⟨i,j,rfl,rfl,q⟩:=h;obtain ⟨t,rfl⟩:=rx;obtain ⟨t',rfl⟩:=ry;exact rule i j t t' s _ _ ⟨.int (g i j),H,I.tok _,⟨_,rfl⟩,q⟩
theorem eXY {f:Value->Value->Sem Value} {g:Int->Int->Bool}
   (rule:∀ (i j:Int) (t u:Tok) (s:Shared) (Q:Q0) (E:Q0),Q (.bool (g i j)) s->wpAny (model X.prog X.w) X.A (f (.int i t) (.int j u)) Q E s) :
   OpR X f (rI0 λi j=>.bl (g i j)):=by
 intro pins s σ H x y v u Q I rx ry h;obtain ⟨i,j,rfl,rfl,q⟩:=h;obtain ⟨t,rfl⟩:=rx;obtain ⟨t',rfl⟩:=ry;exact rule i j t t' s _ _ ⟨.bl (g i j),H,I,rfl,q⟩
def eQW (i j:Int):Prop:=0<j/\j<1073741824
def CMul (i j:Int):Prop:=(-(2 ^ 64)<i/\i<2 ^ 64)\/(-(2 ^ 64)<j/\j<2 ^ 64)
theorem CMul.ok {i j:Int} (h:CMul i j):IntMulOk i j:=by
 rcases h with ⟨h1,h2⟩ | ⟨h1,h2⟩
 · exact .of_left (intBits_le_64 h1 h2)
 · exact .of_right (intBits_le_64 h1 h2)
theorem dQ0:OpR X (binaryOp .Add) (rI0 λi j=>.int (i+j)):=dJ4 λ_ _ _ _ _ _ _ q=>add_int q
theorem op_sub:OpR X (binaryOp .Sub) (rI0 λi j=>.int (i - j)):=dJ4 λ_ _ _ _ _ _ _ q=>sub_int q
theorem op_mul:OpR X (binaryOp .Mult) (rI CMul λi j=>.int (i * j)):=opI λ_ _ _ _ _ _ _ hc q=>mul_int q hc.ok
theorem op_fdiv:OpR X (binaryOp .FloorDiv) (rI eQW λi j=>.int (i / j)):=opI λi j _ _ _ _ _ hc q=>by
 have h1:(0:Int)<j:=hc.1
 have h2:j<1073741824:=hc.2
 exact floordiv_int (by omega) (by rw [Int.fdiv_eq_ediv_of_nonneg i (by omega)]; exact q) (.inl (PyProof.noPylong_small (by omega)))
theorem op_mod:OpR X (binaryOp .Mod) (rI (λ_ j=>0<j) λi j=>.int (i % j)):=opI λi j _ _ _ _ _ hc q=>by
 have h1:(0:Int)<j:=hc
 exact mod_int' (by omega) (by rw [Int.fmod_eq_emod_of_nonneg i (by omega)]; exact q)
theorem unI {f:Value->Sem Value} {g:Int->Int}
   (rule:∀ (i:Int) (t:Tok) (s:Shared) (Q:Q0) (E:Q0),Q (.int (g i) s.toks) { s with toks:=s.toks+1 }->wpAny (model X.prog X.w) X.A (f (.int i t)) Q E s) :
   UnR X f (rU λi=>.int (g i)):=by
 intro pins s σ H x v Q I rx h;obtain ⟨i,rfl,q⟩:=h;obtain ⟨t,rfl⟩:=rx;exact rule i t s _ _ ⟨.int (g i),H,I.tok _,⟨_,rfl⟩,q⟩
theorem dQU:UnR X (unaryOp .USub) (rU λi=>.int (-i)):=unI λ_ _ _ _ _ q=>neg_int q
end
def cZ8:V->V->Bool
 | .non,.non=>true | .non,.int _=>true | .int _,.non=>true | .non,.bl _=>true | .bl _,.non=>true | .non,.str _=>true | .str _,.non=>true
 | .int _,.int _=>true | .bl _,.bl _=>true | .str _,.str _=>true | .byt _,.byt _=>true
 | .int _,.str _=>true | .str _,.int _=>true | .bl _,.str _=>true | .str _,.bl _=>true
 | _,_=>false
def rEq:R2:=λx y H Q=>cZ8 x y=true/\Q (.bl (decide (x=y))) H
def rNe:R2:=λx y H Q=>cZ8 x y=true/\Q (.bl (!decide (x=y))) H
theorem aZE {i j:Int}:decide (V.int i=V.int j)=(i == j):=by
 rw [Bool.eq_iff_iff];simp
theorem bXV {i j:Bool}:decide (V.bl i=V.bl j)=(i == j):=by
 rw [Bool.eq_iff_iff];simp
theorem uN {i j:Str}:decide (V.str i=V.str j)=(i == j):=by
 rw [Bool.eq_iff_iff];simp
theorem aXS {i j:Array UInt8}:decide (V.byt i=V.byt j)=(i.toList == j.toList):=by
 rw [Bool.eq_iff_iff];cases i;cases j;simp
section
variable {X:Cx} {a b c:Expr} {ta tb tc:TE} {pos:Pos}
theorem bS {pins:Q2} {σ:St} {H:Hp} {s:Shared} {Q:VK} {k k':Bool} (I:Inv X pins σ H s) (q:Q (.bl k) H) (e:k=k'):EP X pins σ Q (.bool k') s:=by
 subst e;exact ⟨.bl k,H,I,rfl,q⟩
theorem eXQ:OpR X (compareOp .Eq) rEq:=by
 intro pins s σ H x y v u Q I rx ry h;obtain ⟨hs,q⟩:=h;cases x with
 | non=>
   cases rx;cases y with
   | non=>cases ry; exact PySem.EqNone.eq_none_none (bS I q (by simp))
   | bl j=>cases ry; exact PySem.EqNone.eq_none_bool (bS I q (by simp))
   | int j=>obtain ⟨t',rfl⟩:=ry; exact PySem.EqNone.eq_none_int (bS I q (by simp))
   | str j=>obtain ⟨t',rfl⟩:=ry; exact PySem.EqNone.eq_none_str (bS I q (by simp))
   | _=>exact absurd (show false=true from hs) Aq
 | bl i=>
   cases rx;cases y with
   | non=>cases ry; exact PySem.EqNone.eq_bool_none (bS I q (by simp))
   | bl j=>cases ry; exact eq_bool (bS I q bXV)
   | str j=>obtain ⟨t',rfl⟩:=ry; exact PySem.EqMixed.eq_bool_str (bS I q (by simp))
   | _=>exact absurd (show false=true from hs) Aq
 | int i=>
   obtain ⟨t,rfl⟩:=rx;cases y with
   | non=>cases ry; exact PySem.EqNone.eq_int_none (bS I q (by simp))
   | int j=>obtain ⟨t',rfl⟩:=ry; exact eq_int (bS I q aZE)
   | str j=>obtain ⟨t',rfl⟩:=ry; exact PySem.EqMixed.eq_int_str (bS I q (by simp))
   | _=>exact absurd (show false=true from hs) Aq
 | str i=>
   obtain ⟨t,rfl⟩:=rx;cases y with
   | non=>cases ry; exact PySem.EqNone.eq_str_none (bS I q (by simp))
   | bl j=>cases ry; exact PySem.EqMixed.eq_str_bool (bS I q (by simp))
   | int j=>obtain ⟨t',rfl⟩:=ry; exact PySem.EqMixed.eq_str_int (bS I q (by simp))
   | str j=>obtain ⟨t',rfl⟩:=ry; exact eq_str (bS I q uN)
   | _=>exact absurd (show false=true from hs) Aq
 | byt i=>
   obtain ⟨t,rfl⟩:=rx;cases y with
   | byt j=>obtain ⟨t',rfl⟩:=ry; exact PySem.W.eq_bytes (bS I q aXS)
   | _=>exact absurd (show false=true from hs) Aq
 | _=>cases y <;> exact absurd (show false=true from hs) Aq
theorem eQ9:OpR X (compareOp .NotEq) rNe:=by
 intro pins s σ H x y v u Q I rx ry h;obtain ⟨hs,q⟩:=h;cases x with
 | non=>
   cases rx;cases y with
   | non=>cases ry; exact PySem.EqNone.ne_none_none (bS I q (by simp))
   | bl j=>cases ry; exact PySem.EqNone.ne_none_bool (bS I q (by simp))
   | int j=>obtain ⟨t',rfl⟩:=ry; exact PySem.EqNone.ne_none_int (bS I q (by simp))
   | str j=>obtain ⟨t',rfl⟩:=ry; exact PySem.EqNone.ne_none_str (bS I q (by simp))
   | _=>exact absurd (show false=true from hs) Aq
 | bl i=>
   cases rx;cases y with
   | non=>cases ry; exact PySem.EqNone.ne_bool_none (bS I q (by simp))
   | bl j=>cases ry; exact ne_bool (bS I q (Cw not bXV))
   | str j=>obtain ⟨t',rfl⟩:=ry; exact PySem.EqMixed.ne_bool_str (bS I q (by simp))
   | _=>exact absurd (show false=true from hs) Aq
 | int i=>
   obtain ⟨t,rfl⟩:=rx;cases y with
   | non=>cases ry; exact PySem.EqNone.ne_int_none (bS I q (by simp))
   | int j=>obtain ⟨t',rfl⟩:=ry; exact ne_int (bS I q (Cw not aZE))
   | str j=>obtain ⟨t',rfl⟩:=ry; exact PySem.EqMixed.ne_int_str (bS I q (by simp))
   | _=>exact absurd (show false=true from hs) Aq
 | str i=>
   obtain ⟨t,rfl⟩:=rx;cases y with
   | non=>cases ry; exact PySem.EqNone.ne_str_none (bS I q (by simp))
   | bl j=>cases ry; exact PySem.EqMixed.ne_str_bool (bS I q (by simp))
   | int j=>obtain ⟨t',rfl⟩:=ry; exact PySem.EqMixed.ne_str_int (bS I q (by simp))
   | str j=>obtain ⟨t',rfl⟩:=ry; exact ne_str (bS I q (Cw not uN))
   | _=>exact absurd (show false=true from hs) Aq
 | byt i=>
   obtain ⟨t,rfl⟩:=rx;cases y with
   | byt j=>obtain ⟨t',rfl⟩:=ry; exact PySem.W.ne_bytes (bS I q (Cw not aXS))
   | _=>exact absurd (show false=true from hs) Aq
 | _=>cases y <;> exact absurd (show false=true from hs) Aq
theorem op_lt:OpR X (compareOp .Lt) (rI0 λi j=>.bl (decide (i<j))):=eXY λ_ _ _ _ _ _ _ q=>lt_int q
theorem op_gt:OpR X (compareOp .Gt) (rI0 λi j=>.bl (decide (j<i))):=eXY λ_ _ _ _ _ _ _ q=>gt_int q
theorem op_in_str:OpR X (compareOp .In) (λx y H Q=>∃ i j,x=.str i/\y=.str j/\Q (.bl (!(Builtin.Str.occurrences j i 0 j.length 1).isEmpty)) H):=by
 intro pins s σ H x y v u Q I rx ry h;obtain ⟨i,j,rfl,rfl,q⟩:=h;obtain ⟨t,rfl⟩:=rx;obtain ⟨t',rfl⟩:=ry;exact in_str (bS I q rfl)
theorem op_isN:OpR X (compareOp .Is) (λx y H Q=>y=.non/\Q (.bl (decide (x=.non))) H):=by
 intro pins s σ H x y v u Q I rx ry h;obtain ⟨rfl,q⟩:=h;cases ry;refine is_none_gen (bS I q ?_);cases x <;> first
   | (cases rx; rfl)
   | (obtain ⟨t,rfl⟩:=rx; rfl)
theorem op_notN:OpR X (compareOp .IsNot) (λx y H Q=>y=.non/\Q (.bl (!decide (x=.non))) H):=by
 intro pins s σ H x y v u Q I rx ry h;obtain ⟨rfl,q⟩:=h;cases ry;refine isnot_none_gen (bS I q ?_);cases x <;> first
   | (cases rx; rfl)
   | (obtain ⟨t,rfl⟩:=rx; rfl)
theorem bI (b:Expr) {op:CmpOp} (h:op≠.In:=by decide) (h2:op≠.NotIn:=by decide):behindInMarks op b=false:=by
 have e1:(op == CmpOp.In)=false:=by cases op <;> first | rfl | exact absurd rfl h
 have e2:(op == CmpOp.NotIn)=false:=by cases op <;> first | rfl | exact absurd rfl h2
 cases b <;> simp [behindInMarks,e1,e2]
theorem nF {op:CmpOp} {r:R2} (ho:OpR X (compareOp op) r) (ha:PE X a ta) (hb:PE X b tb) (hm:behindInMarks op b=false):PE X (.Compare a [op] [b] pos) (tOp r ta tb):=by
 intro pins s σ H Q I h;exact wpAny_Compare1 (dX9 ha hb I h λv u s2 x y H2 I2 rx ry q=>ho pins s2 σ H2 x y v u Q I2 rx ry q) hm
def dJS (K:PySem.W.Frag) (x:V) (H:Hp) (k:Bool):Prop :=
 match x with
 | .non=>k=false
 | .bl b=>k=b
 | .int i=>k=(i != 0)
 | .str y=>y.length<=sizeLine/\k=((y.length:Int) != 0)
 | .byt y=>y.size<=sizeLine/\k=((y.size:Int) != 0)
 | .ref p=>(∃ xs,SqL K H p xs/\k=!xs.isEmpty)\/(∃ xs,SqT K H p xs/\k=!xs.isEmpty)\/∃ kvs,H p=some (.dK kvs)/\k=!kvs.isEmpty
 | _=>False
theorem aQ6 {κ:Type} {kvs:List (κ×V)} {vs:List (κ×Value)} (r:KV kvs vs):(!vs.isEmpty)=!kvs.isEmpty:=by
 cases r <;> rfl
theorem qC {xs:List V} {its:List Value} (r:Vals xs its):(!its.toArray.isEmpty)=!xs.isEmpty:=by
 cases r <;> simp
theorem lR:(sizeLine:Nat)<2 ^ 63:=by rw [sizeLine_eq]; decide
theorem uO:eX7 X (λx H Q=>∃ k,dJS X.K x H k/\Q k H):=by
 intro pins s σ H x v Q I rx h;obtain ⟨k,e,q⟩:=h;have hl:=lR
 have hs:sizeLine=16777216:=sizeLine_eq
 cases x with
 | non=>
   cases rx;have e':k=false:=e
   subst e';exact truthy_none ⟨H,I,q⟩
 | bl b=>
   cases rx;have e':k=b:=e
   subst e';exact Ek ⟨H,I,q⟩
 | int i=>
   obtain ⟨t,rfl⟩:=rx;have e':k=(i != 0):=e
   subst e';exact PySem.P.truthy_int ⟨H,I,q⟩
 | str y=>
   obtain ⟨t,rfl⟩:=rx;obtain ⟨hy,e'⟩:y.length<=sizeLine/\k=((y.length:Int) != 0):=e;subst e';exact PySem.P.truthy_str (by omega) ⟨H,I.tok _,q⟩
 | byt y=>
   obtain ⟨t,rfl⟩:=rx;obtain ⟨hy,e'⟩:y.size<=sizeLine/\k=((y.size:Int) != 0):=e;subst e';exact PySem.W.truthy_bytes (by omega) ⟨H,I.tok _,q⟩
 | ref p=>
   cases rx;have e':(∃ xs,SqL X.K H p xs/\k=!xs.isEmpty)\/(∃ xs,SqT X.K H p xs/\k=!xs.isEmpty)\/∃ kvs,H p=some (.dK kvs)/\k=!kvs.isEmpty:=e
   rcases e' with ⟨xs,hx,e'⟩ | ⟨xs,hx,e'⟩ | ⟨kvs,hx,e'⟩
   · subst e';obtain ⟨its,r,pl,hz⟩:=I.list hx;have hlen:=r.length
     exact wpAny_truthy_list pl.isList (by simp only [List.size_toArray]; omega) ⟨H,I.tok _,by rw [qC r]; exact q⟩
   · subst e';obtain ⟨its,r,pl,hz⟩:=I.tuple hx;have hlen:=r.length
     exact truthy_tuple pl (by simp only [List.size_toArray]; omega) ⟨H,I.tok _,by rw [qC r]; exact q⟩
   · subst e';obtain ⟨hz,hS,vs,r,m⟩:kvs.length<=sizeLine/\(p == sysModules)=false/\∃ vs,KV kvs vs/\s.heap.DictOf (bE X.prog X.w) p vs:=I.hok p _ hx;have hlen:kvs.length=vs.length:=Paired.length r
     exact wpAny_truthy_dict hS m (by omega) ⟨H,I.tok _,by rw [aQ6 r]; exact q⟩
 | _=>exact (show False from e).elim
theorem zL:OpR X (binaryOp .Add) (λx y H Q=>∃ i j,x=.str i/\y=.str j/\i.length+j.length<=sizeLine/\Q (.str (i++j)) H):=by
 intro pins s σ H x y v u Q I rx ry h;obtain ⟨i,j,rfl,rfl,hz,q⟩:=h;obtain ⟨t,rfl⟩:=rx;obtain ⟨t',rfl⟩:=ry;exact add_str (λt' tk=>⟨.str (i++j),H,I.tok _,⟨_,rfl⟩,q⟩) hz
theorem fF {x:V} {us:List Value} (r:Vals [x] us):∃ u,us=[u]/\RelV x u:=by
 cases r with
 | cons r1 r2=>cases r2; exact ⟨_,rfl,r1⟩
theorem tR {x y:V} {us:List Value} (r:Vals [x,y] us):∃ u w',us=[u,w']/\RelV x u/\RelV y w':=by
 cases r with
 | cons r1 r2=>
   cases r2 with
   | cons r3 r4=>cases r4; exact ⟨_,_,rfl,r1,r3⟩
theorem aJB (hc:X.calm=true):CallR X (.builtin "max") (λxs H Q=>∃ i j,xs=[.int i,.int j]/\Q (.int (if j > i then j else i)) H):=by
 intro pins s σ H xs us Q I r h;obtain ⟨i,j,rfl,q⟩:=h;obtain ⟨u,w',rfl,⟨t,rfl⟩,⟨t',rfl⟩⟩:=tR r;refine max_two_ints (I.ok.hd hc) λh' tk k=>⟨_,H,I.kept k,?_,q⟩;by_cases hj:j > i
 · rw [if_pos hj,if_pos hj]; exact ⟨_,rfl⟩
 · rw [if_neg hj,if_neg hj]; exact ⟨_,rfl⟩
theorem aJU (hc:X.calm=true):CallR X (.builtin "min") (λxs H Q=>∃ i j,xs=[.int i,.int j]/\Q (.int (if j<i then j else i)) H):=by
 intro pins s σ H xs us Q I r h;obtain ⟨i,j,rfl,q⟩:=h;obtain ⟨u,w',rfl,⟨t,rfl⟩,⟨t',rfl⟩⟩:=tR r;refine min_two_ints (I.ok.hd hc) λh' tk k=>⟨_,H,I.kept k,?_,q⟩;by_cases hj:j<i
 · rw [if_pos hj,if_pos hj]; exact ⟨_,rfl⟩
 · rw [if_neg hj,if_neg hj]; exact ⟨_,rfl⟩
theorem call_int1:CallR X (.type "int") (λxs H Q=>(∃ i,xs=[.int i]/\Q (.int i) H)\/∃ k,xs=[.bl k]/\Q (.int (if k then 1 else 0)) H):=by
 intro pins s σ H xs us Q I r h;rcases h with ⟨i,rfl,q⟩ | ⟨k,rfl,q⟩
 · obtain ⟨u,rfl,t,rfl⟩:=fF r;exact call_int_int ⟨.int i,H,I,⟨_,rfl⟩,q⟩
 · obtain ⟨u,rfl,r1⟩:=fF r;cases r1;exact call_int_bool ⟨.int (if k then 1 else 0),H,I.tok _,⟨_,rfl⟩,q⟩
def eZJ (K:PySem.W.Frag) (x:V) (H:Hp) (n:Nat):Prop :=
 match x with
 | .str y=>y.length<=sizeLine/\n=y.length
 | .byt y=>y.size<=sizeLine/\n=y.size
 | .ref p=>(∃ xs,SqL K H p xs/\n=xs.length)\/∃ xs,SqT K H p xs/\n=xs.length
 | _=>False
theorem call_len:CallR X (.builtin "len") (λxs H Q=>∃ x n,xs=[x]/\eZJ X.K x H n/\Q (.int n) H):=by
 intro pins s σ H xs us Q I r h;obtain ⟨x,n,rfl,e,q⟩:=h;obtain ⟨u,rfl,rx⟩:=fF r;have hl:=lR
 have hs:sizeLine=16777216:=sizeLine_eq
 cases x with
 | str y=>
   obtain ⟨t,rfl⟩:=rx;obtain ⟨hy,e'⟩:y.length<=sizeLine/\n=y.length:=e;subst e';exact len_str (by omega) ⟨.int _,H,I.tok _,⟨_,rfl⟩,q⟩
 | byt y=>
   obtain ⟨t,rfl⟩:=rx;obtain ⟨hy,e'⟩:y.size<=sizeLine/\n=y.size:=e;subst e';exact PySem.W.len_bytes (by omega) ⟨.int _,H,I.tok _,⟨_,rfl⟩,q⟩
 | ref p=>
   cases rx;have e':(∃ xs,SqL X.K H p xs/\n=xs.length)\/∃ xs,SqT X.K H p xs/\n=xs.length:=e
   rcases e' with ⟨xs,hx,e'⟩ | ⟨xs,hx,e'⟩
   · subst e';obtain ⟨its,r',pl,hz⟩:=I.list hx;have hlen:=r'.length
     exact Calls.call_len_list pl.isList (by simp only [List.size_toArray]; omega) ⟨.int xs.length,H,I.tok _,⟨_,by simp only [List.size_toArray]; rw [hlen]⟩,q⟩
   · subst e';obtain ⟨its,r',pl,hz⟩:=I.tuple hx;have hlen:=r'.length
     exact len_tuple pl (by simp only [List.size_toArray]; omega) ⟨.int xs.length,H,I.tok _,⟨_,by simp only [List.size_toArray]; rw [hlen]⟩,q⟩
 | _=>exact (show False from e).elim
end
end L2
namespace L2
open PySem PySem.Spec PyProof.Rows
structure ObjM (h:Heap) (x dx C:Addr) (mA:Str->Option Value):Prop where
 obj:h.get? x=some (PySem.W.instObj C dx)
 ns:h.Ns1 dx mA
 ne:dx≠x
theorem uF {h:Heap} {dx:Addr} {mA:Q4} (n:h.Ns1 dx mA):∃ od,h.get? dx=some od/\∀ name,PySem.W.lookIn name od=some (mA name):=by
 obtain ⟨o,es,ep,ho,hd,hk,_,hm⟩:=n;refine ⟨o,ho,λname=>?_⟩;have e:=hm name
 unfold nsFind findBy at e;rw [<-Array.find?_toList] at e;unfold PySem.W.lookIn;rw [hd];dsimp only;split
 · rename_i y q
   rw [q] at e;exact Cw some e
 · rename_i q
   rw [q] at e;have a:es.toList.any (·.refKey)=false:=by
     rw [List.any_eq_false];intro y hy;obtain ⟨z,t,hkey⟩:=hk y (Array.mem_toList_iff.mp hy);simp [DictEntry.refKey,hkey]
   have a':¬ es.toList.any (·.refKey)=true:=by rw [a]; exact Aq
   rw [if_neg a'];exact Cw some e
theorem ObjM.look {h:Heap} {x dx C:Addr} {mA:Q4} (I:ObjM h x dx C mA):∃ od,PySem.W.InstAt h x (PySem.W.instObj C dx) C (some od)/\∀ name,PySem.W.lookIn name od=some (mA name) :=
 let ⟨od,ho,hl⟩:=uF I.ns
 ⟨od,⟨I.obj,rfl,rfl,ho⟩,hl⟩
section
variable {prog:Program} {w:World} {A:Around} {E:Q0} {s:Shared} {K:PySem.W.Frag} {x dx C f:Addr} {mA:Q4} {name:Str} {v:Value}
end
theorem RelO.some_of {v:V} {o:Option Value} (r:RelO (some v) o):∃ u,o=some u/\RelV v u:=by
 cases o with
 | none=>exact (show False from r).elim
 | some u=>exact ⟨u,rfl,r⟩
section
variable {P:Program} {w:World} {H H':Hp} {h h':Heap} {a C dx:Addr} {fs fs':List (Str×V)}
theorem cJB (hok:HOk P w H h) (e:H a=some (.ins C dx fs)):∃ mA,ObjM h a dx C mA/\(∀ f,RelO (fs.lookup f) (mA f))/\PySem.Within mA (fs.map (·.1))/\fs.length<=1000/\H dx=some (.own a):=by
 obtain ⟨d,z,ne,ob,mA,n,r,q⟩:=(show ObjOk P w H h a (.ins C dx fs) from hok a _ e);exact ⟨mA,⟨ob,n,ne⟩,r,q,z,d⟩
end
structure Cls (K:PySem.W.Frag) (C:Addr):Prop where
 pg:PySem.W.plainGet K C Str.empty=true
 hd:PySem.W.hasDictIn K C=true
 po:PySem.W.plainOver K C=true
 sa:PySem.W.findIn K (.ref C) "__setattr__"=some (some (.builtin "object.__setattr__"))
theorem Cls.get {K:PySem.W.Frag} {C:Addr} (c:Cls K C) (f:Str):PySem.W.plainGet K C f=true:=c.pg
section
variable {X:Cx} {pins:Q2} {σ:St} {H:Hp} {s:Shared} {a C dx:Addr} {fs:List (Str×V)} {f:Str} {v:V} {A:Around} {E:Q0}
theorem cXL {prog:Program} {w:World} {env:Env} {e:Expr} {f:Str} {pos:Pos} {s:Shared} {Q:Q0} (hb:attributeBase e f env (eval e env)=eval e env)
   (h:wpAny (model prog w) A (eval e env) (λo s₁=>wpAny (model prog w) A (getAttr o f true) Q E s₁) E s):wpAny (model prog w) A (eval (.Attribute e f pos) env) Q E s :=
 Attribute_any_ h (by rw [arm_eval_Attribute,hb])
end
section
variable {X:Cx} {o e value:Expr} {f:Str} {pos pos' tpos:Pos} {ta tv:TE}
end
section
variable {X:Cx} {pins:Q2} {σ:St} {H:Hp} {s:Shared} {A:Around} {E:Q0} {Q:Q0} {c:Value} {b:Bool}
inductive TyOf (K:PySem.W.Frag) (H:Hp):V->Value->Prop where
 | non:TyOf K H .non (.type "NoneType")
 | bl (x:Bool):TyOf K H (.bl x) (.type "bool")
 | int (i:Int):TyOf K H (.int i) (.type "int")
 | str (x:Str):TyOf K H (.str x) (.type "str")
 | flt (x:UInt64):TyOf K H (.flt x) (.type "float")
 | lst {a:Addr} {xs:List V} (e:H a=some (.lst xs)):TyOf K H (.ref a) (.type "list")
 | frz {a:Addr} {o:Obj} {xs:List V} (e:H a=some (.frz o (.lst xs))):TyOf K H (.ref a) (.type "list")
 | tup {a:Addr} {xs:List V} (e:H a=some (.tup xs)):TyOf K H (.ref a) (.type "tuple")
 | dK {a:Addr} {kvs:List (Key×V)} (e:H a=some (.dK kvs)):TyOf K H (.ref a) (.type "dict")
 | dT {a:Addr} {kvs:List (List Key×V)} (e:H a=some (.dT kvs)):TyOf K H (.ref a) (.type "dict")
 | ins {a C dx:Addr} {fs:List (Str×V)} (e:H a=some (.ins C dx fs)) (cl:Cls K C) (ha:PySem.W.findIn K (.ref C) "__class__"=some (some (.builtin "object.__class__")))
     (hn:PySem.W.specialIn K (.builtin "object.__class__") "__get__"=some (some (.builtin "getset_descriptor.__get__"))) (htk:PySem.W.takesIn K (.builtin "object.__class__")=some true)
     (hm:PySem.W.mroIn K C (.type "object")=some true):TyOf K H (.ref a) (.ref C)
theorem bQ6 {x:V} {u t:Value} (I:Inv X pins σ H s) (rx:RelV x u) (ty:TyOf X.K H x t) (e:PySem.W.kitOne X.K t c=some b) (h:∀ tk,Q (.bool b) { s with toks:=tk }) :
   wpAny (model X.prog X.w) A (call (.builtin "isinstance") [u,c]) Q E s:=by
 cases ty with
 | non=>cases (show u=Value.none from rx); exact Dc PySem.W.kitx_none I.kIn True.intro e (λz=>nomatch z) h
 | bl y=>cases (show u=Value.bool y from rx); exact Dc PySem.W.kitx_bool I.kIn True.intro e (λz=>nomatch z) h
 | int i=>obtain ⟨t,q⟩:=(show ∃ t,u=Value.int i t from rx); cases q; exact Dc PySem.W.kitx_int I.kIn True.intro e (λz=>nomatch z) h
 | str y=>obtain ⟨t,q⟩:=(show ∃ t,u=Value.str y t from rx); cases q; exact Dc PySem.W.kitx_str I.kIn True.intro e (λz=>nomatch z) h
 | flt y=>obtain ⟨t,q⟩:=(show ∃ t,u=Value.float y t from rx); cases q; exact Dc PySem.W.kitx_float I.kIn True.intro e (λz=>nomatch z) h
 | @lst a xs ea=>
   cases (show u=Value.ref a from rx);obtain ⟨_,_,n,_,h1⟩:=(show ObjOk X.prog X.w H s.heap a (.lst xs) from I.hok a _ ea);exact Dc PySem.W.kitx_list I.kIn ⟨_,h1,rfl⟩ e (λz=>nomatch z) h
 | @frz a ob xs ea=>
   cases (show u=Value.ref a from rx);obtain ⟨_,_,_,n,_,h1⟩:=(show ObjOk X.prog X.w H s.heap a (.frz ob (.lst xs)) from I.hok a _ ea);exact Dc PySem.W.kitx_list I.kIn ⟨_,h1,rfl⟩ e (λz=>nomatch z) h
 | @tup a xs ea=>
   cases (show u=Value.ref a from rx);obtain ⟨_,_,_,p⟩:=(show ObjOk X.prog X.w H s.heap a (.tup xs) from I.hok a _ ea);obtain ⟨o,h1,h2,_⟩:=p;exact Dc PySem.W.kitx_tuple I.kIn ⟨o,h1,h2⟩ e (λz=>nomatch z) h
 | @dK a kvs ea=>
   cases (show u=Value.ref a from rx);obtain ⟨_,_,vs,_,p⟩:=(show ObjOk X.prog X.w H s.heap a (.dK kvs) from I.hok a _ ea);obtain ⟨o,es,ep,h1,h2,_⟩:=p;exact Dc PySem.W.kitx_dict I.kIn ⟨o,h1,h2.1⟩ e (λz=>nomatch z) h
 | @dT a kvs ea=>
   cases (show u=Value.ref a from rx);obtain ⟨_,_,xs,_,o,es,ep,h1,h2,_⟩:=(show ObjOk X.prog X.w H s.heap a (.dT kvs) from I.hok a _ ea);exact Dc PySem.W.kitx_dict I.kIn ⟨o,h1,h2.1⟩ e (λz=>nomatch z) h
 | @ins a C dx fs ea cl ha hn htk hm=>
   cases (show u=Value.ref a from rx);obtain ⟨mA,O,_⟩:=cJB I.hok ea;obtain ⟨od,J,_⟩:=O.look;exact Dc (PySem.W.kitx_own (cl.get _) cl.hd ha hn htk hm) I.kIn J e (λz=>nomatch z) h
end
end L2
namespace L2
open PySem PySem.Spec PyProof.Rows
structure Room (k:Nat) (A:Around):Prop where
 hd:A.handled=none
 dp:A.depth+3 * k+5<recursionLimit
 un:A.units+16 * k+200<cLine
theorem Room.mono {j k:Nat} {A:Around} (r:Room k A) (h:j<=k):Room j A:=⟨r.hd,by have:=r.dp; omega,by have:=r.un; omega⟩
theorem Room.deeper {k:Nat} {A:Around} (r:Room (k+1) A) (env:Env):Room k (A.deeper env) :=
 ⟨r.hd,by have:=r.dp; show A.depth+1+3 * k+5<_; omega,by have:=r.un; show A.units+3+16 * k+200<_; omega⟩
theorem aQN {A:Around} {C:Addr} {us:List Value} {kw:List (Str×Value)}:(A.under (.builtin "type.__call__" ⟨.ref C::us,kw⟩)).depth=A.depth+1:=by
 first | rfl | simp [Around.under,Code.weight,Code.isCreation,Code.isGuard,Code.isCaller,Code.frames,Code.isFrame,guardIds]
theorem aQU {A:Around} {C:Addr} {us:List Value} {kw:List (Str×Value)}:(A.under (.builtin "type.__call__" ⟨.ref C::us,kw⟩)).units=A.units+1:=by
 first | rfl | simp [Around.under,Code.cUnits,Code.frames,Code.isFrame]
theorem Room.make {k:Nat} {A:Around} (r:Room (k+1) A) (C:Addr) (us:List Value) (kw:List (Str×Value)):Room k (A.under (.builtin "type.__call__" ⟨.ref C::us,kw⟩)) :=
 ⟨r.hd,by have:=r.dp; rw [aQN]; omega,by have:=r.un; rw [aQU]; omega⟩
theorem Room.depth {k:Nat} {A:Around} (r:Room k A):A.depth<recursionLimit:=by have:=r.dp; omega
theorem Room.units {k:Nat} {A:Around} (r:Room k A):A.units+64<cLine:=by have:=r.un; omega
theorem Room.units0 {k:Nat} {A:Around} (r:Room k A):A.units<cLine:=by have:=r.un; omega
def xQ:TA:=λ_ H Q=>Q [] H
def aZK (ta:TE) (tr:TA):TA:=λσ H Q=>ta σ H λx H1=>tr σ H1 λxs H2=>Q (x::xs) H2
section
variable {X:Cx} {e:Expr} {es:List Expr} {te:TE} {t:TA} {pos:Pos}
theorem aB:PA X [] xQ:=λ_ _ _ _ H Q I h=>Calls.spliced_nil ⟨[],H,I,.nil,h⟩
theorem aA (ha:PE X e te) (hr:PA X es t) (hs:starEach (e::es) X.env=(false,eval e X.env)::starEach es X.env:=by rfl):PA X (e::es) (aZK te t):=by
 intro pos pins s σ H Q I h;rw [hs];show wpAny _ _ (spliced ((false,eval e X.env)::backTo pos (starEach es X.env))) _ _ s
 refine Calls.spliced_cons (thn (ha pins s σ H _ I h) λu s1 ⟨x,H1,I1,r1,q1⟩=>?_);exact thn (hr pos pins s1 σ H1 _ I1 q1) λus s2 ⟨xs,H2,I2,r2,q2⟩=>⟨x::xs,H2,I2,.cons r1 r2,q2⟩
def eQD (t:TA):TE:=λσ H Q=>t σ H λxs H1=>xs.length<=sizeLine/\∀ p,H1 p=none->Q (.ref p) (upd H1 p (.tup xs))
def bZ0 (t:TA):TE:=λσ H Q=>t σ H λxs H1=>xs.length<=sizeLine/\∀ p,H1 p=none->Q (.ref p) (upd H1 p (.lst xs))
theorem kF {x1} (h:PA X es t):PE X (.Tuple es x1 pos) (eQD t):=by
 intro pins s σ H Q I hq;refine wpAny_Tuple_spliced (thn (h pos pins s σ H _ I hq) λus s1 ⟨xs,H1,I1,r,z,q⟩=>⟨by rw [<-r.length]; exact z,?_⟩)
 have hf:H1 s1.heap.objs.size=none:=I1.hok.fresh (Ah _)
 refine ⟨.ref s1.heap.objs.size,upd H1 s1.heap.objs.size (.tup xs),I1.laid (t':=s1.toks) (λb u e=>Af _ e) (Ah _) ?_,rfl,q _ hf⟩;exact ⟨z,us,r,⟨_,Ax _ rfl,rfl,_,rfl⟩⟩
theorem bR (h:PA X es t):PE X (.List es pos) (bZ0 t):=by
 intro pins s σ H Q I hq;refine wpAny_List_spliced (thn (h pos pins s σ H _ I hq) λus s1 ⟨xs,H1,I1,r,z,q⟩=>⟨by rw [<-r.length]; exact z,?_⟩)
 have hf:H1 s1.heap.objs.size=none:=I1.hok.fresh (Ah _)
 refine ⟨.ref s1.heap.objs.size,upd H1 s1.heap.objs.size (.lst xs),I1.laid (t':=s1.toks) (λb u e=>Af _ e) (Ah _) ?_,rfl,q _ hf⟩;exact ⟨z,us,0,r,Ax _ rfl⟩
end
abbrev Sp:=List V->Hp->VK->XK->Prop
abbrev CXT:=List Env->Hp->Shared->XK->Value->Shared->Prop
structure Env0 (P:Program) (w:World) (K:PySem.W.Frag) (mg:Str->Option Value) (base:Heap) (A:Around) (outer:List Env) (s:Shared) (H:Hp):Prop where
 frames:A.frames=some outer
 mod:Mod K mg base
 bs:∀ b o,base.get? b=some o->s.heap.get? b=some o/\H b=none
 bsz:base.objs.size<=s.heap.objs.size
 funs:s.heap.FunFrames base outer
 frf:∀ b∈frs outer,H b=none
 hok:HOk P w H s.heap
 bare:AllBare s.gens
def CE (outer:List Env) (P:Program) (w:World) (H:Hp) (s:Shared) (Q:VK) (u:Value) (s':Shared):Prop :=
 ∃ v H',s'.os=s.os/\AllBare s'.gens/\Un (frs outer) [] H H' s.heap s'.heap/\HOk P w H' s'.heap/\RelV v u/\Q v H'
def CR (CX:CXT) (outer:List Env) (P:Program) (w:World) (H:Hp) (s:Shared) (Q:VK) (E:XK) (r:Result) (s':Shared):Prop :=
 match r with
 | .ok (.ret u)=>CE outer P w H s Q u s'
 | .ok _=>False
 | .error e=>CX outer H s E e s'
structure FnOk (P:Program) (w:World) (K:PySem.W.Frag) (mg:Str->Option Value) (base:Heap) (CX:CXT) (k:Nat) (f:Addr) (fd:FuncData) (ps:List Str) (sp:Sp):Prop where
 len:∀ vs H Q E,sp vs H Q E->vs.length=ps.length
 run:∀ (A:Around) (outer:List Env) (s:Shared) (H:Hp) (args:Args) (us:List Value) (vs:List V) (Q:VK) (E:XK),Room k A->Env0 P w K mg base A outer s H->BindsTo s fd args (ps.zip us)->Vals vs us->sp vs H Q E->
   codeAny (model P w) A (.call (.ref f) args) (CR CX outer P w H s Q E) s
theorem Env0.make {P:Program} {w:World} {K:PySem.W.Frag} {mg:Q4} {base:Heap} {A:Around} {outer:List Env} {s:Shared} {H:Hp} (e:Env0 P w K mg base A outer s H) (C:Addr) (us:List Value) (kw:List (Str×Value)) :
   Env0 P w K mg base (A.under (.builtin "type.__call__" ⟨.ref C::us,kw⟩)) outer s H:=⟨by first | exact e.frames | (simpa [Around.under,Code.envs,Code.isFrame,pushEnvs] using e.frames),e.mod,e.bs,e.bsz,e.funs,e.frf,e.hok,e.bare⟩
section
variable {X:Cx} {pins:Q2} {σ:St} {H:Hp} {s s':Shared}
theorem Inv.env0 (I:Inv X pins σ H s):Env0 X.prog X.w X.K X.mg X.base X.A X.stack s H :=
 ⟨I.ok.frames,I.ok.mod,I.bs,Bc I.ok.bsz I.sz,I.stack,I.stkFree,I.hok,I.bare⟩
theorem Inv.after {Q:VK} {u:Value} (I:Inv X pins σ H s) (h:CE X.stack X.prog X.w H s Q u s'):EP X pins σ Q u s':=by
 obtain ⟨v,H',os,bare,un,hok,r,q⟩:=h;obtain ⟨hh,g,d,t,os'⟩:=s';obtain rfl:os'=s.os:=os;exact ⟨v,H',I.call (h':=hh) (g':=g) (d':=d) (t':=t) (ch:=[]) un hok bare (λb z=>absurd z (by simp)),r,q⟩
end
def aXY (sp:Sp) (dvs:List V) (E:XK) (t:TA):TE:=λσ H Q=>t σ H λvs H1=>sp (vs++dvs) H1 Q E
def Binds (K:PySem.W.Frag) (fd:FuncData) (ps:List Str) (ds:List Value):Prop :=
 ∀ (s:Shared) (us:List Value),K.In s.heap->(us++ds).length=ps.length->BindsTo s fd ⟨us,[]⟩ (ps.zip (us++ds))
theorem Binds.all {K:PySem.W.Frag} {fd:FuncData} {ps:List Str} (h:∀ us:List Value,us.length=ps.length->bindArgs fd ⟨us,[]⟩=pure (ps.zip us)):Binds K fd ps []:=λs us _ hl=>by
 rw [Br] at hl ⊢;exact .of_eq (h us hl)
def nL (CX:CXT) (X:Cx) (E:XK):Prop:=∀ (pins:List (Addr×Obj)) (σ:St) (H:Hp) (s:Shared) (e:Value) (s':Shared),Inv X pins σ H s->CX X.stack H s E e s'->X.xe e s'
section
variable {X:Cx} {CX:CXT} {k:Nat} {f C:Addr} {fd:FuncData} {ps:List Str} {sp:Sp} {dvs:List V} {ds:List Value} {E:XK} {x m:Str} {p pos apos:Pos} {e o:Expr} {es:List Expr} {ta:TE} {t:TA}
theorem dZ5 {pins:Q2} {σ:St} {H:Hp} {s:Shared} {Q:VK} {us:List Value} {vs:List V} (F:FnOk X.prog X.w X.K X.mg X.base CX k f fd ps sp) (hr:Room k X.A) (hb:Binds X.K fd ps ds) (hd:Vals dvs ds) (hx:nL CX X E)
   (I:Inv X pins σ H s) (r:Vals vs us) (h:sp (vs++dvs) H Q E):wpAny (model X.prog X.w) X.A (call (.ref f) us) (EP X pins σ Q) X.xe s:=by
 have r2:Vals (vs++dvs) (us++ds):=r.append hd
 have hl:(us++ds).length=ps.length:=by rw [<-r2.length]; exact F.len _ _ _ _ h
 refine Gf (Fb (F.run X.A X.stack s H ⟨us,[]⟩ (us++ds) (vs++dvs) Q E hr I.env0 (hb s us I.kIn hl) r2 h) λr s' hq=>?_);cases r with
 | error e=>exact hx pins σ H s e s' I hq
 | ok fl=>
   cases fl with
   | ret u=>exact I.after hq
   | next=>exact False.elim hq
   | brk=>exact False.elim hq
   | cont=>exact False.elim hq
theorem aXT (F:FnOk X.prog X.w X.K X.mg X.base CX k f fd ps sp) (hr:Room k X.A) (hg:Gl X x) (hm:X.mg x=some (.ref f)) (hk:PySem.W.keepIn X.K (.ref f)=true) (hb:Binds X.K fd ps ds) (hd:Vals dvs ds) (hx:nL CX X E)
   (ha:PA X (e::es) t) (hdb:(x == ("__debug__" : Str))=false:=by decide) (he:starEach (e::es) X.env=(false,eval e X.env)::starEach es X.env:=by rfl) (hpl:(backTo pos (starEach es X.env)).any (·.1)=false:=by rfl) :
   PE X (.Call (.Name x p) (e::es) [] pos) (aXY sp dvs E t):=by
 intro pins s σ H Q I h;refine Er (gZ I hg hm ?_ hdb);refine PySem.W.callWith_K (h₀:=X.base) I.ok.mod.kin hk (thn (ha pos pins s σ H _ I h) λus s1 ⟨vs,H1,I1,r,q⟩=>⟨I1.kIn,?_⟩) he hpl;exact dZ5 F hr hb hd hx I1 r q
end
def PK (X:Cx) (kws:List Keyword) (t:TA):Prop :=
 ∀ (pos:Pos) (pins:Q2) (s:Shared) (σ:St) (H:Hp) (Q:List V->Hp->Prop),Inv X pins σ H s->t σ H Q->wpAny (model X.prog X.w) X.A (evalAll ((backToKw pos (keywordEach kws X.env)).map (·.2))) (AP X pins σ Q) X.xe s
section
variable {X:Cx} {CX:CXT} {k:Nat} {f C:Addr} {fd:FuncData} {ps ks:List Str} {sp:Sp} {E:XK} {x m:Str} {p pos apos kpos:Pos} {e o:Expr} {es:List Expr} {kws:List Keyword} {te ta:TE} {t tk:TA} {nm:Option Str}
theorem dQY:PK X [] xQ:=λ_ _ _ _ H Q I h=>wpAny_evalAll_nil ⟨[],H,I,.nil,h⟩
theorem cXO (ha:PE X e te) (hr:PK X kws t):PK X (⟨nm,e,kpos⟩::kws) (aZK te t):=by
 intro pos pins s σ H Q I h;show wpAny _ _ (evalAll ((do let v <-eval e X.env; standAt pos; pure v)::(backToKw pos (keywordEach kws X.env)).map (·.2))) _ _ s
 refine wpAny_evalAll_cons (Ad (thn (ha pins s σ H _ I h) λu s1 ⟨x,H1,I1,r1,q1⟩=>Ad (Fk (Al ?_))));exact thn (hr pos pins s1 σ H1 _ I1 q1) λus s2 ⟨xs,H2,I2,r2,q2⟩=>⟨x::xs,H2,I2,.cons r1 r2,q2⟩
variable {g:List Value->List Value->List Value} {gV:List V->List V->List V}
end
structure FnScope (N P:List Str) (sc:Scope):Prop where
 kind:sc.kind=.function
 co:sc.isCoroutine=false
 gen:sc.isGenerator=false
 nd:N.Nodup
 pre:N.take P.length=P
 par:∀ x∈P,sc.names.lookup x=some .local\/sc.names.lookup x=some .cell
 nofree:∀ y∈sc.names,y.2≠.free
theorem uC {kindOf:Str->Option NameKind} {x:Str}:∀ {binds:List (Str×Value)} {m:Q4},(∀ v,(x,v) ∉ binds)->bindL kindOf binds m x=m x
 | [],_,_=>rfl
 | (n,v)::r,m,h=>by
   unfold bindL;rw [uC λw hw=>h w (Ao _ hw)];split
   · have:x≠n:=by rintro rfl; exact h v As
     simp [this]
   · rfl
theorem tB {kindOf:Str->Option NameKind} {x:Str}:∀ {binds:List (Str×Value)} {m:Q4},(∀ v,(x,v) ∉ binds)->bindC kindOf binds m x=m x
 | [],_,_=>rfl
 | (n,v)::r,m,h=>by
   unfold bindC;rw [tB λw hw=>h w (Ao _ hw)];split
   · rfl
   · have:x≠n:=by rintro rfl; exact h v As
     simp [this]
theorem tO {kindOf:Str->Option NameKind} {x:Str} {v:Value}:∀ {P:List Str} {vs:List Value} {i:Nat} {m:Q4},P.Nodup->P[i]?=some x->vs[i]?=some v->kindOf x=some .local->
   bindL kindOf (P.zip vs) m x=some v
 | [],_,_,_,_,h,_,_=>by simp at h
 | _::_,[],_,_,_,_,h,_=>by simp at h
 | p::P,w::vs,0,m,nd,h1,h2,hk=>by
   simp at h1 h2; subst h1; subst h2;show bindL kindOf ((p,w)::P.zip vs) m p=_
   unfold bindL;rw [uC λv hv=>(Cb.mp nd).1 (List.of_mem_zip hv).1,if_pos hk];simp
 | p::P,w::vs,i+1,m,nd,h1,h2,hk=>by
   show bindL kindOf ((p,w)::P.zip vs) m x=_
   unfold bindL;exact tO (i:=i) (List.nodup_cons.mp nd).2 (by simpa using h1) (by simpa using h2) hk
theorem tJ {kindOf:Str->Option NameKind} {x:Str} {v:Value}:∀ {P:List Str} {vs:List Value} {i:Nat} {m:Q4},P.Nodup->P[i]?=some x->vs[i]?=some v->kindOf x≠some .local->
   bindC kindOf (P.zip vs) m x=some v
 | [],_,_,_,_,h,_,_=>by simp at h
 | _::_,[],_,_,_,_,h,_=>by simp at h
 | p::P,w::vs,0,m,nd,h1,h2,hk=>by
   simp at h1 h2; subst h1; subst h2;show bindC kindOf ((p,w)::P.zip vs) m p=_
   unfold bindC;rw [tB λv hv=>(Cb.mp nd).1 (List.of_mem_zip hv).1,if_neg hk];simp
 | p::P,w::vs,i+1,m,nd,h1,h2,hk=>by
   show bindC kindOf ((p,w)::P.zip vs) m x=_
   unfold bindC;exact tJ (i:=i) (List.nodup_cons.mp nd).2 (by simpa using h1) (by simpa using h2) hk
def iV (N:List Str) (vs:List V):St:=vs.map some++List.replicate (N.length - vs.length) none
def gX (CX:CXT) (P:Program) (w:World) (K:PySem.W.Frag) (mg:Str->Option Value) (base:Heap) (N:List Str) (qual:Str) (scope:Scope) (f:Addr) (cd:Value) (A:Around) (outer:List Env) (s:Shared) (H:Hp) (E:XK):Cx where
 prog:=P
 w:=w
 K:=K
 mg:=mg
 base:=base
 A:=A.deeper (envOfC qual scope s.heap.objs.size f cd)
 N:=N
 s₀:=s
 H₀:=H
 env:=envOfC qual scope s.heap.objs.size f cd
 outer:=outer
 stack:=envOfC qual scope s.heap.objs.size f cd::outer
 ex:=[]
 calm:=true
 fn:=λ_=>true
 pn:=[]
 xe:=λe s'=>wpAny (model P w) (A.deeper (envOfC qual scope s.heap.objs.size f cd)) (leaving (envOfC qual scope s.heap.objs.size f cd) e) (λ_ s''=>CX outer H s E e s'') (λe' s''=>CX outer H s E e' s'') s'
theorem bU {sc:Scope} {n:Nat} {x:Str} (h:sc.names.lookup x=some .cell):∃ c,(cellsFrom n sc.names []).lookup x=some c:=by
 have q:=PySem.W.cellsFrom_some sc.names n [] (.inl h)
 exact Fd.mp q
theorem bQE {CX:CXT} {P:Program} {w:World} {K:PySem.W.Frag} {mg:Q4} {base:Heap} {N ps:List Str} {qual:Str} {scope:Scope} {f:Addr} {cd:Value} {A:Around} {outer:List Env} {s s1:Shared} {H:Hp} {E:XK} {us:List Value} {vs:List V}
   (S:FnScope N ps scope) (hd:A.handled=none) (e0:Env0 P w K mg base A outer s H) (hl:vs.length=ps.length) (r:Vals vs us)
   (x:InCallC s s.heap.objs.size (bindL (envOfC qual scope s.heap.objs.size f cd).kindOf (ps.zip us) λ_=>none) (cellsFrom (s.heap.objs.size+1) scope.names []) (bindC (envOfC qual scope s.heap.objs.size f cd).kindOf (ps.zip us) λ_=>none) s1) :
   Inv (gX CX P w K mg base N qual scope f cd A outer s H E) [] (iV N vs) H s1:=by
 have hpl:ps.length<=N.length:=by have:=Cw List.length S.pre; rw [Bs] at this; omega
 obtain ⟨h1,tk,rfl,hk⟩:=x.done;have noA:∀ b:Addr,b ∉ (gX CX P w K mg base N qual scope f cd A outer s H E).ex:=λb z=>absurd (show b ∈ ([]:List Addr) from z) (by simp)
 refine ⟨⟨e0.mod,S.kind,rfl,rfl,Ah _,λy z c h1 h2=>?_,λy hy=>?_,λy c _ h=>?_,λ_=>hd,Around.frames_deeper e0.frames,.inr ⟨rfl,rfl⟩,λb z=>absurd z (noA b),e0.bs,e0.bsz,λb _ _=>noA b,λb z=>absurd z (noA b),e0.funs,e0.frf⟩,
   rfl,e0.bare,Un.kept hk,⟨_,x.toInCall.ns,λi y v h1 h2 h3=>?_⟩,λy c h=>⟨_,x.cell y c h⟩,e0.hok.fresh (Nat.le_refl _),λy c h=>?_,λp hp=>absurd (show p∈([]:Q2) from hp) (by simp),e0.hok.kept hk,?_⟩
 · exact name_of_addr x.apart (Df h1) (Df h2)
 · have hy:scope.names.lookup y=some .cell\/scope.names.lookup y=some .free:=hy
   rcases hy with hy | hy
   · exact bU hy
   · exact absurd rfl (S.nofree _ (Df hy))
 · exact De (x.above y c (Df h))
 · have hi:i<vs.length:=by
     unfold iV at h2;by_cases hi:i<vs.length
     · exact hi
     · rw [List.getElem?_append_right (by simpa using hi)] at h2
       rw [List.getElem?_replicate] at h2;split at h2 <;> cases h2
   have ha:vs[i]?=some v:=by
     unfold iV at h2;rw [List.getElem?_append_left (by simpa using hi),List.getElem?_map] at h2
     cases e:vs[i]? with
     | none=>rw [e] at h2; cases h2
     | some a=>rw [e] at h2; cases h2; rfl
   obtain ⟨u,hu,rv⟩:=r.get ha;have hp:ps[i]?=some y:=by
     rw [<-S.pre,List.getElem?_take_of_lt (by omega)]; exact h1
   have ndP:ps.Nodup:=by rw [<-S.pre]; exact S.nd.sublist (Gp _ _)
   refine ⟨u,rv,?_⟩;rcases S.par y (Ai hp) with k | k
   · exact .inl ⟨k,tO ndP hp hu k⟩
   · obtain ⟨c,e⟩:=bU (n:=s.heap.objs.size+1) k;refine .inr ⟨.inl k,c,e,?_⟩;have q:=x.cell y c e
     rw [tJ ndP hp hu (by show scope.names.lookup y≠_; rw [k]; decide)] at q
     exact q
 · exact e0.hok.fresh (De (x.above y c (Df h)))
 · unfold iV;show _=N.length
   rw [Aj,Ab,List.length_replicate];omega
theorem cJI {CX:CXT} {P:Program} {w:World} {K:PySem.W.Frag} {mg:Q4} {base:Heap} {k:Nat} {f:Addr} {name qual:Str} {params:Arguments} {body:List Stmt} {scope:Scope} {dV kV doc pm cdv ct oc:Value} {an od:Option Addr}
   {osl:Array (Option Value)} {N ps:List Str} {sp:Sp} (lk:K.lookup f=some ⟨oc,od,.func (PySem.W.fnOf name qual params body scope dV kV doc pm an cdv ct),osl⟩) (hcd:PySem.W.codeIn K cdv qual=true) (S:FnScope N ps scope)
   (len:∀ vs H Q E,sp vs H Q E->vs.length=ps.length)
   (hbody:∀ (A:Around) (outer:List Env) (s:Shared) (H:Hp) (vs:List V) (Q:VK) (E:XK),Room k (A.deeper (envOfC qual scope s.heap.objs.size f cdv))->sp vs H Q E->
     ∃ t,PSs (gX CX P w K mg base N qual scope f cdv A outer s H E) body t/\t { nx:=λ_ H'=>Q .non H',rt:=Q } (iV N vs) H) :
   FnOk P w K mg base CX (k+1) f (PySem.W.fnOf name qual params body scope dV kV doc pm an cdv ct) ps sp:=by
 refine ⟨len,λA outer s H args us vs Q E hr e0 hb r hsp=>?_⟩;have hl:=len _ _ _ _ hsp
 have KX:K.In s.heap:=e0.mod.kin.keeps λb o e=>(e0.bs b o e).1
 have lim:s.heap.NoLimit:=e0.mod.nolimit.keeps λb o e=>(e0.bs b o e).1
 have hkind:∀ y∈ps.zip us,scope.names.lookup y.1=some .local\/(scope.names.lookup y.1=some .cell/\((cellsFrom (s.heap.objs.size+1) scope.names []).lookup y.1).isSome=true):=λ⟨n,v⟩ hy=>by
   rcases S.par n (List.of_mem_zip hy).1 with q | q
   · exact .inl q
   · exact .inr ⟨q,PySem.W.cellsFrom_some _ _ _ (.inl q)⟩
 refine codeAny_call_function hr.depth (KX _ _ lk) rfl S.co S.gen rfl (PySem.W.codeRec_of KX hcd) (hb _ _ _ _ ?_);refine wpAny_newFunctionEnv_cells S.kind hkind λenv he s1 x=>?_;subst he;refine ⟨lim.keeps x.toInCall.keep,codeAny_func ?_⟩;obtain ⟨t,ht,hq⟩:=hbody A outer s H vs Q E (hr.deeper _) hsp;have I:Inv (gX CX P w K mg base N qual scope f cdv A outer s H E) [] (iV N vs) H s1:=bQE S hr.hd e0 hl r x
 refine Ce (ht [] s1 (iV N vs) H _ I hq) (λfl s' hs=>?_) λe s' hs=>hs;have fin:∀ {σ':St} {H':Hp} {v:V} {u:Value},Inv (gX CX P w K mg base N qual scope f cdv A outer s H E) [] σ' H' s'->RelV v u->Q v H'->CE outer P w H s Q u s' :=
   fun {σ' H' v u} J rv q=>⟨v,H',J.os,J.bare,J.base,J.hok,rv,q⟩
 cases fl with
 | ret u=>
   obtain ⟨v,σ',H',J,rv,q⟩:=hs;exact fin J rv q
 | next=>
   obtain ⟨σ',H',J,q⟩:=hs;exact fin (v:=V.non) (u:=Value.none) J rfl q
 | brk=>
   obtain ⟨_,_,_,q⟩:=hs;exact False.elim q
 | cont=>
   obtain ⟨_,_,_,q⟩:=hs;exact False.elim q
end L2
namespace L2
open PySem PySem.Spec PyProof.Rows
section
variable {X:Cx} {x:Str} {p pos:Pos} {e:Expr} {es:List Expr} {t:TA} {id T:String} {r:List V->Hp->VK->Prop}
def tCB (r:List V->Hp->VK->Prop) (t:TA):TE:=λσ H Q=>t σ H λvs H1=>r vs H1 Q
theorem aU (hc:CallR X (.builtin id) r) (hg:Gl X x) (hm:X.mg x=none) (hv:bootBuiltins x=some (.builtin id)) (ha:PA X (e::es) t) (hn:x≠"__name__" := by decide) (hdb:(x == ("__debug__" : Str))=false:=by decide)
   (he:starEach (e::es) X.env=(false,eval e X.env)::starEach es X.env:=by rfl) (hpl:(backTo pos (starEach es X.env)).any (·.1)=false:=by rfl):PE X (.Call (.Name x p) (e::es) [] pos) (tCB r t):=by
 intro pins s σ H Q I h;refine Er (jQ I hg hm hv ?_ hn hdb);exact PyProof.Rows.callWith_builtin1 (thn (ha pos pins s σ H _ I h) λus s1 ⟨vs,H1,I1,r1,q1⟩=>hc pins s1 σ H1 vs us Q I1 r1 q1) he hpl
theorem bK (hc:CallR X (.type T) r) (hg:Gl X x) (hm:X.mg x=none) (hv:bootBuiltins x=some (.type T)) (ha:PA X (e::es) t) (hn:x≠"__name__" := by decide) (hdb:(x == ("__debug__" : Str))=false:=by decide)
   (he:starEach (e::es) X.env=(false,eval e X.env)::starEach es X.env:=by rfl) (hpl:(backTo pos (starEach es X.env)).any (·.1)=false:=by rfl):PE X (.Call (.Name x p) (e::es) [] pos) (tCB r t):=by
 intro pins s σ H Q I h;refine Er (jQ I hg hm hv ?_ hn hdb);exact Cv (thn (ha pos pins s σ H _ I h) λus s1 ⟨vs,H1,I1,r1,q1⟩=>hc pins s1 σ H1 vs us Q I1 r1 q1) he hpl
end
end L2
namespace HT
open PySem PyProof.Rows
section
open PySem.SeqAt
open PySem.AutoSeq1 (wpAny_loadPart')
open PySem.MeetsSeq PySem.MeetsSeq2 PySem.MeetsSeq3
end
section
variable {prog:Program} {w:World} {A:Around} {E:Q0} {s:Shared}
def sIx (n d:Nat):Option Int->Nat
 | none=>d
 | some v=>if v<0 then (v+(n:Int)).toNat else min v.toNat n
end
end HT
namespace L2
open PySem PySem.Spec PyProof.Rows
abbrev TO:=St->Hp->(Option Int->Hp->Prop)->Prop
def PO (X:Cx) (e:Option Expr) (t:TO):Prop :=
 ∀ (pins:Q2) (s:Shared) (σ:St) (H:Hp) (Q:Option Int->Hp->Prop),Inv X pins σ H s->t σ H Q->
   wpAny (model X.prog X.w) X.A (evalPart e X.env) (λu s'=>∃ o H',Inv X pins σ H' s'/\IsPart u o/\Q o H') X.xe s
def aXU:TO:=λ_ H Q=>Q none H
theorem mD {ns:List Int}:∀ {us:List Value},Vals (ns.map V.int) us->IntsAre us ns:=by
 induction ns with
 | nil=>intro us r; rw [Fx] at r; cases r; exact .nil
 | cons n ns ih=>
   intro us r;rw [Au] at r;cases r with
   | cons r1 r2=>
     obtain ⟨t,e⟩:=r1;subst e;exact .cons n t (ih r2)
section
variable {X:Cx} {e:Expr} {te:TE} {lo hi:Option Expr} {tl th:TO} {pos p2:Pos}
theorem cZO:PO X none aXU:=by
 intro pins s σ H Q I h;rw [evalPart_none];exact Al ⟨none,H,I,.none,h⟩
def SlR (X:Cx) (r:V->Option Int->Option Int->Hp->VK->Prop):Prop :=
 ∀ (pins:Q2) (s:Shared) (σ:St) (H:Hp) (x:V) (v vl vu:Value) (lo hi:Option Int) (sl:Addr) (Q:VK),Inv X pins σ H s->RelV x v->s.heap.IsSliceOf sl vl vu .none->IsPart vl lo->IsPart vu hi->r x lo hi H Q->
   ∃ T id,typeLookup (.type T) "__getitem__"=pure (some (.builtin id))/\s.TypeIs v T/\wpAny (model X.prog X.w) X.A (getItem v (.ref sl)) (EP X pins σ Q) X.xe s
theorem SlR.or {r r':V->Option Int->Option Int->Hp->VK->Prop} (h:SlR X r) (h':SlR X r'):SlR X (λx lo hi H Q=>r x lo hi H Q\/r' x lo hi H Q):=by
 intro pins s σ H x v vl vu lo hi sl Q I rx hs pl pu q;rcases q with q | q
 · exact h pins s σ H x v vl vu lo hi sl Q I rx hs pl pu q
 · exact h' pins s σ H x v vl vu lo hi sl Q I rx hs pl pu q
def tSl (r:V->Option Int->Option Int->Hp->VK->Prop) (te:TE) (tl th:TO):TE:=λσ H Q=>te σ H λx H1=>tl σ H1 λl H2=>th σ H2 λu H3=>r x l u H3 Q
theorem yV {r:V->Option Int->Option Int->Hp->VK->Prop} (hr:SlR X r) (he:PE X e te) (hl:PO X lo tl) (hu:PO X hi th):PE X (.Subscript e (.Slice lo hi none p2) pos) (tSl r te tl th):=by
 intro pins s σ H Q I h;refine Subscript_ (thn (he pins s σ H _ I h) λv s1 ⟨x,H1,I1,r1,q1⟩=>?_);refine wpAny_Slice (thn (hl pins s1 σ H1 _ I1 q1) λvl s2 ⟨l,H2,I2,pl,q2⟩=>thn (hu pins s2 σ H2 _ I2 q2) λvu s3 ⟨u,H3,I3,pu,q3⟩=>?_);rw [evalPart_none];refine Al ?_;have I4:Inv X pins σ H3 { s3 with heap:=s3.heap.push { cls:=.type "slice",data:=.fields #[vl,vu,.none] } }:=I3.kept (t':=s3.toks) λb ob q=>Af _ q
 obtain ⟨T,id,hT,ht,hg⟩:=hr pins { s3 with heap:=s3.heap.push { cls:=.type "slice",data:=.fields #[vl,vu,.none] } } σ H3 x v vl vu l u s3.heap.objs.size Q I4 r1 (Heap.IsSliceOf.new ..) pl pu q3
 show wpAny (model X.prog X.w) X.A (subscriptTail e (.Slice lo hi none p2) v (.ref s3.heap.objs.size)) (EP X pins σ Q) X.xe { s3 with heap:=s3.heap.push { cls:=.type "slice",data:=.fields #[vl,vu,.none] } }
 exact tail_any (ops:=[.ref s3.heap.objs.size,v]) ht hT hg (by with_unfolding_all rfl)
def rP (xs:List V) (lo hi:Option Int):List V:=(xs.drop (HT.sIx xs.length 0 lo)).take (HT.sIx xs.length xs.length hi - HT.sIx xs.length 0 lo)
theorem yD (xs:List V) (lo hi:Option Int):(rP xs lo hi).length<=xs.length:=by
 unfold rP;rw [Bs,Ck];omega
end
end L2
namespace L2
open PySem PySem.Spec PyProof.Rows
def ixN (n:Nat) (i:Int):Option Nat:=if 0<=i then (if i<n then some i.toNat else none) else if -(n:Int)<=i then some (i+n).toNat else none
def atI {α:Type} (xs:List α) (i:Int):Option α:=(ixN xs.length i).bind λj=>xs[j]?
theorem aZ1 {n:Nat} {i:Int} {j:Nat} (h:ixN n i=some j):seqIndex? i n=some j/\j<n/\-(n:Int)<=i/\i<n:=by
 unfold ixN at h;by_cases h0:0<=i
 · rw [if_pos h0] at h;by_cases h1:i<n
   · rw [if_pos h1] at h;have e:i.toNat=j:=Bo h
     exact ⟨by rw [seqIndex_of h0 h1,e],by omega,by omega,h1⟩
   · rw [if_neg h1] at h; cases h
 · rw [if_neg h0] at h;by_cases h1:-(n:Int)<=i
   · rw [if_pos h1] at h;have e:(i+n).toNat=j:=Bo h
     exact ⟨by rw [seqIndex_neg (by omega) h1,e],by omega,h1,by omega⟩
   · rw [if_neg h1] at h; cases h
theorem uM {α:Type} {xs:List α} {i:Int} {v:α} (h:atI xs i=some v):∃ j,seqIndex? i xs.length=some j/\xs[j]?=some v/\j<xs.length/\-(xs.length:Int)<=i/\i<xs.length:=by
 unfold atI at h;cases e:ixN xs.length i with
 | none=>rw [e] at h; cases h
 | some j=>
   rw [e] at h;obtain ⟨h1,h2,h3,h4⟩:=aZ1 e;exact ⟨j,h1,h,h2,h3,h4⟩
theorem eI {α:Type} {xs:List α} {j:Nat} {v:α} (h:xs[j]?=some v):atI xs (j:Int)=some v:=by
 have hj:j<xs.length:=(Ae.mp h).1
 have e:ixN xs.length (j:Int)=some j:=by
   unfold ixN;rw [if_pos (by omega),if_pos (by omega)]; simp
 unfold atI; rw [e]; exact h
def cXT (b:Expr):Prop:=∀ o i,subscripted b false o i=operate [o,i] (getItem o i)
def IxR (X:Cx) (r:R2):Prop :=
 ∀ (value slice:Expr) (pins:Q2) (s:Shared) (σ:St) (H:Hp) (x y:V) (v u:Value) (Q:VK),Inv X pins σ H s->RelV x v->RelV y u->r x y H Q->
   subscripted slice false v u=operate [v,u] (getItem v u)->wpAny (model X.prog X.w) X.A (subscriptTail value slice v u) (EP X pins σ Q) X.xe s
def MtR (X:Cx) (id:String) (r:V->List V->Hp->VK->Prop):Prop :=
 ∀ (pins:Q2) (s:Shared) (σ:St) (H:Hp) (x:V) (xs:List V) (v:Value) (us:List Value) (Q:VK),Inv X pins σ H s->RelV x v->Vals xs us->r x xs H Q->
   wpAny (model X.prog X.w) X.A (call (.builtin id) (v::us)) (EP X pins σ Q) X.xe s
section
variable {X:Cx} {a b:Expr} {ta tb:TE} {pos:Pos}
theorem IxR.or {r r':R2} (h:IxR X r) (h':IxR X r'):IxR X (λx y H Q=>r x y H Q\/r' x y H Q):=by
 intro value slice pins s σ H x y v u Q I rx ry q hs;rcases q with q | q
 · exact h value slice pins s σ H x y v u Q I rx ry q hs
 · exact h' value slice pins s σ H x y v u Q I rx ry q hs
theorem bG {r:R2} (hr:IxR X r) (ha:PE X a ta) (hb:PE X b tb) (hs:cXT b):PE X (.Subscript a b pos) (tOp r ta tb):=by
 intro pins s σ H Q I h;exact Subscript_ (dX9 ha hb I h λv u s2 x y H2 I2 rx ry q=>hr a b pins s2 σ H2 x y v u Q I2 rx ry q (hs _ _))
def dX6 (K:PySem.W.Frag):R2:=λx y H Q=>∃ p xs i v,x=.ref p/\y=.int i/\SqL K H p xs/\atI xs i=some v/\Q v H
def eQ0 (K:PySem.W.Frag):R2:=λx y H Q=>∃ p xs i v,x=.ref p/\y=.int i/\SqT K H p xs/\atI xs i=some v/\Q v H
def eQ3:R2:=λx y H Q=>∃ z i c,x=.str z/\y=.int i/\z.length<=sizeLine/\atI z.cps.toList i=some c/\Q (.str ⟨#[c]⟩) H
theorem ix_list:IxR X (dX6 X.K):=by
 intro value slice pins s σ H x y v u Q I rx ry h hs;obtain ⟨p,xs,i,z,rfl,rfl,hq,he,q⟩:=h;cases rx;obtain ⟨t,rfl⟩:=ry;obtain ⟨its,r,pl,hz⟩:=I.list hq;obtain ⟨j,h1,h2,h3,h4,h5⟩:=uM he;obtain ⟨w,ew,rw'⟩:=r.get h2;have hl:=r.length
 have hn:=lR
 have fin:EP X pins σ Q w s:=⟨z,H,I,rw',q⟩
 by_cases h0:0<=i
 · have hj:i.toNat=j:=by
     rw [seqIndex_of h0 h5] at h1;exact Bo h1
   exact item_listR pl.isList h0 (by omega) (by rw [hj]; simpa using ew) fin hs
 · have hj:(i+(its.toArray.size:Int)).toNat=j:=by
     rw [seqIndex_neg (by omega) h4] at h1
     rw [Bf,<-hl];exact Bo h1
   exact subscriptTail_builtinR (x:=w) pl.isList.typeIs slot_list_getitem.lookup
     (wpAny_getItem_list_neg (Q:=λr s'=>r=w/\EP X pins σ Q r s') pl.isList (by omega) (by rw [List.size_toArray] <;> omega) (by omega) (by rw [hj]; simpa using ew) ⟨rfl,fin⟩) hs
theorem ix_tup:IxR X (eQ0 X.K):=by
 intro value slice pins s σ H x y v u Q I rx ry h hs;obtain ⟨p,xs,i,z,rfl,rfl,hq,he,q⟩:=h;cases rx;obtain ⟨t,rfl⟩:=ry;obtain ⟨its,r,pl,hz⟩:=I.tuple hq;obtain ⟨j,h1,h2,h3,h4,h5⟩:=uM he;obtain ⟨w,ew,rw'⟩:=r.get h2;have hl:=r.length
 have hn:=lR
 have fin:EP X pins σ Q w s:=⟨z,H,I,rw',q⟩
 exact subscriptTail_builtinR (x:=w) pl.typeIs slot_tuple_getitem.lookup
   (getItem_tuple (j:=j) (Q:=λr s'=>r=w/\EP X pins σ Q r s') pl (by omega) (by omega) (by rw [List.size_toArray,<-hl]; exact h1) (by simpa using ew) ⟨rfl,fin⟩) hs
theorem dXK:IxR X eQ3:=by
 intro value slice pins s σ H x y v u Q I rx ry h hs;obtain ⟨z,i,c,rfl,rfl,hz,he,q⟩:=h;obtain ⟨t,rfl⟩:=rx;obtain ⟨t',rfl⟩:=ry;obtain ⟨j,h1,h2,h3,h4,h5⟩:=uM he;have hl:z.cps.toList.length=z.length:=by simp [Str.length]
 rw [hl] at h1 h4 h5;have hn:=lR
 exact tail_any (typeIs_str s z t) slot_str_getitem.lookup (getItem_str (c:=c) (by
   have e1:decide (i < -(2 ^ 63:Int))=false:=Am (by omega)
   have e2:decide (i ≥ 2 ^ 63)=false:=Am (by omega)
   rw [e1,e2,Bool.or_false]) (by rw [h1]; simpa using h2) ⟨.str ⟨#[c]⟩,H,I.tok _,⟨_,rfl⟩,q⟩) hs
def rIx (K:PySem.W.Frag):R2:=λx y H Q=>dX6 K x y H Q\/eQ0 K x y H Q\/eQ3 x y H Q
theorem ix_seq:IxR X (rIx X.K):=ix_list.or (ix_tup.or dXK)
theorem zK (its:List Value) (n j:Nat) (u:Value):Obj.mapSeq (·.setIfInBounds j u) { cls:=.type "list",data:=.seq its.toArray n }={ cls:=.type "list",data:=.seq (its.set j u).toArray n }:=by
 simp [Obj.mapSeq]
theorem Inv.lst {pins:Q2} {σ:St} {H:Hp} {s:Shared} {p:Addr} {xs:List V} (I:Inv X pins σ H s) (h:H p=some (.lst xs)) :
   ∃ (its:List Value) (n:Nat),Vals xs its/\s.heap.get? p=some { cls:=.type "list",data:=.seq its.toArray n }/\xs.length<=sizeLine:=by
 obtain ⟨z,its,n,r,e⟩:=I.hok p _ h;exact ⟨its,n,r,e,z⟩
theorem Inv.lstUpd {pins:Q2} {σ:St} {H:Hp} {s:Shared} {p:Addr} {xs ys:List V} {its its':List Value} {n n':Nat} {f:Obj->Obj} (I:Inv X pins σ H s) (h:H p=some (.lst xs))
   (ho:s.heap.get? p=some { cls:=.type "list",data:=.seq its.toArray n }) (hf:f { cls:=.type "list",data:=.seq its.toArray n }={ cls:=.type "list",data:=.seq its'.toArray n' }) (r:Vals ys its') (hz:ys.length<=sizeLine) (t:Nat) :
   Inv X pins σ (upd H p (.lst ys)) { s with heap:=s.heap.update p f,toks:=t }:=by
 have e:(s.heap.update p f).get? p=some { cls:=.type "list",data:=.seq its'.toArray n' }:=by
   rw [Heap.get?_update_self f ho (by rw [hf] <;> rfl),hf]
 refine I.write (x:=p) (e:=p) (by rw [h]; trivial) (.inl rfl) (λb u hb q=>(Cm _ _ (Ne.symm hb)).trans q) ⟨_,e⟩ ?_
 exact ⟨hz,its',n',r,e⟩
def cJL:V->V->V->Hp->(Hp->Prop)->Prop:=λo i v H Q=>∃ p xs k j,o=.ref p/\i=.int k/\H p=some (.lst xs)/\ixN xs.length k=some j/\Q (upd H p (.lst (xs.set j v)))
theorem bJH:dJU X cJL:=by
 intro pins s σ H o i v ov iv u Q I ro ri rv h;obtain ⟨p,xs,k,j,rfl,rfl,hp,hj,q⟩:=h;cases ro;obtain ⟨t,rfl⟩:=ri;obtain ⟨its,n,r,ho,hz⟩:=I.lst hp;obtain ⟨h1,h2,h3,h4⟩:=aZ1 hj;have hl:=r.length
 have hn:=lR
 have I':Inv X pins σ (upd H p (.lst (xs.set j v))) { s with heap:=s.heap.update p (Obj.mapSeq (·.setIfInBounds j u)) } :=
   I.lstUpd hp ho (zK its n j u) (r.set rv j) (by rw [Ez]; exact hz) s.toks
 by_cases h0:0<=k
 · have hk:k.toNat=j:=by
     rw [seqIndex_of h0 h4] at h1;exact Bo h1
   exact PySem.W.ki_setAt ho h0 (by omega) (by rw [Bf,<-hl]; exact h4) (by rw [hk]; exact ⟨_,I',q⟩)
 · have hk:(k+(its.toArray.size:Int)).toNat=j:=by
     rw [seqIndex_neg (by omega) h3] at h1
     rw [Bf,<-hl];exact Bo h1
   exact PySem.W.ki_setBack ho (by omega) (by rw [Bf,<-hl]; exact h3) (by omega) (by rw [hk]; exact ⟨_,I',q⟩)
theorem vF (lo hi:Option Int) (n:Nat):(sliceBounds lo hi none n).1=((HT.sIx n 0 lo:Nat):Int)/\(sliceBounds lo hi none n).2.1=((HT.sIx n n hi:Nat):Int)/\(sliceBounds lo hi none n).2.2=1:=by
 refine ⟨?_,?_,rfl⟩
 · cases lo with
   | none=>simp [sliceBounds,HT.sIx]
   | some i=>
     simp only [sliceBounds,HT.sIx,Option.getD_none,show (1:Int) > 0 by decide,if_true]
     by_cases h:i<0
     · simp only [h,if_true] <;> omega
     · simp only [h,if_false] <;> omega
 · cases hi with
   | none=>simp [sliceBounds,HT.sIx]
   | some i=>
     simp only [sliceBounds,HT.sIx,Option.getD_none,show (1:Int) > 0 by decide,if_true]
     by_cases h:i<0
     · simp only [h,if_true] <;> omega
     · simp only [h,if_false] <;> omega
theorem sF (its:List Value) (lo hi:Option Int):slicePick its.toArray lo hi none=((its.drop (HT.sIx its.length 0 lo)).take (HT.sIx its.length its.length hi - HT.sIx its.length 0 lo)).toArray:=by
 obtain ⟨h1,h2,h3⟩:=vF lo hi its.toArray.size;unfold slicePick;rw [h1,h2,h3];simp only [sliceRange_one,pick_run,List.size_toArray] <;> rfl
def eZC (K:PySem.W.Frag):V->Option Int->Option Int->Hp->VK->Prop:=λx lo hi H Q=>∃ a xs,x=.ref a/\SqL K H a xs/\∀ p,H p=none->Q (.ref p) (upd H p (.lst (rP xs lo hi)))
theorem sl_list:SlR X (eZC X.K):=by
 intro pins s σ H x v vl vu lo hi sl Q I rx hs pl pu h;obtain ⟨a,xs,rfl,hx,q⟩:=h;cases rx;obtain ⟨its,r,ht,hz⟩:=I.list hx;have hlen:=r.length
 refine ⟨"list",_,slot_list_getitem.lookup,ht.isList.typeIs,?_⟩;refine wpAny_getItem_list_slice ht.isList hs pl pu .none (by simp) ?_ (by rw [List.size_toArray] <;> omega)
 rw [sF,<-hlen];refine ⟨.ref s.heap.objs.size,_,I.laid (t':=s.toks) (o:=.lst (rP xs lo hi)) (λb ob q=>Af _ q) (Ah _) ?_,rfl,q _ (I.hok.fresh (Ah _))⟩;exact ⟨Bc (yD xs lo hi) hz,_,0,(r.drop (HT.sIx xs.length 0 lo)).take (HT.sIx xs.length xs.length hi - HT.sIx xs.length 0 lo),Ax _ rfl⟩
def cA:V->Bool
 | .non=>true
 | .bl _=>true
 | .int _=>true
 | .str _=>true
 | _=>false
def eqV:V->V->Bool
 | .non,.non=>true
 | .bl a,.bl b=>a == b
 | .bl a,.int b=>(if a then 1 else 0) == b
 | .int a,.bl b=>a == (if b then 1 else 0)
 | .int a,.int b=>a == b
 | .str a,.str b=>a == b
 | _,_=>false
theorem jL {A:Around} {s:Shared} {y x:V} {u v:Value} (ry:RelV y u) (rx:RelV x v) (fy:cA y=true) (fx:cA x=true):SeqAt.EqAt A s u v (eqV y x):=by
 cases y with
 | non=>
   cases ry;cases x with
   | non=>cases rx; exact SeqAt.EqAt.same _
   | bl b=>cases rx; exact SeqAt.EqAt.none_bool b
   | int b=>obtain ⟨t,rfl⟩:=rx; exact SeqAt.EqAt.none_int b t
   | str b=>obtain ⟨t,rfl⟩:=rx; exact SeqAt.EqAt.none_str b t
   | _=>exact absurd (show false=true from fx) Aq
 | bl a=>
   cases ry;cases x with
   | non=>cases rx; exact SeqAt.EqAt.bool_none a
   | bl b=>cases rx; exact SeqAt.EqAt.bool_bool a b
   | int b=>obtain ⟨t,rfl⟩:=rx; exact SeqAt.EqAt.bool_int a b t
   | str b=>obtain ⟨t,rfl⟩:=rx; exact SeqAt.EqAt.bool_str a b t
   | _=>exact absurd (show false=true from fx) Aq
 | int a=>
   obtain ⟨t',rfl⟩:=ry;cases x with
   | non=>cases rx; exact SeqAt.EqAt.int_none a t'
   | bl b=>cases rx; exact SeqAt.EqAt.int_bool a t' b
   | int b=>obtain ⟨t,rfl⟩:=rx; exact Gg a t' b t
   | str b=>obtain ⟨t,rfl⟩:=rx; exact SeqAt.EqAt.int_str a t' b t
   | _=>exact absurd (show false=true from fx) Aq
 | str a=>
   obtain ⟨t',rfl⟩:=ry;cases x with
   | non=>cases rx; exact SeqAt.EqAt.str_none a t'
   | bl b=>cases rx; exact SeqAt.EqAt.str_bool a t' b
   | int b=>obtain ⟨t,rfl⟩:=rx; exact SeqAt.EqAt.str_int a t' b t
   | str b=>obtain ⟨t,rfl⟩:=rx; exact SeqAt.EqAt.str_str a t' b t
   | _=>exact absurd (show false=true from fx) Aq
 | _=>exact absurd (show false=true from fy) Aq
def eqU (x:V) (u:Value):Bool:=match u with
 | .none=>eqV .non x
 | .bool b=>eqV (.bl b) x
 | .int i _=>eqV (.int i) x
 | .str z _=>eqV (.str z) x
 | _=>false
theorem cQG {x y:V} {u:Value} (r:RelV y u) (f:cA y=true):eqU x u=eqV y x:=by
 cases y with
 | non=>cases r; rfl
 | bl b=>cases r; rfl
 | int i=>obtain ⟨t,rfl⟩:=r; rfl
 | str z=>obtain ⟨t,rfl⟩:=r; rfl
 | _=>exact absurd (show false=true from f) Aq
theorem mV {x:V}:∀ {xs:List V} {us:List Value},Vals xs us->xs.all cA=true->us.any (eqU x)=xs.any λy=>eqV y x
 | _,_,.nil,_=>rfl
 | y::xs,u::us,.cons r t,f=>by
   rw [List.all_cons,Cs] at f;rw [He,He,cQG r f.1,mV t f.2]
theorem kB {A:Around} {s:Shared} {x:V} {v:Value} (rx:RelV x v) (fx:cA x=true):∀ {xs:List V} {us:List Value},Vals xs us->xs.all cA=true->∀ u∈us,SeqAt.EqAt A s u v (eqU x u)
 | _,_,.nil,_=>λu hu=>by cases hu
 | y::xs,u::us,.cons r t,f=>λu' hu=>by
   rw [List.all_cons,Cs] at f;rcases Bd.mp hu with rfl | hu
   · rw [cQG r f.1]; exact jL r rx f.1 fx
   · exact kB rx fx t f.2 u' hu
def inV (x:V) (xs:List V):Bool:=xs.any λy=>eqV y x
def rIn (K:PySem.W.Frag) (neg:Bool):R2:=λx y H Q=>∃ p xs,y=.ref p/\(SqL K H p xs\/SqT K H p xs)/\cA x=true/\xs.all cA=true/\Q (.bl (if neg then !inV x xs else inV x xs)) H
theorem op_in_seq:OpR X (compareOp .In) (rIn X.K false):=by
 intro pins s σ H x y v u Q I rx ry h;obtain ⟨p,xs,rfl,hq,fx,fs,q⟩:=h;cases ry;rcases hq with hq | hq
 · obtain ⟨its,r,pl,hz⟩:=I.list hq;refine SeqAt.in_listAt (eqU x) pl.isList (λw hw=>kB rx fx r fs w (by simpa using hw)) ⟨.bl _,H,I,rfl,?_⟩
   rw [show its.toArray.any (eqU x)=its.any (eqU x) by simp,mV r fs]
   exact q
 · obtain ⟨its,r,pl,hz⟩:=I.tuple hq;refine SeqAt.in_tupleAt (eqU x) pl (λw hw=>kB rx fx r fs w (by simpa using hw)) ⟨.bl _,H,I,rfl,?_⟩
   rw [show its.toArray.any (eqU x)=its.any (eqU x) by simp,mV r fs]
   exact q
theorem op_notIn_seq:OpR X (compareOp .NotIn) (rIn X.K true):=by
 intro pins s σ H x y v u Q I rx ry h;obtain ⟨p,xs,rfl,hq,fx,fs,q⟩:=h;cases ry;rcases hq with hq | hq
 · obtain ⟨its,r,pl,hz⟩:=I.list hq;refine SeqAt.notIn_listAt (eqU x) pl.isList (λw hw=>kB rx fx r fs w (by simpa using hw)) ⟨.bl _,H,I,rfl,?_⟩
   rw [show its.toArray.any (eqU x)=its.any (eqU x) by simp,mV r fs]
   exact q
 · obtain ⟨its,r,pl,hz⟩:=I.tuple hq;refine SeqAt.notIn_tupleAt (eqU x) pl (λw hw=>kB rx fx r fs w (by simpa using hw)) ⟨.bl _,H,I,rfl,?_⟩
   rw [show its.toArray.any (eqU x)=its.any (eqU x) by simp,mV r fs]
   exact q
theorem mJ:CallR X (.builtin "len") (λxs H Q=>∃ p ys,xs=[.ref p]/\(SqL X.K H p ys\/SqT X.K H p ys)/\Q (.int ys.length) H):=by
 intro pins s σ H xs us Q I r h;obtain ⟨p,ys,rfl,hq,q⟩:=h;obtain ⟨u,rfl,rx⟩:=fF r;cases rx;have hn:=lR
 rcases hq with hq | hq
 · obtain ⟨its,r',pl,hz⟩:=I.list hq;have hlen:=r'.length
   exact Calls.call_len_list pl.isList (by simp only [List.size_toArray] <;> omega) ⟨.int ys.length,H,I.tok _,⟨s.toks+1,by rw [List.size_toArray,hlen]⟩,q⟩
 · obtain ⟨its,r',pl,hz⟩:=I.tuple hq;have hlen:=r'.length
   exact len_tuple pl (by simp only [List.size_toArray] <;> omega) ⟨.int ys.length,H,I.tok _,⟨s.toks+1,by rw [List.size_toArray,hlen]⟩,q⟩
theorem CallR.or {f:Value} {r r':List V->Hp->VK->Prop} (h:CallR X f r) (h':CallR X f r'):CallR X f (λxs H Q=>r xs H Q\/r' xs H Q):=by
 intro pins s σ H xs us Q I rs q;rcases q with q | q
 · exact h pins s σ H xs us Q I rs q
 · exact h' pins s σ H xs us Q I rs q
theorem call_list_of:CallR X (.type "list") (λxs H Q=>∃ p ys,xs=[.ref p]/\(SqL X.K H p ys\/SqT X.K H p ys)/\∀ l,H l=none->Q (.ref l) (upd H l (.lst ys))):=by
 intro pins s σ H xs us Q I r h;obtain ⟨p,ys,rfl,hq,q⟩:=h;obtain ⟨u,rfl,rx⟩:=fF r;cases rx;have fin:∀ (its:List Value),Vals ys its->ys.length<=sizeLine->∀ (h':Heap) (c':Nat),(∀ b o',s.heap.get? b=some o'->h'.get? b=some o')->
     h'.get? s.heap.objs.size=some { cls:=.type "list",dict:=none,data:=.seq its.toArray c',slots:=#[] }->EP X pins σ Q (.ref s.heap.objs.size) { s with heap:=h' }:=λits r' hz h' c' kp e=>
   ⟨.ref s.heap.objs.size,_,I.laid (t':=s.toks) kp (Ah _) (show ObjOk X.prog X.w _ h' _ (.lst ys) from ⟨hz,its,c',r',e⟩),rfl,q _ (I.hok.fresh (Ah _))⟩
 rcases hq with hq | hq
 · obtain ⟨its,r',pl,hz⟩:=I.list hq;have hlen:=r'.length
   obtain ⟨o,ho,hc,n,hd⟩:=pl.isList;exact call_list_seq p (.inl rfl) ho hc hd (λh' c' kp e=>fin its r' hz h' c' kp e) (by simp only [List.size_toArray] <;> omega)
 · obtain ⟨its,r',pl,hz⟩:=I.tuple hq;have hlen:=r'.length
   obtain ⟨o,ho,hc,n,hd⟩:=pl;exact call_list_seq p (.inr rfl) ho hc hd (λh' c' kp e=>fin its r' hz h' c' kp e) (by simp only [List.size_toArray] <;> omega)
def tyV (K:PySem.W.Frag) (T:String) (x:V) (H:Hp):Prop:=match x with
 | .str _=>T="str"
 | .int _=>T="int"
 | .ref p=>(T="list"/\∃ xs,SqL K H p xs)\/(T="tuple"/\∃ o,K.lookup p=some o/\o.cls=.type "tuple"/\o.dict=none)\/
     (T="dict"/\((∃ kvs,H p=some (.dK kvs))\/∃ kvs,H p=some (.dT kvs)))\/(T="set"/\∃ S n,H p=some (.set S n))
 | _=>False
theorem bJ6 {pins:Q2} {σ:St} {H:Hp} {s:Shared} {T:String} {x:V} {v:Value} (I:Inv X pins σ H s) (r:RelV x v) (ty:tyV X.K T x H) :
   s.TypeIs v T/\∀ a,v=.ref a->∃ ob,s.heap.get? a=some ob/\ob.dict=none:=by
 cases x with
 | str z=>
   obtain ⟨t,rfl⟩:=r;cases (show T="str" from ty);exact ⟨typeIs_str s z t,λ_ e=>nomatch e⟩
 | int i=>
   obtain ⟨t,rfl⟩:=r;cases (show T="int" from ty);exact ⟨typeIs_int s i t,λ_ e=>nomatch e⟩
 | ref p=>
   cases r;rcases ty with ⟨rfl,xs,hq⟩ | ⟨rfl,o,hk,hc,hd⟩ | ⟨rfl,hk⟩ | ⟨rfl,S,n,hk⟩
   · obtain ⟨its,_,pl,_⟩:=I.list hq;refine ⟨pl.isList.typeIs,λa e=>?_⟩;cases e;obtain ⟨o,n,e,c,hd,_⟩:=pl;exact ⟨o,e,hd⟩
   · refine ⟨⟨o,I.kIn p o hk,hc⟩,λa e=>?_⟩;cases e;exact ⟨o,I.kIn _ o hk,hd⟩
   · have z:∃ o,s.heap.get? p=some o/\o.ExactDict:=by
       rcases hk with ⟨kvs,hk⟩ | ⟨kvs,hk⟩
       · obtain ⟨_,_,_,_,o,_,_,e,ex,_⟩:=I.hok p _ hk;exact ⟨o,e,ex⟩
       · obtain ⟨_,_,_,_,o,_,_,e,ex,_⟩:=I.hok p _ hk;exact ⟨o,e,ex⟩
     obtain ⟨o,e,ex⟩:=z;refine ⟨⟨o,e,ex.1⟩,λa e2=>?_⟩;cases e2;exact ⟨o,e,ex.2.1⟩
   · obtain ⟨o,_,_,_,e,ex,_⟩:=I.hok p _ hk;refine ⟨⟨o,e,ex.1⟩,λa e2=>?_⟩;cases e2;exact ⟨o,e,ex.2.1⟩
 | _=>exact False.elim ty
variable {o e:Expr} {es:List Expr} {to:TE} {t:TA} {name:Str} {apos cpos:Pos} {T id:String} {r:V->List V->Hp->VK->Prop}
end
end L2
namespace L2
open PySem PySem.Spec PyProof.Rows
def MtM (X:Cx) (id:String) (r:V->List V->Hp->VK->Prop):Prop :=
 ∀ (pins:Q2) (s:Shared) (σ:St) (H:Hp) (x:V) (xs:List V) (v:Value) (us:List Value) (Q:VK),Inv X pins σ H s->RelV x v->Vals xs us->r x xs H Q->
   wpAny (model X.prog X.w) X.A (call (.builtin id) (v::us)) (EP X pins σ Q) X.xe s
theorem Vals.one:∀ {x:V} {us:List Value},Vals [x] us->∃ u,us=[u]/\RelV x u
 | _,_,.cons r .nil=>⟨_,rfl,r⟩
theorem Vals.two:∀ {x y:V} {us:List Value},Vals [x,y] us->∃ u v,us=[u,v]/\RelV x u/\RelV y v
 | _,_,_,.cons r (.cons q .nil)=>⟨_,_,rfl,r,q⟩
theorem Vals.zero:∀ {us:List Value},Vals [] us->us=[]
 | _,.nil=>rfl
section
variable {X:Cx} {pins:Q2} {σ:St} {H:Hp} {s:Shared} {l b:Addr} {xs ys zs:List V}
theorem Inv.lset {its its':List Value} {n:Nat} {f:Array Value->Array Value} {t':Nat} (I:Inv X pins σ H s) (hH:H l=some (.lst xs))
   (e:s.heap.get? l=some { cls:=.type "list",data:=.seq its.toArray n }) (hf:f its.toArray=its'.toArray) (hv:Vals ys its') (hz:ys.length<=sizeLine) :
   Inv X pins σ (upd H l (.lst ys)) { s with heap:=s.heap.update l (Obj.mapSeq f),toks:=t' }:=by
 have q:=PySem.IsL.update e f
 rw [hf] at q;refine I.write (x:=l) (e:=l) (by rw [hH]; exact trivial) (.inl rfl) (λb' u hb hu=>(Cm s.heap (Obj.mapSeq f) (Ne.symm hb)).trans hu) ⟨_,q⟩ ?_
 exact ⟨hz,its',_,hv,q⟩
theorem Inv.lnew {its:List Value} {t':Nat} (I:Inv X pins σ H s) (hv:Vals ys its) (hz:ys.length<=sizeLine) :
   Inv X pins σ (upd H s.heap.objs.size (.lst ys)) { s with heap:=s.heap.push { cls:=.type "list",data:=.seq its.toArray },toks:=t' } :=
 I.laid (λ_ _ q=>Af _ q) (Ah _) ⟨hz,its,0,hv,Ax _ rfl⟩
theorem Inv.fresh (I:Inv X pins σ H s):H s.heap.objs.size=none:=I.hok.fresh (Ah _)
theorem Inv.lstM (I:Inv X pins σ H s) (hH:H l=some (.lst xs)):xs.length<=sizeLine/\∃ (its:List Value) (n:Nat),Vals xs its/\xs.length=its.length/\s.heap.get? l=some { cls:=.type "list",data:=.seq its.toArray n }:=by
 obtain ⟨z,its,n,r,e⟩:=I.hok l _ hH;exact ⟨z,its,n,r,r.length,e⟩
theorem bZ3 {n:Nat} (h:n<=sizeLine):Builtin.List.listTooLong n=false:=by
 unfold Builtin.List.listTooLong;exact Am (by omega)
end
section
variable {X:Cx}
def aZF:V->List V->Hp->VK->Prop:=λx vs H Q=>∃ l xs y,x=.ref l/\vs=[y]/\H l=some (.lst xs)/\xs.length<sizeLine/\Q .non (upd H l (.lst (xs++[y])))
theorem uA:MtM X "list.append" aZF:=by
 intro pins s σ H x vs v us Q I rx rv h;obtain ⟨l,xs,y,rfl,rfl,hH,hz,q⟩:=h;cases rx;obtain ⟨u,rfl,ru⟩:=rv.one;obtain ⟨z,its,n,r,hl,e⟩:=I.lstM hH;refine call_meets F.slot_list_append ⟨_,e,rfl⟩ F.entry_list_append (F.args_list_append_2 _ _) (PySem.list_append l its.toArray n u (by rw [Bf]; omega)) ⟨e,?_⟩
 refine ⟨.non,_,I.lset (its':=its++[u]) hH e (by simp) (r.append (.cons ru .nil)) ?_,rfl,q⟩
 rw [Aj,List.length_singleton];omega
def aZT:V->List V->Hp->VK->Prop:=λx vs H Q=>∃ l b xs zs,x=.ref l/\vs=[.ref b]/\H l=some (.lst xs)/\H b=some (.lst zs)/\xs.length+zs.length<=sizeLine/\Q .non (upd H l (.lst (xs++zs)))
theorem bQJ:MtM X "list.extend" aZT:=by
 intro pins s σ H x vs v us Q I rx rv h;obtain ⟨l,b,xs,zs,rfl,rfl,hH,hB,hz,q⟩:=h;cases rx;obtain ⟨u,rfl,ru⟩:=rv.one;cases ru;obtain ⟨z,its,n,r,hl,e⟩:=I.lstM hH;obtain ⟨z2,its2,n2,r2,hl2,e2⟩:=I.lstM hB;have hsz:its.toArray.size+its2.toArray.size<=sizeLine:=by rw [Bf,Bf]; omega
 have hlong:¬ (!its.toArray.isEmpty && Builtin.List.listTooLong (its.toArray.size+its2.toArray.size))=true:=by
   rw [bZ3 hsz,Bool.and_false];exact Aq
 refine call_meets F.slot_list_extend ⟨_,e,rfl⟩ F.entry_list_extend (F.args_list_extend_2 _ _)
   (AutoSeq1.list_extend_list_list_0 l its.toArray n b its2.toArray n2 hlong (by rw [Bf]; omega) (by omega)) ⟨e,e2,?_⟩
 refine ⟨.non,_,I.lset (its':=its++its2) hH e (by simp) (r.append r2) ?_,rfl,q⟩
 rw [Aj];omega
def bZP:V->List V->Hp->VK->Prop:=λx vs H Q=>∃ l xs,x=.ref l/\vs=[]/\H l=some (.lst xs)/\Q .non (upd H l (.lst []))
theorem bXH:MtM X "list.clear" bZP:=by
 intro pins s σ H x vs v us Q I rx rv h;obtain ⟨l,xs,rfl,rfl,hH,q⟩:=h;cases rx;have hus:=rv.zero
 subst hus;obtain ⟨z,its,n,r,hl,e⟩:=I.lstM hH;refine call_meets F.slot_list_clear ⟨_,e,rfl⟩ F.entry_list_clear (F.args_list_clear_1 _) (AutoSeq1.list_clear_list_0 l its.toArray n (by rw [Bf]; omega)) ⟨e,?_⟩
 exact ⟨.non,_,I.lset (its':=[]) (ys:=[]) hH e rfl .nil (Bw _),rfl,q⟩
def eX9:R2:=λx y H Q=>∃ l b xs zs,x=.ref l/\y=.ref b/\H l=some (.lst xs)/\H b=some (.lst zs)/\xs.length+zs.length<=sizeLine/\∀ p,H p=none->Q (.ref p) (upd H p (.lst (xs++zs)))
theorem dQ3:OpR X (binaryOp .Add) eX9:=by
 intro pins s σ H x y v u Q I rx ry h;obtain ⟨l,b,xs,zs,rfl,rfl,hH,hB,hz,q⟩:=h;cases rx;cases ry;obtain ⟨z,its,n,r,hl,e⟩:=I.lstM hH;obtain ⟨z2,its2,n2,r2,hl2,e2⟩:=I.lstM hB;refine PySem.P.add_list e e2 ?_ (by rw [Bf,Bf]; omega)
 have ea:its.toArray++its2.toArray=(its++its2).toArray:=by simp
 rw [ea];exact ⟨.ref _,_,I.lnew (t':=s.toks) (r.append r2) (by rw [Aj]; omega),rfl,q _ I.fresh⟩
end
section
variable {prog:Program} {w:World} {A:Around} {E:Q0} {s:Shared}
end
section
variable {X:Cx}
end
end L2
namespace Att
open PySem PySem.W PySem.Calls PyProof.Rows
theorem oU {P:Params} {h:Heap}:∀ (ns:List Int) (vs:List Value),WellAll P h vs (ns.map WData.int)->IntsAre vs ns:=by
 intro ns;induction ns with
 | nil=>
   intro vs w;rw [Fx] at w;cases w;exact .nil
 | cons n ns ih=>
   intro vs w;rw [Au] at w;cases w with
   | cons a b=>
     cases a;exact .cons _ _ (ih _ b)
theorem bQ8 {l:OpenLaw} {n:Nat} (hn:l.most=some n) {P:Params} {h:Heap} {args:List WData} {vals:List Value}
   (hpre:l.row.toRowW.claim.pre args=true) (hwl:WellAll P h vals args) :
   ∃ a vs ns,vals=[Value.ref a]/\args=[WData.list (ns.map WData.int)]/\h.get? a=some { cls:=.type "list",data:=.seq vs.toArray }/\IntsAre vs ns/\ns.length<=n:=by
 have hsh:WShape.hasAll [] args [.list .int]=true:=(pre_splitW hpre).1
 have hc:l.pre.holds [] { args:=args }=true:=(pre_splitW hpre).2
 obtain ⟨d,r,rfl,h1,h2⟩:=hasAllW_cons hsh;obtain rfl:=hasAllW_nil h2;obtain ⟨xs,rfl,h3⟩:=hasW_list h1;obtain ⟨ns,rfl⟩:=items_int h3;have hlen:ns.length<=n:=by
   unfold OpenLaw.pre at hc;have h4:(WTm.not (.lt (.lit (.int (n:Int))) (.len (.arg 0)))).holds [] { args:=[.list (ns.map .int)] }=true:=by
     have h4:=(holds_andW hc).1
     rw [hn] at h4;exact h4
   have h5:=condW_of h4 (w_not (w_lt w_lit (w_len_list (w_arg rfl))))
   rw [Ab] at h5;refine Nat.le_of_not_lt λq=>?_;have q':(n:Int)<((ns.length:Nat):Int):=by omega
   first
     | (rw [An q'] at h5; exact absurd h5 (by decide))
     | (simp at h5; omega)
 cases hwl with
 | cons w1 w2=>
   cases w2;cases w1 with
   | list ho hall=>exact ⟨_,_,ns,rfl,rfl,ho,oU ns _ hall,hlen⟩
theorem bQC (l:OpenLaw) (args:List WData):l.row.toRowW.claim.post args (.bool true) args=true :=
 postW_of (r:=l.row.toRowW) (X:=(true == true))
   (show WShape.has [] (.bool true) .bool=true by first | rfl | decide | simp [WShape.has,WShape.arms,WShape.armsAll])
   (show (WTm.eq .res (.lit (.bool true))).value [] { args:=args,res:=some (.bool true),after:=args }=some (.bool (true == true)) from w_eq_bool (w_res rfl) w_lit) rfl
theorem attach_call {l:OpenLaw} {n:Nat} {q:Program} {loose:List Str} {XP:(Q4)->Heap->Prop} {YP:World->Heap->Prop} {d:DefRec}
   (hn:l.most=some n) (hdf:d.params.defaults=[])
   (call:∀ (w:World) (s₀ s₁:Shared) (mg mb:Q4) (fa:Addr) (o:Obj) (pm cd doc:Value) (a:Addr) (vs:List Value) (ns:List Int),
     Ground q loose [] XP w s₀ mg mb s₁.heap->YP w s₁.heap->
     s₁.heap.get? fa=some o->o.data=.func (docDef d.name d.params d.body d.scope pm cd doc)->s₁.heap.CodeRec cd d.name->mg d.name=some (.ref fa)->
     s₁.heap.get? a=some { cls:=.type "list",data:=.seq vs.toArray }->IntsAre vs ns->ns.length<=n->s₁.gens=#[]->
     codeAny (model l.prog w) callerA (.call (.ref fa) ⟨[.ref a],[]⟩) (λr s'=>r=.ok (.ret (.bool true))/\OldK s₁.heap s'.heap/\s'.os=s₁.os/\AllBare s'.gens) s₁) :
   WalkO q loose XP YP l.row.toRowW d [] (λf vs=>PySem.call f vs):=by
 intro w s₀ s₁ mg mb G Y fa o pm cd doc dV kV ho hd hcd hD hmg hg args vals as hpre hlay hrd hwl hlo;obtain rfl:dV=.none:=Dflts.none hD hdf;obtain rfl:kV=.none:=Dflts.noKw hD;obtain ⟨a,vs,ns,rfl,rfl,hobj,hints,hlen⟩:=bQ8 hn hpre hwl;refine enter_call (Fb (call w s₀ s₁ mg mb fa o pm cd doc a vs ns G Y ho (fd_plain hd) hcd hmg hobj hints hlen hg) λr s' hq=>?_);obtain ⟨rfl,h2,h3,h4⟩:=hq;exact ⟨.inl ⟨.bool true,.bool true,[],rfl,λ_=>rfl,.bool true,bQC l _,λ_=>⟨List.Pairwise.nil,λ_ hm=>(nomatch hm)⟩⟩,h2,h3,h4⟩
section
variable {prog:Program} {w:World} {A:Around} {E:Q0} {s:Shared} {K:Frag}
end
end Att
namespace L2
open PySem PySem.Spec PyProof.Rows
theorem sL:∀ {vs:List Value} {ns:List Int},IntsAre vs ns->Vals (ns.map V.int) vs
 | _,_,.nil=>.nil
 | _,_,.cons n t h=>.cons ⟨t,rfl⟩ (sL h)
def dZM (H:Hp):Prop:=∀ b,H b=none\/∃ o xs,H b=some (.frz o (.lst xs))
theorem bXT {P:Program} {w:World} {K:PySem.W.Frag} {mg mb:Q4} {CX:CXT} {k:Nat} {fa a:Addr} {fd:FuncData} {x:Str} {sp:Sp} {s₁:Shared} {vs:List Value} {ns:List Int}
   (KX:K.In s₁.heap) (hns:s₁.heap.Ns mainGlobals mg) (hb:s₁.heap.Ns builtinsNs mb) (hbb:∀ x:Str,x≠"__name__"->mb x=bootBuiltins x) (hlim:s₁.heap.NoLimit) (hg:s₁.gens=#[])
   (ha:s₁.heap.get? a=some { cls:=.type "list",data:=.seq vs.toArray }) (hi:IntsAre vs ns) (hl:ns.length<=sizeLine) (hr:Room k callerA)
   (F:∀ base:Heap,K.In base->base.Ns mainGlobals mg->FnOk P w K mg base CX k fa fd [x] sp) (hbind:∀ (s:Shared) (u:Value),BindsTo s fd ⟨[u],[]⟩ [(x,u)])
   (hsp:∀ H:Hp,dZM H->SqL K H a (ns.map V.int)->sp [.ref a] H (λv _=>v=.bl true) λ_ _ _=>False)
   (hCX:∀ H e s',CX [] H s₁ (λ_ _ _=>False) e s'->False) :
   codeAny (model P w) callerA (.call (.ref fa) ⟨[.ref a],[]⟩) (λr s'=>r=.ok (.ret (.bool true))/\OldK s₁.heap s'.heap/\s'.os=s₁.os/\AllBare s'.gens) s₁:=by
 have rv:=sL hi
 have lenV:=hi.length
 -- from an abstract heap in which nothing but the script may be tracked
 have core:∀ H:Hp,dZM H->SqL K H a (ns.map V.int)->HOk P w H s₁.heap->(∀ b,H b≠none->b=a)->(H a≠none->K.lookup a=none)->
     codeAny (model P w) callerA (.call (.ref fa) ⟨[.ref a],[]⟩) (λr s'=>r=.ok (.ret (.bool true))/\OldK s₁.heap s'.heap/\s'.os=s₁.os/\AllBare s'.gens) s₁:=by
   intro H hO hS hok hA hK;have base_of:∀ {b:Addr} {o:Obj},s₁.heap.get? b=some o->H b=none->(vX s₁.heap H).get? b=some o:=λe n=>bXJ e n
   have noA:∀ {b:Addr} {o:Obj} {es:Array DictEntry} {ep:Nat},s₁.heap.get? b=some o->o.data=.dict es ep->H b=none:=fun {b o es ep} e d=>by
     cases q:H b with
     | none=>rfl
     | some u=>
       have e':b=a:=hA b (by rw [q]; simp)
       subst e';rw [ha] at e; cases e;have d':Data.seq vs.toArray _=Data.dict es ep:=d
       cases d'
   have nsK:∀ {b:Addr} {m:Q4},s₁.heap.Ns b m->(vX s₁.heap H).Ns b m:=fun {b m} ⟨o,es,ep,e,d,r⟩=>⟨o,es,ep,base_of e (noA e d),d,r⟩
   have hKb:K.In (vX s₁.heap H):=λb o e=>base_of (KX b o e) (by
     cases q:H b with
     | none=>rfl
     | some u=>
       have e':b=a:=hA b (by rw [q]; simp)
       subst e';rw [hK (by rw [q]; simp)] at e; cases e)
   have hM:Mod K mg (vX s₁.heap H):=⟨hKb,nsK hns,⟨mb,nsK hb,hbb⟩,let ⟨mc,h1,h2⟩:=hlim; ⟨mc,nsK h1,h2⟩⟩
   have e0:Env0 P w K mg (vX s₁.heap H) callerA [] s₁ H:=⟨rfl,hM,λb o e=>cJC e,Nat.le_of_eq (aJF _ _),trivial,λb hb=>absurd (show b∈([]:List Addr) from hb) (by simp),hok,.of_eq hg⟩
   refine Fb ((F _ hKb (nsK hns)).run callerA [] s₁ H ⟨[.ref a],[]⟩ [.ref a] [.ref a] _ _ hr e0 (hbind s₁ (.ref a)) (.cons rfl .nil) (hsp H hO hS)) λr s' h=>?_;cases r with
   | error e=>exact (hCX H e s' h).elim
   | ok fl=>
     cases fl with
     | next=>exact False.elim h
     | brk=>exact False.elim h
     | cont=>exact False.elim h
     | ret u=>
       obtain ⟨v,H',os,bare,un,hok',r',q⟩:=h;have q':v=.bl true:=q
       subst q';obtain rfl:u=Value.bool true:=r';refine ⟨rfl,OldK.of_keep λb o e=>?_,os,bare⟩;cases q:H b with
       | none=>exact un.keep b o e q (by intro z; exact absurd (show b∈([]:List Addr) from z) (by simp)) (by simp)
       | some u=>
         rcases hO b with z | ⟨ob,xs,z⟩
         · rw [q] at z; cases z
         · have z2:=un.frzs b ob _ z
           obtain ⟨e1,_⟩:=hok b _ z;obtain ⟨e2,_⟩:=hok' b _ z2;rw [e] at e1; cases e1;exact e2
 cases hk:K.lookup a with
 | some o=>
   -- the script is one of the module's own objects
   have e:=KX a o hk
   rw [ha] at e;cases e;refine core (λ_=>none) (λ_=>.inl rfl) (.inr ⟨_,vs.toArray,_,hk,rfl,rfl,rfl,by rw [List.size_toArray,lenV]; exact hl,by simpa using rv⟩) (λb u z=>by have z':(none:Option HO)=some u:=z; cases z') (λb z=>absurd rfl z) λz=>absurd rfl z
 | none=>
   refine core (λb=>if b=a then some (.frz { cls:=.type "list",data:=.seq vs.toArray } (.lst (ns.map V.int))) else none) (λb=>?_) (.inl (.inr ⟨{ cls:=.type "list",data:=.seq vs.toArray },if_pos rfl⟩)) (λb u z=>?_) (λb z=>?_) λ_=>hk
   · by_cases hb:b=a
     · exact .inr ⟨_,_,if_pos hb⟩
     · exact .inl (if_neg hb)
   · by_cases hb:b=a
     · have z':=(if_pos hb).symm.trans z
       cases z';subst hb;exact ⟨ha,by rw [Ab]; exact hl,vs,_,rv,ha⟩
     · have z':=(if_neg hb).symm.trans z
       cases z'
   · by_cases hb:b=a
     · exact hb
     · exact absurd (if_neg hb) z
end L2
namespace L2
open PySem PySem.Spec PyProof.Rows
theorem cZX {l:PySem.W.OpenLaw} {n k:Nat} {q:Program} {loose:List Str} {XP:(Q4)->Heap->Prop} {YP:World->Heap->Prop} {d:DefRec} {K:Params->PySem.W.Frag} {CX:World->CXT} {sp:World->Sp} {x:Str}
   (hn:l.most=some n) (hn2:n<=sizeLine) (hdf:d.params.defaults=[]) (hr:Room k callerA)
   (hY:∀ (w:World) (h:Heap),YP w h->(K w.params).In h)
   (F:∀ (w:World) (mg:Q4) (fa:Addr) (h:Heap),(K w.params).In h->h.Ns mainGlobals mg->mg d.name=some (.ref fa)->
     ∃ fd:FuncData,(∀ (s:Shared) (u:Value),BindsTo s fd ⟨[u],[]⟩ [(x,u)])/\
       ∀ base:Heap,(K w.params).In base->base.Ns mainGlobals mg->FnOk l.prog w (K w.params) mg base (CX w) k fa fd [x] (sp w))
   (hsp:∀ (w:World) (H:Hp) (a:Addr) (ns:List Int),ns.length<=n->dZM H->SqL (K w.params) H a (ns.map V.int)->sp w [.ref a] H (λv _=>v=.bl true) λ_ _ _=>False)
   (hCX:∀ (w:World) (H:Hp) (s:Shared) (e:Value) (s':Shared),CX w [] H s (λ_ _ _=>False) e s'->False) :
   PySem.W.WalkO q loose XP YP l.row.toRowW d [] (λf vs=>PySem.call f vs):=by
 refine Att.attach_call hn hdf λw s₀ s₁ mg mb fa o pm cd doc a vs ns G Y ho hd hcd hmg hobj hints hlen hg=>?_;have KX:=hY w _ Y
 obtain ⟨fd,hb,hF⟩:=F w mg fa _ KX G.T.g hmg;exact bXT KX G.T.g G.T.b G.T.builtins G.T.nolimit hg hobj hints (Bc hlen hn2) hr hF hb (λH hO hS=>hsp w H a ns hlen hO hS) λH e s'=>hCX w H s₁ e s'
end L2
namespace L2
open PySem PySem.Spec PyProof.Rows
def aT (s:Stmt):Arguments:=match s with
 | .FunctionDef _ a _ _ _ _ _ _ _ _=>a
 | _=>{ posonlyargs:=[],args:=[],vararg:=none,kwonlyargs:=[],kw_defaults:=[],kwarg:=none,defaults:=[] }
def aS (s:Stmt):List Stmt:=match s with
 | .FunctionDef _ _ b _ _ _ _ _ _ _=>b
 | _=>[]
def aG (s:Stmt):Scope:=match s with
 | .FunctionDef _ _ _ _ _ _ sc _ _ _=>sc
 | _=>{ kind:=.function,names:=[],isGenerator:=false,isCoroutine:=false }
abbrev CX0:CXT:=λ_ _ _ _ _ _=>False
abbrev E0:XK:=λ_ _ _=>False
theorem dJ2 {X:Cx}:nL CX0 X E0:=λ_ _ _ _ _ _ _ h=>h.elim
structure Fun (K:PySem.W.Frag) (x qual:Str) (st:Stmt) (f:Addr) (fd:FuncData):Prop where
 ex:∃ (oc:Value) (od:Option Addr) (kV doc pm:Value) (an:Option Addr) (cdv ct:Value) (osl:Array (Option Value)),
   fd=PySem.W.fnOf x qual (aT st) (aS st) (aG st) .none kV doc pm an cdv ct/\K.lookup f=some ⟨oc,od,.func fd,osl⟩/\PySem.W.codeIn K cdv qual=true
 kp:PySem.W.keepIn K (.ref f)=true
section
variable {P:Program} {w:World} {K:PySem.W.Frag} {mg:Q4} {base:Heap}
theorem Fun.ok {x qual:Str} {st:Stmt} {f:Addr} {fd:FuncData} {N ps:List Str} {k:Nat} {sp:Sp} (F:Fun K x qual st f fd) (S:FnScope N ps (aG st)) (len:∀ vs H Q E,sp vs H Q E->vs.length=ps.length)
   (hbody:∀ (cdv:Value) (A:Around) (outer:List Env) (s:Shared) (H:Hp) (vs:List V) (Q:VK) (E:XK),Room k (A.deeper (envOfC qual (aG st) s.heap.objs.size f cdv))->sp vs H Q E->
     ∃ t,PSs (gX CX0 P w K mg base N qual (aG st) f cdv A outer s H E).nox (aS st) t/\t { nx:=λ_ H'=>Q .non H',rt:=Q } (iV N vs) H):FnOk P w K mg base CX0 (k+1) f fd ps sp:=by
 obtain ⟨oc,od,kV,doc,pm,an,cdv,ct,osl,rfl,lk,hcd⟩:=F.ex;refine cJI lk hcd S len λA outer s H vs Q E hr hsp=>?_;obtain ⟨t,h,q⟩:=hbody cdv A outer s H vs Q E hr hsp;exact ⟨t,h.nox,q⟩
theorem Fun.binds {x qual:Str} {st:Stmt} {f:Addr} {fd:FuncData} {ps:List Str} (F:Fun K x qual st f fd)
   (h:∀ (kV doc pm:Value) (an:Option Addr) (cdv ct:Value) (us:List Value),us.length=ps.length->bindArgs (PySem.W.fnOf x qual (aT st) (aS st) (aG st) .none kV doc pm an cdv ct) ⟨us,[]⟩=pure (ps.zip us)):Binds K fd ps []:=by
 obtain ⟨oc,od,kV,doc,pm,an,cdv,ct,osl,rfl,lk,hcd⟩:=F.ex;exact .all (h kV doc pm an cdv ct)
theorem bD {x qual:Str} {st:Stmt} {f:Addr} {oc:Value} {od an:Option Addr} {osl:Array (Option Value)} {kV doc pm cdv ct:Value} (l:K.lookup f=some ⟨oc,od,.func (PySem.W.fnOf x qual (aT st) (aS st) (aG st) .none kV doc pm an cdv ct),osl⟩)
   (c:PySem.W.codeIn K cdv qual=true) (k:PySem.W.keepIn K (.ref f)=true):Fun K x qual st f (PySem.W.fnOf x qual (aT st) (aS st) (aG st) .none kV doc pm an cdv ct):=⟨⟨oc,od,kV,doc,pm,an,cdv,ct,osl,rfl,l,c⟩,k⟩
end
section
variable {X:Cx}
theorem pv (i:Nat) {x:Str} {pos:Pos} (hN:X.N[i]?=some x:=by rfl) (hv:Vis X.env.scope x:=by first | exact Or.inl rfl | exact Or.inr (Or.inl rfl) | exact Or.inr (Or.inr rfl)) (hd:(x == ("__debug__" : Str))=false:=by decide)
   (hcd:(x == ("__classdict__" : Str))=false:=by decide):PE X (.Name x pos) (eQK i):=dZL hN hv hd hcd
end
theorem eZG {A B:Prop} (h:B):if false=true then A else B:=by
 rw [if_neg Aq];exact h
theorem eZH {A B:Prop} (h:A):if true=true then A else B:=by
 rw [if_pos rfl];exact h
theorem iI {c A B:Prop} [Decidable c] (h1:c->A) (h2:¬ c->B):if c then A else B:=by
 by_cases h:c
 · rw [if_pos h];exact h1 h
 · rw [if_neg h];exact h2 h
def Same (H H':Hp):Prop:=∀ b o,H b=some o->H' b=some o
theorem Same.refl (H:Hp):Same H H:=λ_ _ h=>h
theorem Same.trans {H H1 H2:Hp} (a:Same H H1) (b:Same H1 H2):Same H H2:=λc o h=>b c o (a c o h)
theorem Same.seq {K:PySem.W.Frag} {H H':Hp} {a:Addr} {xs:List V} (e:Same H H') (h:SqL K H a xs):SqL K H' a xs:=by
 rcases h with (h | ⟨o,h⟩) | h
 · exact .inl (.inl (e _ _ h))
 · exact .inl (.inr ⟨o,e _ _ h⟩)
 · exact .inr h
end L2
set_option maxHeartbeats 4000000
namespace FlT
open PySem PySem.Spec PyProof.Rows
theorem app_cps (x y:Str):(x++y).cps.toList=x.cps.toList++y.cps.toList:=by
 show (x.cps++y.cps).toList=_
 simp
theorem str_ext {x y:Str} (h:x.cps.toList=y.cps.toList):x=y:=by
 obtain ⟨⟨x⟩⟩:=x;obtain ⟨⟨y⟩⟩:=y;cases h;rfl
end FlT
set_option maxHeartbeats 4000000
namespace L2
open PySem PySem.Spec PyProof.Rows
theorem PE.imp {X:Cx} {e:Expr} {t t':TE} (h:PE X e t) (i:∀ σ H Q,t' σ H Q->t σ H Q):PE X e t':=λpins s σ H Q I q=>h pins s σ H Q I (i σ H Q q)
theorem OpR.imp {X:Cx} {f:Value->Value->Sem Value} {r r':R2} (h:OpR X f r) (i:∀ x y H Q,r' x y H Q->r x y H Q):OpR X f r':=λpins s σ H x y v u Q I rx ry q=>h pins s σ H x y v u Q I rx ry (i x y H Q q)
theorem CallR.imp {X:Cx} {f:Value} {r r':List V->Hp->VK->Prop} (h:CallR X f r) (i:∀ xs H Q,r' xs H Q->r xs H Q):CallR X f r':=λpins s σ H xs us Q I rx q=>h pins s σ H xs us Q I rx (i xs H Q q)
theorem MtR.imp {X:Cx} {id:String} {r r':V->List V->Hp->VK->Prop} (h:MtR X id r) (i:∀ x xs H Q,r' x xs H Q->r x xs H Q):MtR X id r':=λpins s σ H x xs v us Q I rx rs q=>h pins s σ H x xs v us Q I rx rs (i x xs H Q q)
theorem IxR.imp {X:Cx} {r r':R2} (h:IxR X r) (i:∀ x y H Q,r' x y H Q->r x y H Q):IxR X r':=λvalue slice pins s σ H x y v u Q I rx ry q hs=>h value slice pins s σ H x y v u Q I rx ry (i x y H Q q) hs
theorem SlR.imp {X:Cx} {r r':V->Option Int->Option Int->Hp->VK->Prop} (h:SlR X r) (i:∀ x lo hi H Q,r' x lo hi H Q->r x lo hi H Q):SlR X r':=λpins s σ H x v vl vu lo hi sl Q I rx hs pl pu q=>h pins s σ H x v vl vu lo hi sl Q I rx hs pl pu (i x lo hi H Q q)
def Its (z:Str):It:=⟨λi _=>i<z.cps.size,λi H x H'=>H'=H/\∃ c,z.cps[i]?=some c/\x=.str ⟨#[c]⟩,λi _=>z.cps.size<=i⟩
theorem aXL {P:Program} {w:World} {K:PySem.W.Frag} {tg:Expr} (z:Str) (t:Tok) (it:Addr):Turn P w K tg (Its z) [it] it (λi h=>h.IsStrIter it "str_ascii_iterator" z t i) where
 mem:=by simp
 obj:=λi h st b hb=>by
   have e:b=it:=by simpa using hb
   subst e;obtain ⟨o,e,c,d⟩:=st;exact ⟨o,e,λv z=>by rw [d] at z; cases z⟩
 keep:=λi h h' st k=>let ⟨o,ho,r⟩:=st; ⟨o,k it (by simp) o ho,r⟩
 item:=by
   intro X hP hw hK hc i pins s σ H E I hf st hg;subst hP hw hK;obtain ⟨f0,f1,f2,f3,f4,f5⟩:=hf it (by simp)
   have hi:i<z.cps.size:=hg
   refine wpAny_pyNext_ascii_item st (c:=z.cps[i]) (by simp [hi]) λh' st' sb=>?_
   have I1:Inv X pins σ H { s with heap:=h',toks:=s.toks+1 }:=I.turned (λb o hb e=>(sb.2 b hb).trans e) f0 f1 f3 f4 f5
   obtain ⟨o,e,c,d⟩:=id st';exact ⟨_,rfl,qI (s:={ s with heap:=h',toks:=s.toks+1 }) e c d (by decide) ⟨.str ⟨#[z.cps[i]]⟩,H,I1,⟨_,rfl⟩,⟨rfl,_,by simp [hi],rfl⟩,st',λb hb=>(hf b hb).1⟩⟩
 done:=by
   intro X hP hw hK hc i pins s σ H E I hf st hg;subst hP hw hK;obtain ⟨f0,f1,f2,f3,f4,f5⟩:=hf it (by simp)
   have hi:z.cps.size<=i:=hg
   exact wpAny_pyNext_ascii_end (I.ok.hd hc) st (by simp [hi]) λh' eb=>⟨rfl,I.turned (t':=s.toks) (λb o hb e=>eb b o hb e) f0 f1 f3 f4 f5⟩
 self:=λ_ _ _ _ _ st h=>wpAny_pyIter_striter_ascii st h
theorem aZ9 {P:Program} {w:World} {K:PySem.W.Frag} {tg:Expr} (z:Str) (t:Tok) (it:Addr):Turn P w K tg (Its z) [it] it (λi h=>h.IsStrIter it "str_iterator" z t i) where
 mem:=by simp
 obj:=λi h st b hb=>by
   have e:b=it:=by simpa using hb
   subst e;obtain ⟨o,e,c,d⟩:=st;exact ⟨o,e,λv z=>by rw [d] at z; cases z⟩
 keep:=λi h h' st k=>let ⟨o,ho,r⟩:=st; ⟨o,k it (by simp) o ho,r⟩
 item:=by
   intro X hP hw hK hc i pins s σ H E I hf st hg;subst hP hw hK;obtain ⟨f0,f1,f2,f3,f4,f5⟩:=hf it (by simp)
   have hi:i<z.cps.size:=hg
   refine wpAny_pyNext_wide_item st (c:=z.cps[i]) (by simp [hi]) λh' st' sb=>?_
   have I1:Inv X pins σ H { s with heap:=h',toks:=s.toks+1 }:=I.turned (λb o hb e=>(sb.2 b hb).trans e) f0 f1 f3 f4 f5
   obtain ⟨o,e,c,d⟩:=id st';exact ⟨_,rfl,qI (s:={ s with heap:=h',toks:=s.toks+1 }) e c d (by decide) ⟨.str ⟨#[z.cps[i]]⟩,H,I1,⟨_,rfl⟩,⟨rfl,_,by simp [hi],rfl⟩,st',λb hb=>(hf b hb).1⟩⟩
 done:=by
   intro X hP hw hK hc i pins s σ H E I hf st hg;subst hP hw hK;obtain ⟨f0,f1,f2,f3,f4,f5⟩:=hf it (by simp)
   have hi:z.cps.size<=i:=hg
   exact wpAny_pyNext_wide_end (I.ok.hd hc) st (by simp [hi]) λh' eb=>⟨rfl,I.turned (t':=s.toks) (λb o hb e=>eb b o hb e) f0 f1 f3 f4 f5⟩
 self:=λ_ _ _ _ _ st h=>wpAny_pyIter_striter_wide st h
section
variable {X:Cx} {tg:Expr}
end
theorem cZD {z:Str} {g:TG} {tb:TS} {D:Ends} {σ:St} {H:Hp} (Pv:Nat->St->Hp->Prop) (h0:Pv 0 σ H)
   (hs:∀ i c σ H,z.cps.toList[i]?=some c->Pv i σ H->g (.str ⟨#[c]⟩) σ H λσ2 H2=>tb { D with nx:=Pv (i+1),ct:=Pv (i+1),bk:=D.nx } σ2 H2) (hd:∀ σ H,Pv z.cps.toList.length σ H->D.nx σ H) :
   ∃ W:Nat->Nat->St->Hp->Prop,(∃ m,W 0 m σ H)/\∀ i m σ H,W i m σ H->
     ((Its z).stop i H/\D.nx σ H)\/((Its z).go i H/\∃ N:St->Hp->Prop,(∀ σ' H',N σ' H'->∃ m',m' < m/\W (i+1) m' σ' H')/\∀ x H',(Its z).yld i H x H'->g x σ H' λσ2 H2=>tb { D with nx:=N,ct:=N,bk:=D.nx } σ2 H2):=by
 have hl:z.cps.toList.length=z.cps.size:=by simp
 rw [hl] at hd;refine ⟨λi m σ H=>m=z.cps.size - i/\i<=z.cps.size/\Pv i σ H,⟨z.cps.size,by simp,Nat.zero_le _,h0⟩,?_⟩
 rintro i m σ H ⟨rfl,hi,p⟩;by_cases hlt:i<z.cps.size
 · refine .inr ⟨hlt,Pv (i+1),λσ' H' p'=>⟨z.cps.size - (i+1),by omega,rfl,hlt,p'⟩,λx H' y=>?_⟩
   obtain ⟨e,c,hc,hx⟩:=y;subst e hx;exact hs i c σ _ (by simpa using hc) p
 · have e:i=z.cps.size:=by omega
   subst e;exact .inl ⟨Ah _,hd σ H p⟩
section
variable {X:Cx} {a b c:Expr} {ta tb tc:TE} {pos:Pos}
def eZM:V->Option Int->Option Int->Hp->VK->Prop:=λx lo hi H Q=>∃ z,x=.str z/\z.length<=sizeLine/\Q (.str (Txt.slice z lo hi)) H
theorem dZF:SlR X eZM:=by
 intro pins s σ H x v vl vu lo hi sl Q I rx hs pl pu h;obtain ⟨z,rfl,hz,q⟩:=h;obtain ⟨t,rfl⟩:=rx;refine ⟨"str",_,PySem.F.slot_str_getitem.lookup,typeIs_str _ _ _,?_⟩;cases pl with
 | none=>
   cases pu with
   | none=>exact Fe (l:=none) (u:=none) (st:=none) hs rfl (post_val_or_str ⟨Bc (Txt.slice_le z _ _) hz,λt' k=>⟨.str (Txt.slice z none none),H,I.tok _,⟨_,rfl⟩,q⟩⟩)
   | int j uj=>exact Fe (l:=none) (u:=some (j,uj)) (st:=none) hs rfl (post_val_or_str ⟨Bc (Txt.slice_le z _ _) hz,λt' k=>⟨.str (Txt.slice z none (some j)),H,I.tok _,⟨_,rfl⟩,q⟩⟩)
 | int i ui=>
   cases pu with
   | none=>exact Fe (l:=some (i,ui)) (u:=none) (st:=none) hs rfl (post_val_or_str ⟨Bc (Txt.slice_le z _ _) hz,λt' k=>⟨.str (Txt.slice z (some i) none),H,I.tok _,⟨_,rfl⟩,q⟩⟩)
   | int j uj=>exact Fe (l:=some (i,ui)) (u:=some (j,uj)) (st:=none) hs rfl (post_val_or_str ⟨Bc (Txt.slice_le z _ _) hz,λt' k=>⟨.str (Txt.slice z (some i) (some j)),H,I.tok _,⟨_,rfl⟩,q⟩⟩)
def cXU:V->List V->Hp->VK->Prop:=λx vs H Q=>∃ z y i rest,x=.str z/\vs=[.str y]/\Builtin.Str.occurrences z y 0 z.length 1=i::rest/\Q (.int ((i:Nat):Int)) H
theorem mt_index:MtR X "str.index" cXU:=by
 intro pins s σ H x vs v us Q I rx rv h;obtain ⟨z,y,i,rest,rfl,rfl,ho,q⟩:=h;obtain ⟨t,rfl⟩:=rx;obtain ⟨u,rfl,ru⟩:=rv.one;obtain ⟨t',rfl⟩:=ru;exact SC.index ho ⟨.int i,H,I.tok _,⟨_,rfl⟩,q⟩
theorem zM {ys:List Str}:∀ {us:List Value},Vals (ys.map V.str) us->StrsAre us ys:=by
 induction ys with
 | nil=>intro us r; rw [Fx] at r; cases r; exact .nil
 | cons n ns ih=>
   intro us r;rw [Au] at r;cases r with
   | cons r1 r2=>
     obtain ⟨t,e⟩:=r1;subst e;exact .cons n t (ih r2)
theorem rV:CallR X (.type "int") (λxs H Q=>∃ x n,xs=[.str x]/\PySem.intText? x=some n/\x.length<=640/\Q (.int n) H):=by
 intro pins s σ H xs us Q I r h;obtain ⟨x,n,rfl,hn,hl,q⟩:=h;obtain ⟨u,rfl,t,rfl⟩:=fF r;exact PySem.W.KIN.call_text hn hl ⟨.int n,H,I.tok _,⟨_,rfl⟩,q⟩
theorem call_isinst:CallR X (.builtin "isinstance") (λxs H Q=>∃ x T t b,xs=[x,.ty T]/\TyOf X.K H x t/\PySem.W.kitOne X.K t (.type T)=some b/\Q (.bl b) H):=by
 intro pins s σ H xs us Q I r h;obtain ⟨x,T,t,b,rfl,ty,e,q⟩:=h;obtain ⟨u,w',rfl,rx,ry⟩:=tR r;cases (show w'=Value.type T from ry);exact bQ6 I rx ty e λtk=>⟨.bl b,H,I.tok _,rfl,q⟩
theorem wQ {bs:List Bool}:∀ {us:List Value},Vals (bs.map V.bl) us->LSm.BoolsAre us bs:=by
 induction bs with
 | nil=>intro us r; rw [Fx] at r; cases r; exact .nil
 | cons n ns ih=>
   intro us r;rw [Au] at r;cases r with
   | cons r1 r2=>
     cases r1;exact .cons n (ih r2)
theorem rT (hc:X.calm=true):CallR X (.builtin "all") (λxs H Q=>∃ (p:Addr) (bs:List Bool),xs=[.ref p]/\SqL X.K H p (bs.map V.bl)/\Q (.bl (bs.all id)) H):=by
 intro pins s σ H xs us Q I r h;obtain ⟨p,bs,rfl,hp,q⟩:=h;obtain ⟨u,rfl,ru⟩:=fF r;cases ru;obtain ⟨its,rv,pl,hz⟩:=I.list hp;have hb:=wQ rv
 have hl:=pl.isList
 have hlt:p<s.heap.objs.size:=by obtain ⟨_,e,_⟩:=hl; exact Ar e
 refine call_all_walk (Fc hl ?_);refine ⟨s.heap.objs.size,[s.heap.objs.size,p],[s.heap.objs.size],its.toArray.size,_,_,λi=>(bs[i]?).getD true,rfl,Walks.list (A:=X.A.in1) (I.ok.hd hc) _ p (Bi hlt) its.toArray,
   ⟨⟨_,Ax _ rfl,rfl,rfl⟩,hl.push _⟩,λi v s' Q' E' hP hQ=>?_,λh' tk hk=>?_⟩
 · obtain ⟨b,e,rfl⟩:=hb.get i v (by simpa using hP)
   simp only [e,Option.getD_some] at hQ;exact Ek hQ
 · have e:((List.range its.toArray.size).all λi=>(bs[i]?).getD true)=bs.all id:=by
     rw [Bf,hb.length]; exact LSm.range_all bs
   rw [e];exact ⟨.bl (bs.all id),H,I.kept (LSm.kept_iter hk),rfl,q⟩
def lC (xs ys:List V):Bool:=xs.length == ys.length && (List.range xs.length).all λj=>eqV (xs.getD j .non) (ys.getD j .non)
theorem Vals.getD_rel {xs:List V} {us:List Value} {j:Nat} (r:Vals xs us) (h:j<us.length):RelV (xs.getD j .non) us[j]:=by
 have hl:=r.length
 have hx:j<xs.length:=by omega
 obtain ⟨u,hu,ru⟩:=r.get (Aa hx);rw [Aa h] at hu;cases hu;rw [Ac,Aa hx];exact ru
theorem iU {xs:List V} (h:xs.all cA=true) (j:Nat):cA (xs.getD j .non)=true:=by
 rw [Ac];cases e:xs[j]? with
 | none=>rfl
 | some x=>exact Cq.mp h x (Ai e)
def dXZ (K:PySem.W.Frag) (neg:Bool):R2:=λx y H Q=>∃ p q xs ys,x=.ref p/\y=.ref q/\SqL K H p xs/\SqL K H q ys/\xs.all cA=true/\ys.all cA=true/\Q (.bl (if neg then !lC xs ys else lC xs ys)) H
theorem xH {xs ys:List V} (h:xs.length≠ys.length):lC xs ys=false:=by
 unfold lC;rw [Eo.mpr h,Bool.false_and]
theorem nS {xs ys:List V} (h:xs.length=ys.length):lC xs ys=(List.range xs.length).all λj=>eqV (xs.getD j .non) (ys.getD j .non):=by
 unfold lC;rw [h,beq_self_eq_true,Bool.true_and]
theorem aQT (hu:X.A.units<cLine):OpR X (compareOp .Eq) (dXZ X.K false):=by
 intro pins s σ H x y v u Q I rx ry h;obtain ⟨p,q,xs,ys,rfl,rfl,hp,hq,fx,fy,k⟩:=h;cases rx;cases ry;obtain ⟨its,r1,l1,_⟩:=I.list hp;obtain ⟨its2,r2,l2,_⟩:=I.list hq;have e1:=r1.length
 have e2:=r2.length
 by_cases hl:xs.length=ys.length
 · refine SeqAt.eq_listAt (e:=λj=>eqV (xs.getD j .non) (ys.getD j .non)) l1.isList l2.isList (by simp only [List.size_toArray]; omega) hu (λj h1 h2=>?_) ?_
   · have h1':j<its.length:=by simpa using h1
     have h2':j<its2.length:=by simpa using h2
     simpa using jL (A:=X.A.in1) (s:=s) (r1.getD_rel h1') (r2.getD_rel h2') (iU fx j) (iU fy j)
   · refine ⟨.bl (lC xs ys),H,I,?_,k⟩;rw [nS hl];simp only [List.size_toArray,<-e1];rfl
 · refine SeqAt.eq_list_lengthsAt l1.isList l2.isList (by simp only [List.size_toArray,bne_iff_ne]; omega) hu ⟨.bl (lC xs ys),H,I,?_,k⟩
   rw [xH hl];rfl
theorem aQH (hu:X.A.units<cLine):OpR X (compareOp .NotEq) (dXZ X.K true):=by
 intro pins s σ H x y v u Q I rx ry h;obtain ⟨p,q,xs,ys,rfl,rfl,hp,hq,fx,fy,k⟩:=h;cases rx;cases ry;obtain ⟨its,r1,l1,_⟩:=I.list hp;obtain ⟨its2,r2,l2,_⟩:=I.list hq;have e1:=r1.length
 have e2:=r2.length
 by_cases hl:xs.length=ys.length
 · refine SeqAt.RcNeAt.lists (e:=λj=>eqV (xs.getD j .non) (ys.getD j .non)) l1.isList l2.isList (by simp only [List.size_toArray]; omega) hu (λj h1 h2=>?_) X.prog X.w _ _ ?_
   · have h1':j<its.length:=by simpa using h1
     have h2':j<its2.length:=by simpa using h2
     simpa using jL (A:=X.A.in1) (s:=s) (r1.getD_rel h1') (r2.getD_rel h2') (iU fx j) (iU fy j)
   · refine ⟨.bl (!lC xs ys),H,I,?_,k⟩;rw [nS hl];simp only [List.size_toArray,<-e1];rfl
 · refine SeqAt.RcNeAt.lists_lengths l1.isList l2.isList (by simp only [List.size_toArray,bne_iff_ne]; omega) hu X.prog X.w _ _ ⟨.bl (!lC xs ys),H,I,?_,k⟩
   rw [xH hl];rfl
end
end L2
set_option maxHeartbeats 4000000
namespace L2
open PySem PySem.Spec PyProof.Rows
def rdO:Option HO->Option (List V)
 | some (.lst xs)=>some xs
 | some (.frz _ (.lst xs))=>some xs
 | _=>none
def rdL (H:Hp) (a:Addr):Option (List V):=rdO (H a)
theorem aR {K:PySem.W.Frag} {H:Hp} {a:Addr} {xs:List V} (h:rdL H a=some xs):SqL K H a xs:=by
 unfold rdL rdO at h;split at h
 · cases h; exact .inl (.inl (by assumption))
 · cases h; exact .inl (.inr ⟨_,by assumption⟩)
 · cases h
theorem aL {H:Hp} {a:Addr} {xs:List V} (h:H a=some (.lst xs)):rdL H a=some xs:=by unfold rdL; rw [h]; rfl
theorem cZ {H:Hp} {a:Addr} {xs:List V}:rdL (upd H a (.lst xs)) a=some xs:=aL aD
theorem zZ {H:Hp} {a b:Addr} {o:HO} (h:b≠a):rdL (upd H a o) b=rdL H b:=by unfold rdL; rw [aK h]
theorem aH {H H':Hp} {a:Addr} {xs:List V} (e:Same H H') (h:rdL H a=some xs):rdL H' a=some xs:=by
 unfold rdL at h ⊢;cases q:H a with
 | none=>rw [q] at h; cases h
 | some o=>rw [e a o q,<-q]; exact h
theorem aF {H:Hp} {p:Addr} (h:H p=none) (o:HO):Same H (upd H p o):=λb u q=>by rw [aK (bL q h)]; exact q
def gK (H:Hp) (a:Addr):Option (List V):=match H a with | some (.lst xs)=>some xs | _=>none
theorem bF {H:Hp} {a:Addr} {xs:List V} (h:H a=some (.lst xs)):gK H a=some xs:=by unfold gK; rw [h]
theorem jN {H:Hp} {a:Addr} {xs:List V} (h:gK H a=some xs):H a=some (.lst xs):=by
 unfold gK at h;split at h
 · cases h; assumption
 · cases h
theorem nJ {H:Hp} {a:Addr} {xs:List V}:gK (upd H a (.lst xs)) a=some xs:=bF aD
theorem cZC {H:Hp} {a b:Addr} {o:HO} (h:b≠a):gK (upd H a o) b=gK H b:=by unfold gK; rw [aK h]
def pM (H:Hp) (a:Addr):Option (List V):=match H a with | some (.tup xs)=>some xs | _=>none
theorem kY {H:Hp} {a:Addr} {xs:List V} (h:H a=some (.tup xs)):pM H a=some xs:=by unfold pM; rw [h]
theorem oZ {H:Hp} {a:Addr} {xs:List V} (h:pM H a=some xs):H a=some (.tup xs):=by
 unfold pM at h;split at h
 · cases h; assumption
 · cases h
theorem nZ {H:Hp} {a:Addr} {xs:List V}:pM (upd H a (.tup xs)) a=some xs:=kY aD
section
variable {X:Cx} {a b c:Expr} {ta tb tc:TE} {pos:Pos}
def cZ5 (i:Nat):TE:=λσ H Q=>match σ[i]? with | some (some v)=>Q v H | _=>False
theorem mv (i:Nat) {x:Str} {pos:Pos} (hN:X.N[i]?=some x:=by rfl) (hv:Vis X.env.scope x:=by first | exact Or.inl rfl | exact Or.inr (Or.inl rfl) | exact Or.inr (Or.inr rfl)) (hd:(x == ("__debug__" : Str))=false:=by decide)
   (hcd:(x == ("__classdict__" : Str))=false:=by decide):PE X (.Name x pos) (cZ5 i):=(pv i hN hv hd hcd).imp λσ H Q q=>by
 unfold cZ5 at q;split at q
 · exact ⟨_,by assumption,q⟩
 · exact q.elim
def mI (g:Int->Int->V):R2:=λx y H Q=>match x,y with | .int i,.int j=>Q (g i j) H | _,_=>False
theorem aQQ {g:Int->Int->V} {x y:V} {H:Hp} {Q:VK} (q:mI g x y H Q):rI0 g x y H Q:=by
 unfold mI at q;split at q
 · exact ⟨_,_,rfl,rfl,q⟩
 · exact q.elim
def mIC (C:Int->Int->Prop) (g:Int->Int->V):R2:=λx y H Q=>match x,y with | .int i,.int j=>C i j/\Q (g i j) H | _,_=>False
theorem wA {C:Int->Int->Prop} {g:Int->Int->V} {x y:V} {H:Hp} {Q:VK} (q:mIC C g x y H Q):rI C g x y H Q:=by
 unfold mIC at q;split at q
 · exact ⟨_,_,rfl,rfl,q.1,q.2⟩
 · exact q.elim
def aJQ:R2:=λx y H Q=>match x,y with
 | .int i,.int j=>Q (.int (i+j)) H
 | .str z,.str y=>z.length+y.length<=sizeLine/\Q (.str (z++y)) H
 | .ref p,.ref q=>(match gK H p,gK H q with
   | some xs,some zs=>xs.length+zs.length<=sizeLine/\∀ r,H r=none->Q (.ref r) (upd H r (.lst (xs++zs)))
   | _,_=>False)
 | _,_=>False
theorem cB:OpR X (binaryOp .Add) aJQ:=by
 intro pins s σ H x y v u Q I rx ry q;unfold aJQ at q;split at q
 · exact dQ0 pins s σ H _ _ v u Q I rx ry ⟨_,_,rfl,rfl,q⟩
 · exact zL pins s σ H _ _ v u Q I rx ry ⟨_,_,rfl,rfl,q.1,q.2⟩
 · split at q
   · exact dQ3 pins s σ H _ _ v u Q I rx ry ⟨_,_,_,_,rfl,rfl,jN (by assumption),jN (by assumption),q.1,q.2⟩
   · exact q.elim
 · exact q.elim
theorem jZ:OpR X (binaryOp .Sub) (mI λi j=>.int (i - j)):=op_sub.imp λ_ _ _ _ q=>aQQ q
theorem bJ1:OpR X (binaryOp .Mult) (mIC CMul λi j=>.int (i * j)):=op_mul.imp λ_ _ _ _ q=>wA q
theorem gB:OpR X (binaryOp .Mod) (mIC (λ_ j=>0<j) λi j=>.int (i % j)):=op_mod.imp λ_ _ _ _ q=>wA q
theorem kD:OpR X (binaryOp .FloorDiv) (mIC eQW λi j=>.int (i / j)):=op_fdiv.imp λ_ _ _ _ q=>wA q
theorem bQB:OpR X (compareOp .Lt) (mI λi j=>.bl (decide (i<j))):=op_lt.imp λ_ _ _ _ q=>aQQ q
theorem cQ4:OpR X (compareOp .Gt) (mI λi j=>.bl (decide (j<i))):=op_gt.imp λ_ _ _ _ q=>aQQ q
def dXE:V->Hp->VK->Prop:=λx H Q=>match x with | .int i=>Q (.int (-i)) H | _=>False
theorem cJM:UnR X (unaryOp .USub) dXE:=λpins s σ H x v Q I rx q=>by
 unfold dXE at q;split at q
 · exact dQU pins s σ H _ v Q I rx ⟨_,rfl,q⟩
 · exact q.elim
def mEq:R2:=λx y H Q=>cZ8 x y=true/\Q (.bl (decide (x=y))) H
theorem uT:OpR X (compareOp .Eq) mEq:=eXQ
def mNe:R2:=λx y H Q=>cZ8 x y=true/\Q (.bl (!decide (x=y))) H
theorem bZO:OpR X (compareOp .NotEq) mNe:=eQ9
def aJW (neg:Bool):R2:=λx y H Q=>match x,y with
 | .ref p,.ref q=>(match rdL H p,rdL H q with
   | some xs,some ys=>xs.all cA=true/\ys.all cA=true/\Q (.bl (if neg then !lC xs ys else lC xs ys)) H
   | _,_=>False)
 | _,_=>False
theorem wG {K:PySem.W.Frag} {neg:Bool} {x y:V} {H:Hp} {Q:VK} (q:aJW neg x y H Q):dXZ K neg x y H Q:=by
 unfold aJW at q;split at q
 · split at q
   · exact ⟨_,_,_,_,rfl,rfl,aR (by assumption),aR (by assumption),q.1,q.2.1,q.2.2⟩
   · exact q.elim
 · exact q.elim
theorem eQI (hu:X.A.units<cLine):OpR X (compareOp .Eq) (aJW false):=(aQT hu).imp λ_ _ _ _ q=>wG q
theorem eXJ (hu:X.A.units<cLine):OpR X (compareOp .NotEq) (aJW true):=(aQH hu).imp λ_ _ _ _ q=>wG q
def dX8:R2:=λx y H Q=>match y with | .non=>Q (.bl (decide (x=.non))) H | _=>False
theorem bXG:OpR X (compareOp .Is) dX8:=op_isN.imp λ_ y _ _ q=>by
 unfold dX8 at q;split at q
 · exact ⟨rfl,q⟩
 · exact q.elim
def bXD:R2:=λx y H Q=>match y with | .non=>Q (.bl (!decide (x=.non))) H | _=>False
theorem uX:OpR X (compareOp .IsNot) bXD:=op_notN.imp λ_ y _ _ q=>by
 unfold bXD at q;split at q
 · exact ⟨rfl,q⟩
 · exact q.elim
def subIn (y x:Str):Bool:=!(Builtin.Str.occurrences x y 0 x.length 1).isEmpty
theorem tV (x:Str) (c:Nat):subIn ⟨#[c]⟩ x=decide (c∈x.cps.toList):=PySem.StrLaws.found_one x c
def dZ7 (neg:Bool):R2:=λx y H Q=>match x,y with | .str i,.str j=>Q (.bl (if neg then !subIn i j else subIn i j)) H | _,_=>False
theorem aXW:OpR X (compareOp .In) (dZ7 false):=op_in_str.imp λ_ _ _ _ q=>by
 unfold dZ7 at q;split at q
 · exact ⟨_,_,rfl,rfl,q⟩
 · exact q.elim
def bQL (neg:Bool):R2:=λx y H Q=>match y with
 | .ref p=>(match rdL H p with | some xs=>cA x=true/\xs.all cA=true/\Q (.bl (if neg then !inV x xs else inV x xs)) H | none=>False)
 | _=>False
theorem yR {K:PySem.W.Frag} {neg:Bool} {x y:V} {H:Hp} {Q:VK} (q:bQL neg x y H Q):rIn K neg x y H Q:=by
 unfold bQL at q;split at q
 · split at q
   · exact ⟨_,_,rfl,.inl (aR (by assumption)),q.1,q.2.1,q.2.2⟩
   · exact q.elim
 · exact q.elim
theorem eXI:OpR X (compareOp .In) (bQL false):=op_in_seq.imp λ_ _ _ _ q=>yR q
theorem bJP:OpR X (compareOp .NotIn) (bQL true):=op_notIn_seq.imp λ_ _ _ _ q=>yR q
def mB (Q:Bool->Hp->Prop):VK:=λx H=>match x with | .bl k=>Q k H | _=>False
theorem cJH {Q:Bool->Hp->Prop} {x:V} {H:Hp} (q:mB Q x H):∃ k,x=.bl k/\Q k H:=by
 unfold mB at q;split at q
 · exact ⟨_,rfl,q⟩
 · exact q.elim
def cJ3 (t:TE):TT:=λσ H Q=>t σ H (mB Q)
theorem bB {op:CmpOp} {r:R2} (ho:OpR X (compareOp op) r) (ha:PE X a ta) (hb:PE X b tb) (hm:behindInMarks op b=false):PT X (.Compare a [op] [b] pos) (cJ3 (tOp r ta tb)):=by
 intro pins s σ H Q I h;refine wpAny_isTrue_Compare1 (thn (ha pins s σ H _ I h) λv s1 ⟨x,H1,I1,r1,q1⟩=>thn (hb pins s1 σ H1 _ I1 q1) λu s2 ⟨y,H2,I2,r2,q2⟩=>
   thn (ho pins s2 σ H2 x y v u _ I2 r1 r2 q2) λc s3 ⟨z,H3,I3,r3,q⟩=>?_) hm
 obtain ⟨k,e,q3⟩:=cJH q;subst e;cases r3;exact Ek ⟨H3,I3,q3⟩
def cQJ (Q:Bool->Hp->Prop):VK:=λx H=>match x with
 | .non=>Q false H
 | .bl k=>Q k H
 | .int i=>Q (i != 0) H
 | .str y=>y.length<=sizeLine/\Q ((y.length:Int) != 0) H
 | .ref p=>(match rdL H p with
   | some xs=>Q (!xs.isEmpty) H
   | none=>(match H p with | some (.dK kvs)=>Q (!kvs.isEmpty) H | _=>False))
 | _=>False
theorem cXH {K:PySem.W.Frag} {Q:Bool->Hp->Prop} {x:V} {H:Hp} (q:cQJ Q x H):∃ k,dJS K x H k/\Q k H:=by
 unfold cQJ at q;split at q
 · exact ⟨_,rfl,q⟩
 · exact ⟨_,rfl,q⟩
 · exact ⟨_,rfl,q⟩
 · exact ⟨_,⟨q.1,rfl⟩,q.2⟩
 · split at q
   · exact ⟨_,.inl ⟨_,aR (by assumption),rfl⟩,q⟩
   · split at q
     · exact ⟨_,.inr (.inr ⟨_,by assumption,rfl⟩),q⟩
     · exact q.elim
 · exact q.elim
def bZK (t:TE):TT:=λσ H Q=>t σ H (cQJ Q)
theorem cW (ha:PE X a ta) (he:∀ whole,isTrue a X.env whole=(do let v <-whole; standAt a.pos; holding [v] (truthy v)):=by intro _; rfl):PT X a (bZK ta):=by
 intro pins s σ H Q I h;refine isTrue_plain (thn (ha pins s σ H _ I h) λv s1 ⟨x,H1,I1,r1,q1⟩=>uO pins s1 σ H1 x v Q I1 r1 (cXH q1)) (he _)
variable {rest:List Expr}
def cJJ (ta tb:TE):TE:=λσ H Q=>ta σ H (mB λc H1=>if c=true then tb σ H1 Q else Q (.bl false) H1)
theorem dZE (ha:PE X a ta) (hb:PE X (.BoolOp .And (b::rest) pos) tb):PE X (.BoolOp .And (a::b::rest) pos) (cJJ ta tb):=by
 intro pins s σ H Q I h;refine BoolOp_and (thn (ha pins s σ H _ I h) λv s1 ⟨x,H1,I1,r1,q1⟩=>?_);obtain ⟨c,rfl,q1⟩:=cJH q1;cases r1;refine Ek ?_;cases c with
 | true=>exact hb pins s1 σ H1 Q I1 q1
 | false=>exact ⟨.bl false,H1,I1,rfl,q1⟩
def mIx:R2:=λx y H Q=>match x,y with
 | .str z,.int i=>z.length<=sizeLine/\(match atI z.cps.toList i with | some c=>Q (.str ⟨#[c]⟩) H | none=>False)
 | .ref p,.int i=>(match rdL H p with
   | some xs=>(match atI xs i with | some v=>Q v H | none=>False)
   | none=>(match pM H p with
     | some xs=>(match atI xs i with | some v=>Q v H | none=>False)
     | none=>False))
 | _,_=>False
theorem cX2 {K:PySem.W.Frag} {x y:V} {H:Hp} {Q:VK} (q:mIx x y H Q):rIx K x y H Q:=by
 unfold mIx at q;split at q
 · obtain ⟨h1,q⟩:=q;split at q
   · exact .inr (.inr ⟨_,_,_,rfl,rfl,h1,by assumption,q⟩)
   · exact q.elim
 · split at q
   · split at q
     · exact .inl ⟨_,_,_,_,rfl,rfl,aR (by assumption),by assumption,q⟩
     · exact q.elim
   · split at q
     · split at q
       · exact .inr (.inl ⟨_,_,_,_,rfl,rfl,SqT.of (oZ (by assumption)),by assumption,q⟩)
       · exact q.elim
     · exact q.elim
 · exact q.elim
theorem cC:IxR X mIx:=ix_seq.imp λ_ _ _ _ q=>cX2 q
def mSl:V->Option Int->Option Int->Hp->VK->Prop:=λx lo hi H Q=>match x with
 | .str z=>z.length<=sizeLine/\Q (.str (Txt.slice z lo hi)) H
 | .ref p=>(match rdL H p with | some xs=>∀ r,H r=none->Q (.ref r) (upd H r (.lst (rP xs lo hi))) | none=>False)
 | _=>False
theorem eQG:SlR X mSl:=(sl_list.or dZF).imp λ_ _ _ _ _ q=>by
 unfold mSl at q;split at q
 · exact .inr ⟨_,rfl,q.1,q.2⟩
 · split at q
   · exact .inl ⟨_,_,rfl,aR (by assumption),q⟩
   · exact q.elim
 · exact q.elim
def vJ (Q:Option Int->Hp->Prop):VK:=λx H1=>match x with | .int i=>Q (some i) H1 | _=>False
def dQA (t:TE):TO:=λσ H Q=>t σ H (vJ Q)
variable {e:Expr} {te:TE}
theorem vP (h:PE X e te):PO X (some e) (dQA te):=by
 intro pins s σ H Q I hw;rw [evalPart_some];refine thn (h pins s σ H _ I hw) λu s1 ⟨x,H1,I1,r1,q1⟩=>?_;unfold vJ at q1;split at q1
 · obtain ⟨t,rfl⟩:=r1;exact ⟨_,H1,I1,.int _ t,q1⟩
 · exact q1.elim
def aXJ:List V->Hp->VK->Prop:=λxs H Q=>match xs with
 | [.str z]=>z.length<=sizeLine/\Q (.int z.length) H
 | [.ref p]=>(match rdL H p with
   | some xs=>Q (.int xs.length) H
   | none=>(match pM H p with | some xs=>Q (.int xs.length) H | none=>False))
 | _=>False
theorem eE:CallR X (.builtin "len") aXJ:=call_len.imp λ_ _ _ q=>by
 unfold aXJ at q;split at q
 · exact ⟨_,_,rfl,⟨q.1,rfl⟩,q.2⟩
 · split at q
   · exact ⟨_,_,rfl,.inl ⟨_,aR (by assumption),rfl⟩,q⟩
   · split at q
     · exact ⟨_,_,rfl,.inr ⟨_,SqT.of (oZ (by assumption)),rfl⟩,q⟩
     · exact q.elim
 · exact q.elim
def dZ4:List V->Hp->VK->Prop:=λxs H Q=>match xs with | [.int i,.int j]=>Q (.int (if j<i then j else i)) H | _=>False
theorem dQL (hc:X.calm=true):CallR X (.builtin "min") dZ4:=(aJU hc).imp λ_ _ _ q=>by
 unfold dZ4 at q;split at q
 · exact ⟨_,_,rfl,q⟩
 · exact q.elim
def dX3:List V->Hp->VK->Prop:=λxs H Q=>match xs with | [.int i,.int j]=>Q (.int (if j > i then j else i)) H | _=>False
theorem cJ0 (hc:X.calm=true):CallR X (.builtin "max") dX3:=(aJB hc).imp λ_ _ _ q=>by
 unfold dX3 at q;split at q
 · exact ⟨_,_,rfl,q⟩
 · exact q.elim
def cXQ:List V->Hp->VK->Prop:=λxs H Q=>match xs with
 | [.int i]=>Q (.int i) H
 | [.str x]=>(match PySem.intText? x with | some n=>x.length<=640/\Q (.int n) H | none=>False)
 | _=>False
theorem aZN:CallR X (.type "int") cXQ:=(call_int1.or rV).imp λ_ _ _ q=>by
 unfold cXQ at q;split at q
 · exact .inl (.inl ⟨_,rfl,q⟩)
 · split at q
   · exact .inr ⟨_,_,rfl,by assumption,q.1,q.2⟩
   · exact q.elim
 · exact q.elim
def aZ4:List V->Hp->VK->Prop:=λxs H Q=>match xs with
 | [.ref p]=>(match rdL H p with
   | some ys=>∀ l,H l=none->Q (.ref l) (upd H l (.lst ys))
   | none=>(match pM H p with | some ys=>∀ l,H l=none->Q (.ref l) (upd H l (.lst ys)) | none=>False))
 | _=>False
theorem iH:CallR X (.type "list") aZ4:=call_list_of.imp λ_ _ _ q=>by
 unfold aZ4 at q;split at q
 · split at q
   · exact ⟨_,_,rfl,.inl (aR (by assumption)),q⟩
   · split at q
     · exact ⟨_,_,rfl,.inr (SqT.of (oZ (by assumption))),q⟩
     · exact q.elim
 · exact q.elim
def vZ (T:String) (x:V) (H:Hp) (P:Prop):Prop:=match x with
 | .str _=>T="str"/\P
 | .ref p=>(match rdL H p with | some _=>T="list"/\P | none=>False)
 | _=>False
theorem zD {K:PySem.W.Frag} {T:String} {x:V} {H:Hp} {P:Prop} (q:vZ T x H P):tyV K T x H/\P:=by
 unfold vZ at q;split at q
 · exact ⟨q.1,q.2⟩
 · split at q
   · exact ⟨.inl ⟨q.1,_,aR (by assumption)⟩,q.2⟩
   · exact q.elim
 · exact q.elim
def cJY (T:String) (r:V->List V->Hp->VK->Prop) (to:TE) (t:TA):TE:=λσ H Q=>to σ H λx H1=>vZ T x H1 (t σ H1 λxs H2=>r x xs H2 Q)
variable {o:Expr} {es:List Expr} {to:TE} {t:TA} {name:Str} {apos cpos:Pos} {T id:String} {r:V->List V->Hp->VK->Prop}
theorem cV (pa:PlainAttrs T) (slot:Slot T name id) (hty:typeOf (.builtin id)=pure (.type "method_descriptor")) (hm:MtR X id r) (ho:PE X o to) (ha:PA X (e::es) t)
   (hbase:attributeBase o name X.env (eval o X.env)=eval o X.env:=by rfl)
   (hfew:((backTo cpos (starEach (e::es) X.env)).all (λx=>!x.1) && (backToKw cpos (keywordEach [] X.env)).all (λx=>x.1.isSome)
     && decide ((e::es).length+([]:List Keyword).length+(if ([]:List Keyword).isEmpty then 0 else 1)<30))=true:=by rfl)
   (hline:(apos.endLine == cpos.line)=true:=by rfl) (hs:starEach (e::es) X.env=(false,eval e X.env)::starEach es X.env:=by rfl) (hplain:(backTo cpos (starEach es X.env)).any (·.1)=false:=by rfl) :
   PE X (.Call (.Attribute o name apos) (e::es) [] cpos) (cJY T r to t):=by
 intro pins s σ H Q I h;refine wpAny_Call_method_late hbase hfew hline rfl (thn (ho pins s σ H _ I h) λv s1 ⟨x,H1,I1,r1,q⟩=>?_);obtain ⟨ty,q1⟩:=zD (K:=X.K) q;obtain ⟨h1,h2⟩:=bJ6 I1 r1 ty;refine ⟨T,id,pa,slot,hty,h1,h2,?_⟩;have hA:=ha cpos pins s1 σ H1 _ I1 q1
 rw [hs] at hA ⊢;refine Gq (by show (false || (backTo cpos (starEach es X.env)).any (·.1))=false; rw [hplain] <;> rfl) (Calls.evalArgs_plain ?_)
 exact thn hA λus s2 ⟨vs,H2,I2,r2,q2⟩=>hm pins s2 σ H2 x vs v us Q I2 r1 r2 q2
def cQ1:V->List V->Hp->VK->Prop:=λx vs H Q=>match x,vs with
 | .ref l,[y]=>(match gK H l with | some xs=>xs.length<sizeLine/\Q .non (upd H l (.lst (xs++[y]))) | none=>False)
 | _,_=>False
theorem mX:MtR X "list.append" cQ1:=MtR.imp (r:=aZF) uA λ_ _ _ _ q=>by
 unfold cQ1 at q;split at q
 · split at q
   · exact ⟨_,_,_,rfl,rfl,jN (by assumption),q.1,q.2⟩
   · exact q.elim
 · exact q.elim
def uH:V->List V->Hp->VK->Prop:=λx vs H Q=>match x,vs with
 | .str z,[.str y]=>(match Builtin.Str.occurrences z y 0 z.length 1 with | i::_=>Q (.int ((i:Nat):Int)) H | []=>False)
 | _,_=>False
theorem aZS:MtR X "str.index" uH:=mt_index.imp λ_ _ _ _ q=>by
 unfold uH at q;split at q
 · split at q
   · exact ⟨_,_,_,_,rfl,rfl,by assumption,q⟩
   · exact q.elim
 · exact q.elim
def lY:List V->Option (List Bool)
 | []=>some []
 | .bl z::r=>(lY r).map (z::·)
 | _=>none
theorem aXA (ys:List Bool):lY (ys.map V.bl)=some ys:=by
 induction ys with
 | nil=>rfl
 | cons y r ih=>rw [Au,lY,ih]; rfl
theorem sR:∀ {xs:List V} {ys:List Bool},lY xs=some ys->xs=ys.map V.bl
 | [],_,h=>by cases h; rfl
 | .bl z::r,_,h=>by
   rw [lY] at h;cases e:lY r with
   | none=>rw [e] at h; cases h
   | some l=>rw [e] at h; cases h; rw [sR e]; rfl
 | .non::_,_,h=>by cases h
 | .str _::_,_,h=>by cases h
 | .int _::_,_,h=>by cases h
 | .byt _::_,_,h=>by cases h
 | .flt _::_,_,h=>by cases h
 | .ref _::_,_,h=>by cases h
 | .ty _::_,_,h=>by cases h
def cJG:List V->Hp->VK->Prop:=λvs H Q=>match vs with
 | [.ref p]=>(match rdL H p with
   | some xs=>(match lY xs with | some bs=>Q (.bl (bs.all _root_.id)) H | none=>False)
   | none=>False)
 | _=>False
theorem eQ4 (hc:X.calm=true):CallR X (.builtin "all") cJG:=(rT hc).imp λ_ _ _ q=>by
 unfold cJG at q;split at q
 · split at q
   · split at q
     · have e:=sR (by assumption)
       subst e;exact ⟨_,_,rfl,aR (by assumption),q⟩
     · exact q.elim
   · exact q.elim
 · exact q.elim
def tyN (x:V) (H:Hp):Option String:=match x with
 | .non=>some "NoneType"
 | .bl _=>some "bool"
 | .int _=>some "int"
 | .str _=>some "str"
 | .ref p=>(match H p with
   | some (.lst _)=>some "list"
   | some (.frz _ (.lst _))=>some "list"
   | some (.tup _)=>some "tuple"
   | some (.dK _)=>some "dict"
   | _=>none)
 | _=>none
theorem dZR {K:PySem.W.Frag} {x:V} {H:Hp} {t:String} (h:tyN x H=some t):TyOf K H x (.type t):=by
 unfold tyN at h;split at h
 · cases h; exact .non
 · cases h; exact .bl _
 · cases h; exact .int _
 · cases h; exact .str _
 · split at h
   · cases h; exact .lst (by assumption)
   · cases h; exact .frz (by assumption)
   · cases h; exact .tup (by assumption)
   · cases h; exact .dK (by assumption)
   · cases h
 · cases h
def eXE (t T:String):Bool:=decide (t=T) || (decide (t="bool") && decide (T="int"))
def dQO (t T:String):Bool:=["NoneType", "bool", "int", "str", "list", "tuple", "dict"].contains t && ["bool", "int", "str", "list", "tuple", "dict"].contains T
def bQR (t T:String):Option Bool:=bif dQO t T then some (eXE t T) else none
theorem cXG {K:PySem.W.Frag}:∀ t∈["NoneType", "bool", "int", "str", "list", "tuple", "dict"],∀ T∈["bool", "int", "str", "list", "tuple", "dict"],PySem.W.kitOne K (.type t) (.type T)=some (eXE t T):=by
 simp only [List.forall_mem_cons,List.not_mem_nil,false_implies,implies_true,and_true];refine ⟨⟨rfl,rfl,rfl,rfl,rfl,rfl⟩,⟨rfl,rfl,rfl,rfl,rfl,rfl⟩,⟨rfl,rfl,rfl,rfl,rfl,rfl⟩,⟨rfl,rfl,rfl,rfl,rfl,rfl⟩,⟨rfl,rfl,rfl,rfl,rfl,rfl⟩,⟨rfl,rfl,rfl,rfl,rfl,rfl⟩,⟨rfl,rfl,rfl,rfl,rfl,rfl⟩⟩
theorem bX6 {K:PySem.W.Frag} {t T:String} {b:Bool} (h:bQR t T=some b):PySem.W.kitOne K (.type t) (.type T)=some b:=by
 unfold bQR at h;cases hn:dQO t T with
 | false=>rw [hn] at h; cases h
 | true=>
   rw [hn] at h; cases h;unfold dQO at hn; rw [Cs] at hn;exact cXG t (List.contains_iff_mem.mp hn.1) T (List.contains_iff_mem.mp hn.2)
def cZM:List V->Hp->VK->Prop:=λxs H Q=>match xs with
 | [x,.ty T]=>(match tyN x H with
   | some t=>(match bQR t T with | some b=>Q (.bl b) H | none=>False)
   | none=>False)
 | _=>False
theorem oG:CallR X (.builtin "isinstance") cZM:=call_isinst.imp λ_ _ _ q=>by
 unfold cZM at q;split at q
 · split at q
   · split at q
     · exact ⟨_,_,_,_,rfl,dZR (by assumption),bX6 (by assumption),q⟩
     · exact q.elim
   · exact q.elim
 · exact q.elim
end
end L2
namespace L2
open PySem PySem.Spec PyProof.Rows
def yY (R:Str->Hp->Prop):VK:=λx H=>match x with | .str z=>R z H | _=>False
theorem bZG {R:Str->Hp->Prop} {x:V} {H:Hp} (q:yY R x H):∃ z,x=.str z/\R z H:=by
 unfold yY at q;split at q
 · exact ⟨_,rfl,q⟩
 · exact q.elim
def onL (o:Option (List V)) (P:Prop):Prop:=match o with | some _=>P | none=>False
def hU (R:Addr->Hp->Prop):VK:=λx H=>match x with | .ref a=>R a H | _=>False
theorem cQS {R:Addr->Hp->Prop} {x:V} {H:Hp} (q:hU R x H):∃ a,x=.ref a/\R a H:=by
 unfold hU at q;split at q
 · exact ⟨_,rfl,q⟩
 · exact q.elim
section
variable {X:Cx} {tg l a b:Expr} {tl ta tb:TE} {p pos:Pos}
def eXR (tl:TE):TI:=λσ H R=>tl σ H (yY λz H1=>R (Its z) H1)
theorem rD (hl:PE X l tl):PI X tg l (eXR tl):=by
 intro pins s σ H R I h;refine thn (hl pins s σ H _ I h) λv s1 ⟨x,H1,I1,r1,q1⟩=>?_;obtain ⟨z,rfl,q⟩:=bZG q1;obtain ⟨t,rfl⟩:=r1;have fb:∀ b∈[s1.heap.objs.size],lB X pins H1 b:=λb hb=>by
   have e:b=s1.heap.objs.size:=by simpa using hb
   subst e;exact I1.fpOk (Ah _) (I1.hok.fresh (Ah _))
 cases ha:z.cps.all (· < 128)
 · refine wpAny_pyIter_wide ha ?_;exact ⟨s1.heap.objs.size,[s1.heap.objs.size],_,_,H1,rfl,I1.kept (t':=s1.toks) λb o e=>Af _ e,aZ9 z t _,⟨_,Ax _ rfl,rfl,rfl⟩,fb,q⟩
 · refine wpAny_pyIter_ascii ha ?_;exact ⟨s1.heap.objs.size,[s1.heap.objs.size],_,_,H1,rfl,I1.kept (t':=s1.toks) λb o e=>Af _ e,aXL z t _,⟨_,Ax _ rfl,rfl,rfl⟩,fb,q⟩
def cJ1 (K:PySem.W.Frag) (tl:TE):TI:=λσ H R=>tl σ H (hU λa H1=>onL (rdL H1 a) (R (Itl K a) H1))
theorem bH (hl:PE X l tl):PI X tg l (cJ1 X.K tl):=by
 intro pins s σ H R I h;refine thn (hl pins s σ H _ I h) λv s1 ⟨x,H1,I1,r1,q1⟩=>?_;obtain ⟨a,rfl,q⟩:=cQS q1;cases r1;unfold onL at q;split at q
 · rename_i xs e
   obtain ⟨its,rv,p,hz⟩:=I1.list (aR e);refine Fc p.isList ?_;refine ⟨s1.heap.objs.size,[s1.heap.objs.size],_,_,H1,rfl,I1.kept (t':=s1.toks) λb o e=>Af _ e,bQH a _,⟨_,Ax _ rfl,rfl,rfl⟩,λb hb=>?_,q⟩;have e:b=s1.heap.objs.size:=by simpa using hb
   subst e;exact I1.fpOk (Ah _) (I1.hok.fresh (Ah _))
 · exact q.elim
def aXG (R:Int->Hp->Prop):List V->Hp->Prop:=λvs H=>match vs with | [.int j]=>R j H | _=>False
theorem aX8 {R:Int->Hp->Prop} {vs:List V} {H:Hp} (q:aXG R vs H):∃ j,vs=[.int j]/\R j H:=by
 unfold aXG at q;split at q
 · exact ⟨_,rfl,q⟩
 · exact q.elim
def bXI (R:Int->Int->Hp->Prop):List V->Hp->Prop:=λvs H=>match vs with | [.int i,.int j]=>R i j H | _=>False
theorem cX7 {R:Int->Int->Hp->Prop} {vs:List V} {H:Hp} (q:bXI R vs H):∃ i j,vs=[.int i,.int j]/\R i j H:=by
 unfold bXI at q;split at q
 · exact ⟨_,_,rfl,q⟩
 · exact q.elim
def cJP (ta:TA):TI:=λσ H R=>ta σ H (aXG λj H1=>(-(2 ^ 62)<=j/\j<2 ^ 62)/\R (Itr 0 j.toNat) H1)
def cJ4 (ta:TA):TI:=λσ H R=>ta σ H (bXI λi j H1=>(-(2 ^ 62)<=i/\i<2 ^ 62/\-(2 ^ 62)<=j/\j<2 ^ 62)/\R (Itr i (j - i).toNat) H1)
theorem dW {ta:TA} (hg:Gl X "range") (hm:X.mg "range"=none) (ha:PA X [a] ta) (hs:starEach [a] X.env=[(false,eval a X.env)]:=by rfl):PI X tg (.Call (.Name "range" p) [a] [] pos) (cJP ta):=by
 intro pins s σ H R I h;refine Call_ (jQ I hg hm boot_range (Cv (thn (ha pos pins s σ H _ I h) λus s1 ⟨vs,H1,I1,r1,q1⟩=>?_) hs rfl));obtain ⟨j,e,⟨b1,b2⟩,q⟩:=aX8 q1;subst e;cases r1 with
 | cons r rr=>
   cases rr;obtain ⟨t,rfl⟩:=r;exact call_range_1 (xV I1 (by omega) (by omega) b1 b2 (by simpa using q))
theorem uE {ta:TA} (hg:Gl X "range") (hm:X.mg "range"=none) (ha:PA X [a,b] ta) (hs:starEach [a,b] X.env=[(false,eval a X.env),(false,eval b X.env)]:=by rfl) (hs2:starEach [b] X.env=[(false,eval b X.env)]:=by rfl) :
   PI X tg (.Call (.Name "range" p) [a,b] [] pos) (cJ4 ta):=by
 intro pins s σ H R I h;refine Call_ (jQ I hg hm boot_range (Cv (thn (ha pos pins s σ H _ I h) λus s1 ⟨vs,H1,I1,r1,q1⟩=>?_) (by rw [hs,hs2]) (by rw [hs2]; rfl)))
 obtain ⟨i,j,e,⟨b1,b2,b3,b4⟩,q⟩:=cX7 q1;subst e;cases r1 with
 | cons r rr=>
   cases rr with
   | cons r' rr=>
     cases rr;obtain ⟨t,rfl⟩:=r;obtain ⟨t',rfl⟩:=r';exact call_range_2 (xV I1 b1 b2 b3 b4 q)
def vI (J:It) (g:TG) (tb:TS) (D:Ends) (σ:St) (H1:Hp):Prop:=∃ W:Nat->Nat->St->Hp->Prop,(∃ m,W 0 m σ H1)/\∀ i m σ H,W i m σ H->
 (J.stop i H/\D.nx σ H)\/(J.go i H/\∃ N:St->Hp->Prop,(∀ σ' H',N σ' H'->∃ m',m' < m/\W (i+1) m' σ' H')/\∀ x H',J.yld i H x H'->g x σ H' λσ2 H2=>tb { D with nx:=N,ct:=N,bk:=D.nx } σ2 H2)
def dQK (wi:TI) (g:TG) (tb:TS):TS:=λD σ H=>wi σ H λJ H1=>vI J g tb D σ H1
theorem bN {iter:Expr} {body:List Stmt} {wi:TI} {g:TG} {tb:TS} (hp:PassesOwn (model X.prog X.w) X.A X.env X.xe) (hc:X.calm=true) (hi:PI X tg iter wi) (hg:PG X tg g) (hb:PSs X body tb)
   (hs:∀ x,foldedSetIterable iter X.env x=pure x:=by intro _; rfl):PS X (.For tg iter body [] pos) (dQK wi g tb):=dZJ (wi:=wi) hp hc hi hg hb hs
section
variable {K:PySem.W.Frag} {c:Addr} {xs:List V} {z:Str} {lo:Int} {n:Nat} {g:TG} {tb:TS} {D:Ends} {σ:St} {H:Hp}
theorem cF (Pv:Nat->St->Hp->Prop) (h0:Pv 0 σ H) (hl:∀ i σ H,i<=xs.length->Pv i σ H->rdL H c=some xs)
   (hs:∀ i x σ H,xs[i]?=some x->Pv i σ H->g x σ H λσ2 H2=>tb { D with nx:=Pv (i+1),ct:=Pv (i+1),bk:=D.nx } σ2 H2) (hd:∀ σ H,Pv xs.length σ H->D.nx σ H):vI (Itl K c) g tb D σ H :=
 cQM Pv h0 (λi σ H hi p=>aR (hl i σ H hi p)) hs hd
theorem bJS (Pv:Nat->St->Hp->Prop) (h0:Pv 0 σ H)
   (hs:∀ i c σ H,z.cps.toList[i]?=some c->Pv i σ H->g (.str ⟨#[c]⟩) σ H λσ2 H2=>tb { D with nx:=Pv (i+1),ct:=Pv (i+1),bk:=D.nx } σ2 H2) (hd:∀ σ H,Pv z.cps.toList.length σ H->D.nx σ H):vI (Its z) g tb D σ H :=
 cZD Pv h0 hs hd
theorem gC (Pv:Nat->St->Hp->Prop) (h0:Pv 0 σ H)
   (hs:∀ i σ H,i<n->Pv i σ H->g (.int (lo+i)) σ H λσ2 H2=>tb { D with nx:=Pv (i+1),ct:=Pv (i+1),bk:=D.nx } σ2 H2) (hd:∀ σ H,Pv n σ H->D.nx σ H):vI (Itr lo n) g tb D σ H :=
 bQ2 Pv h0 hs hd
end
theorem kI {x:Str} {T:String} (hg:Gl X x) (hm:X.mg x=none) (hv:bootBuiltins x=some (.type T)) (hn:x≠"__name__" := by decide) (hd:(x == ("__debug__" : Str))=false:=by decide):PE X (.Name x pos) (tC (.ty T)):=cZ9 hg hm hv rfl hn hd
end
end L2
set_option maxHeartbeats 4000000
namespace L2
open PySem PySem.Spec PyProof.Rows
section
variable {K:PySem.W.Frag} {σ:St} {H:Hp} {Q:VK} {QB:Bool->Hp->Prop} {QA:List V->Hp->Prop} {QO:Option Int->Hp->Prop} {D:Ends} {t u:TS} {te ta tb tc:TE} {tt tu:TT} {tA:TA} {r r':R2} {x y v:V} {i j:Int} {z z':Str} {p q:Addr} {xs ys vs:List V} {k n:Nat}
theorem eQE (h:t { D with nx:=u D } σ H):dQZ t u D σ H:=h
theorem dZO (h:D.nx σ H):cJX D σ H:=h
theorem eZO {c:TT} (h:c σ H λb H1=>if b=true then t D σ H1 else u D σ H1):eQX c t u D σ H:=h
theorem eXU (h:te σ H D.rt):eXO te D σ H:=h
theorem dXA (h:te σ H λ_ H1=>D.nx σ H1):dQC te D σ H:=h
theorem eXK {g:TG} (h:te σ H λx H1=>g x σ H1 D.nx):cQ9 te g D σ H:=h
theorem eXP {wi:TI} {g:TG} {tb:TS} (h:wi σ H λJ H1=>vI J g tb D σ H1):dQK wi g tb D σ H:=h
theorem pD {QS:St->Hp->Prop} (h:QS (σ.set k (some v)) H):qS k v σ H QS:=h
theorem dXX {QS:St->Hp->Prop} {to ti:TE} {ts:cZP} (h:to σ H λo H1=>ti σ H1 λi H2=>ts o i v H2 λH3=>QS σ H3):eXA to ti ts v σ H QS:=h
theorem eQJ (e:σ[k]?=some (some v)) (h:Q v H):cZ5 k σ H Q:=by unfold cZ5; rw [e]; exact h
theorem s_c (h:Q v H):tC v σ H Q:=h
theorem eZB (h:ta σ H λx H1=>tb σ H1 λy H2=>r x y H2 Q):tOp r ta tb σ H Q:=h
theorem eZF {ru:V->Hp->VK->Prop} (h:ta σ H λx H1=>ru x H1 Q):tUn ru ta σ H Q:=h
theorem eQC (h:QA [] H):xQ σ H QA:=h
theorem dXH {tr:TA} (h:ta σ H λx H1=>tr σ H1 λxs H2=>QA (x::xs) H2):aZK ta tr σ H QA:=h
theorem dJW (h:tA σ H λxs H1=>xs.length<=sizeLine/\∀ p,H1 p=none->Q (.ref p) (upd H1 p (.lst xs))):bZ0 tA σ H Q:=h
theorem eQL (h:tA σ H λxs H1=>xs.length<=sizeLine/\∀ p,H1 p=none->Q (.ref p) (upd H1 p (.tup xs))):eQD tA σ H Q:=h
theorem dJJ {sp:Sp} {E:XK} (h:tA σ H λvs H1=>sp (vs++[]) H1 Q E):aXY sp [] E tA σ H Q:=h
theorem eZN {rc:List V->Hp->VK->Prop} (h:tA σ H λvs H1=>rc vs H1 Q):tCB rc tA σ H Q:=h
theorem eZP {rs:V->Option Int->Option Int->Hp->VK->Prop} {tl th:TO} (h:te σ H λx H1=>tl σ H1 λl H2=>th σ H2 λu H3=>rs x l u H3 Q):tSl rs te tl th σ H Q:=h
theorem bJU (h:QO none H):aXU σ H QO:=h
theorem dJK (h:te σ H (vJ QO)):dQA te σ H QO:=h
theorem cQD (h:QO (some i) H):vJ QO (.int i) H:=h
theorem dQV {T:String} {rm:V->List V->Hp->VK->Prop} {to:TE} (h:to σ H λx H1=>vZ T x H1 (tA σ H1 λxs H2=>rm x xs H2 Q)):cJY T rm to tA σ H Q:=h
theorem eXX {P:Prop} (h:P):vZ "str" (.str z) H P:=⟨rfl,h⟩
theorem dJ8 {P:Prop} (e:rdL H p=some xs) (h:P):vZ "list" (.ref p) H P:=by unfold vZ; simp only [e]; exact ⟨trivial,h⟩
theorem dX5 (h:te σ H (mB QB)):cJ3 te σ H QB:=h
theorem cZN (h:te σ H (cQJ QB)):bZK te σ H QB:=h
theorem eX8 {b:Bool} (h:QB b H):mB QB (.bl b) H:=h
theorem dJF {b:Bool} (h:QB b H):cQJ QB (.bl b) H:=h
theorem eXS (h:tt σ H λc H1=>if c=true then tu σ H1 QB else QB false H1):eQ1 tt tu σ H QB:=h
theorem eZK (h:tt σ H λc H1=>if c=true then QB true H1 else tu σ H1 QB):tOr tt tu σ H QB:=h
theorem dJQ (h:tt σ H λc H1=>QB (!c) H1):eQF tt σ H QB:=h
theorem dZW (h:ta σ H (mB λc H1=>if c=true then tb σ H1 Q else Q (.bl false) H1)):cJJ ta tb σ H Q:=h
theorem eXF (h:tt σ H λc H1=>if c=true then ta σ H1 Q else tb σ H1 Q):tIf tt ta tb σ H Q:=h
theorem eZE {g:Int->Int->V} (h:Q (g i j) H):mI g (.int i) (.int j) H Q:=h
theorem eXV {C:Int->Int->Prop} {g:Int->Int->V} (c:C i j) (h:Q (g i j) H):mIC C g (.int i) (.int j) H Q:=⟨c,h⟩
theorem dX2 (h:Q (.int (i+j)) H):aJQ (.int i) (.int j) H Q:=h
theorem dZS (c:z.length+z'.length<=sizeLine) (h:Q (.str (z++z')) H):aJQ (.str z) (.str z') H Q:=⟨c,h⟩
theorem jH (e:gK H p=some xs) (e':gK H q=some ys) (c:xs.length+ys.length<=sizeLine) (h:∀ r,H r=none->Q (.ref r) (upd H r (.lst (xs++ys)))):aJQ (.ref p) (.ref q) H Q:=by
 unfold aJQ; simp only [e,e']; exact ⟨c,h⟩
theorem eQ7 (h:Q (.bl (decide (i=j))) H):mEq (.int i) (.int j) H Q:=⟨rfl,by
 rw [show decide (V.int i=V.int j)=decide (i=j) by simp]; exact h⟩
theorem eQH (h:Q (.bl (decide (z=z'))) H):mEq (.str z) (.str z') H Q:=⟨rfl,by
 rw [show decide (V.str z=V.str z')=decide (z=z') by simp]; exact h⟩
theorem eQS (h:Q (.bl (!decide (i=j))) H):mNe (.int i) (.int j) H Q:=⟨rfl,by
 rw [show decide (V.int i=V.int j)=decide (i=j) by simp]; exact h⟩
theorem cJV {neg:Bool} (e:rdL H p=some xs) (e':rdL H q=some ys) (f:xs.all cA=true) (f':ys.all cA=true) (h:Q (.bl (if neg then !lC xs ys else lC xs ys)) H):aJW neg (.ref p) (.ref q) H Q:=by
 unfold aJW; simp only [e,e']; exact ⟨f,f',h⟩
theorem eXN (h:Q (.bl (decide (x=.non))) H):dX8 x .non H Q:=h
theorem dZ6 (h:Q (.bl (!decide (x=.non))) H):bXD x .non H Q:=h
theorem dJR {neg:Bool} (h:Q (.bl (if neg then !subIn z z' else subIn z z')) H):dZ7 neg (.str z) (.str z') H Q:=h
theorem dQE {neg:Bool} (e:rdL H p=some xs) (f:cA x=true) (f':xs.all cA=true) (h:Q (.bl (if neg then !inV x xs else inV x xs)) H):bQL neg x (.ref p) H Q:=by
 unfold bQL; simp only [e]; exact ⟨f,f',h⟩
theorem jV {c:Nat} (l:z.length<=sizeLine) (e:atI z.cps.toList i=some c) (h:Q (.str ⟨#[c]⟩) H):mIx (.str z) (.int i) H Q:=by
 unfold mIx; simp only [e]; exact ⟨l,h⟩
theorem cQ (e:rdL H p=some xs) (e':atI xs i=some v) (h:Q v H):mIx (.ref p) (.int i) H Q:=by
 unfold mIx; simp only [e,e']; exact h
theorem eX1 {lo hi:Option Int} (e:rdL H p=some xs) (h:∀ r,H r=none->Q (.ref r) (upd H r (.lst (rP xs lo hi)))):mSl (.ref p) lo hi H Q:=by
 unfold mSl; simp only [e]; exact h
theorem dXO (l:z.length<=sizeLine) (h:Q (.int z.length) H):aXJ [.str z] H Q:=⟨l,h⟩
theorem dQ8 (e:rdL H p=some xs) (h:Q (.int xs.length) H):aXJ [.ref p] H Q:=by unfold aXJ; simp only [e]; exact h
theorem eQN (h:Q (.int (if j<i then j else i)) H):dZ4 [.int i,.int j] H Q:=h
theorem eQM (h:Q (.int (if j > i then j else i)) H):dX3 [.int i,.int j] H Q:=h
theorem vR (e:PySem.intText? z=some i) (l:z.length<=640) (h:Q (.int i) H):cXQ [.str z] H Q:=by unfold cXQ; simp only [e]; exact ⟨l,h⟩
theorem dXC (e:rdL H p=some xs) (h:∀ l,H l=none->Q (.ref l) (upd H l (.lst xs))):aZ4 [.ref p] H Q:=by unfold aZ4; simp only [e]; exact h
theorem dJT (e:gK H p=some xs) (l:xs.length<sizeLine) (h:Q .non (upd H p (.lst (xs++[v])))):cQ1 (.ref p) [v] H Q:=by unfold cQ1; simp only [e]; exact ⟨l,h⟩
theorem aZC {rest:List Nat} (e:Builtin.Str.occurrences z z' 0 z.length 1=k::rest) (h:Q (.int ((k:Nat):Int)) H):uH (.str z) [.str z'] H Q:=by unfold uH; simp only [e]; exact h
theorem dJX {bs:List Bool} (e:rdL H p=some (bs.map V.bl)) (h:Q (.bl (bs.all id)) H):cJG [.ref p] H Q:=by
 unfold cJG; simp only [e,aXA]; exact h
theorem eQ2 {T t:String} {b:Bool} (e:tyN x H=some t) (e':bQR t T=some b) (h:Q (.bl b) H):cZM [x,.ty T] H Q:=by
 unfold cZM; simp only [e,e']; exact h
theorem cXK {tl:TE} {R:It->Hp->Prop} (h:tl σ H (hU λa H1=>onL (rdL H1 a) (R (Itl K a) H1))):cJ1 K tl σ H R:=h
theorem cJD {R:Addr->Hp->Prop} (h:R p H):hU R (.ref p) H:=h
theorem dJV {P:Prop} (e:rdL H p=some xs) (h:P):onL (rdL H p) P:=by unfold onL; simp only [e]; exact h
theorem dZA {tl:TE} {R:It->Hp->Prop} (h:tl σ H (yY λz H1=>R (Its z) H1)):eXR tl σ H R:=h
theorem cZE {R:Str->Hp->Prop} (h:R z H):yY R (.str z) H:=h
theorem cZB {R:It->Hp->Prop} (h:tA σ H (aXG λj H1=>(-(2 ^ 62)<=j/\j<2 ^ 62)/\R (Itr 0 j.toNat) H1)):cJP tA σ H R:=h
theorem cXJ {R:It->Hp->Prop} (h:tA σ H (bXI λi j H1=>(-(2 ^ 62)<=i/\i<2 ^ 62/\-(2 ^ 62)<=j/\j<2 ^ 62)/\R (Itr i (j - i).toNat) H1)):cJ4 tA σ H R:=h
theorem dZX {R:Int->Hp->Prop} (h:R i H):aXG R [.int i] H:=h
theorem dXY {R:Int->Int->Hp->Prop} (h:R i j H):bXI R [.int i,.int j] H:=h
theorem eQY {o:V} {QH:Hp->Prop} (e:gK H p=some xs) (e':ixN xs.length i=some k) (h:QH (upd H p (.lst (xs.set k v)))):cJL (.ref p) (.int i) v H QH:=⟨_,_,_,_,rfl,rfl,jN e,e',h⟩
end
theorem bXC {α:Type} {xs:List α} {i:Int} (h0:0<=i) (h1:i<xs.length):∃ v,atI xs i=some v/\xs[i.toNat]?=some v:=by
 have hk:i.toNat<xs.length:=by omega
 have e:i=((i.toNat:Nat):Int):=by omega
 have q:atI xs ((i.toNat:Nat):Int)=some xs[i.toNat]:=eI (Aa hk)
 rw [<-e] at q;exact ⟨xs[i.toNat],q,Aa hk⟩
theorem dXT {n:Nat} {i:Int} (h0:0<=i) (h1:i<n):ixN n i=some i.toNat:=by
 unfold ixN;rw [if_pos h0,if_pos h1]
theorem bP {n:Nat} (h:n<=100000):n<=sizeLine:=Bc h (by decide)
theorem aV {n:Nat} (h:n<=100000):n<sizeLine:=Et h (by decide)
end L2
namespace L2
open PySem PySem.Spec PyProof.Rows
def Cal (P:Program) (w:World) (K:PySem.W.Frag) (mg:Str->Option Value) (base:Heap) (k:Nat) (x:Str) (ps:List Str) (sp:Sp):Prop :=
 ∃ (f:Addr) (fd:FuncData),FnOk P w K mg base CX0 k f fd ps sp/\mg x=some (.ref f)/\PySem.W.keepIn K (.ref f)=true/\Binds K fd ps []
section
variable {X:Cx} {k k':Nat} {ps:List Str} {sp:Sp} {x:Str} {p pos:Pos} {e:Expr} {es:List Expr} {t:TA} {K:PySem.W.Frag} {H:Hp} {Q:VK} {xs:List V} {v:V} {i:Int} {a:Addr}
theorem aZ (c:Cal X.prog X.w X.K X.mg X.base k x ps sp) (hr:Room k' X.A) (hk:k<=k') (hg:Gl X x)
   (ha:PA X (e::es) t) (hdb:(x == ("__debug__" : Str))=false:=by decide) (he:starEach (e::es) X.env=(false,eval e X.env)::starEach es X.env:=by rfl) (hpl:(backTo pos (starEach es X.env)).any (·.1)=false:=by rfl) :
   PE X (.Call (.Name x p) (e::es) [] pos) (aXY sp [] E0 t):=by
 obtain ⟨f,fd,F,hm,hk',hb⟩:=c;exact aXT F (hr.mono hk) hg hm hk' hb .nil dJ2 ha hdb he hpl
theorem kW {z:Str} (hg:Gl X x) (h:∃ t,X.mg x=some (.str z t)) (hd:(x == ("__debug__" : Str))=false:=by decide):PE X (.Name x pos) (tC (.str z)):=by
 obtain ⟨t,h⟩:=h;exact aZ5 hg h ⟨t,rfl⟩ hd
theorem cZ4 {z:Int} (hg:Gl X x) (h:∃ t,X.mg x=some (.int z t)) (hd:(x == ("__debug__" : Str))=false:=by decide):PE X (.Name x pos) (tC (.int z)):=by
 obtain ⟨t,h⟩:=h;exact aZ5 hg h ⟨t,rfl⟩ hd
theorem eX3 (e:SqL K H a xs) (e':atI xs i=some v) (h:Q v H):dX6 K (.ref a) (.int i) H Q:=⟨a,xs,i,v,rfl,rfl,e,e',h⟩
end
end L2
namespace L2
open PySem PySem.Spec PyProof.Rows
theorem cI:bootBuiltins "len"=some (.builtin "len"):=by decide +kernel
theorem cM:bootBuiltins "isinstance"=some (.builtin "isinstance"):=by decide +kernel
theorem bXK:bootBuiltins "min"=some (.builtin "min"):=by decide +kernel
theorem bZD:bootBuiltins "max"=some (.builtin "max"):=by decide +kernel
theorem dX4:bootBuiltins "all"=some (.builtin "all"):=by decide +kernel
theorem dJL:bootBuiltins "sum"=some (.builtin "sum"):=by decide +kernel
theorem sZ:bootBuiltins "sorted"=some (.builtin "sorted"):=by decide +kernel
theorem aZY:bootBuiltins "bool"=some (.type "bool"):=by decide +kernel
theorem uW:bootBuiltins "int"=some (.type "int"):=by decide +kernel
theorem dG:bootBuiltins "list"=some (.type "list"):=by decide +kernel
theorem xA:bootBuiltins "tuple"=some (.type "tuple"):=by decide +kernel
theorem aZH:bootBuiltins "dict"=some (.type "dict"):=by decide +kernel
theorem xZ:bootBuiltins "range"=some (.type "range"):=by decide +kernel
end L2
namespace L2
theorem eQP {A B:Prop} (h:B):if (!true)=true then A else B:=h
theorem dJ5 {A B:Prop} (h:A):if (!false)=true then A else B:=h
end L2
namespace L2
open PySem PySem.Spec PyProof.Rows
theorem dXG {X:Cx} {x:Str} {j:Nat} {pos:Pos} {es:List Expr} {t:TA} (h:PA X es t):PA X (.Constant (.str x) j pos::es) (aZK (tC (.str x)) t):=aA gG h rfl
end L2
set_option maxHeartbeats 4000000
namespace L2
open PySem PySem.Spec PyProof.Rows
theorem zI {prog:Program} {w:World} {A:Around} {R:Result->Shared->Prop} {s:Shared} {elt target iter:Expr} {ifs:List Expr} {scope:Scope} {pos:Pos} {it acc:Value} {env:Env} (I:Nat->Shared->Prop)
   (turn:∀ n s,I n s->wpAny (model prog w) A (pyNext it) (λr s₁=>match r with
     | none=>R (.ok .next) s₁
     | some v=>wpAny (model prog w) A (letOwnedTupleGo target it v) (λ_ s₁'=>wpAny (model prog w) A (assign target env v) (λ_ s₂=>
         wpAny (model prog w) A (forIn ifs true λc r=>if r=true then do let ok <-isTrue c env (eval c env); pure (ForInStep.yield ok) else pure (ForInStep.yield r)) (λok s₃=>
           if ok=true then wpAny (model prog w) A (eval elt env) (λx s₄=>
             wpAny (model prog w) A (call (.builtin "list.append") [acc,x]) (λ_ s₅=>∃ m,m<n/\I m s₅) (λ_ _=>False) s₄) (λ_ _=>False) s₃
           else ∃ m,m<n/\I m s₃) (λ_ _=>False) s₂) (λ_ _=>False) s₁') (λ_ _=>False) s₁) (λ_ _=>False) s)
   (n:Nat) (h:I n s) :
   codeAny (model prog w) A (.compLoop (.ListComp elt [⟨target,iter,ifs,0⟩] scope pos) 0 it acc env) R s:=by
 refine codeAny_loop rfl I (λn s hI=>?_) n h;show wpAny _ A ((compTurn (.ListComp elt [⟨target,iter,ifs,0⟩] scope pos) 0 it acc env).onRaise (λx=>do noteFrame x env; theTreesLotGoes x)) _ _ s
 refine wpAny_noted ?_;rw [compTurn_list];refine Ad (Fk (Ad (Ce (turn n s hI) (λr s₁ h₁=>?_) λ_ _ h'=>h'.elim)));cases r with
 | none=>exact Al h₁
 | some v=>
   refine Ad (Ce h₁ (λ_ s₁' h₁'=>?_) λ_ _ h'=>h'.elim);refine Ad (Ce h₁' (λ_ s₂ h₂=>Ad (Ce h₂ (λok s₃ h₃=>?_) λ_ _ h'=>h'.elim)) λ_ _ h'=>h'.elim);cases ok with
   | false=>exact Al ⟨rfl,h₃⟩
   | true=>
     exact Ad (Ad (Ce h₃ (λx s₄ h₄=>Ad (Ce h₄ (λ_ s₅ h₅=>Al (Al ⟨rfl,h₅⟩)) λ_ _ h'=>h'.elim)) λ_ _ h'=>h'.elim))
def cxC (X:Cx) (N:List Str) (scope:Scope) (cl:List (Str×Addr)) (C:Addr) (s₀:Shared) (H₀:Hp) (ex:List Addr):Cx :=
 { prog:=X.prog,w:=X.w,K:=X.K,mg:=X.mg,base:=X.base,A:=X.A,N:=N,s₀:=s₀,H₀:=H₀,env:=compEnvC scope cl C X.env,outer:=X.stack,stack:=X.stack,ex:=ex,fn:=λ_=>false,calm:=X.calm,pn:=[],xe:=λ_ _=>False }
structure ClOk (X:Cx) (N:List Str) (scope:Scope) (cl:List (Str×Addr)) (vals:St->St):Prop where
 clos:closureFor scope X.env=pure cl
 sub:∀ x c,cl.lookup x=some c->X.env.cells.lookup x=some c
 has:∀ x,((relabel scope X.env).names.lookup x=some .cell\/(relabel scope X.env).names.lookup x=some .free)->∃ c,cl.lookup x=some c
 len:∀ σ,(vals σ).length=N.length
 val:∀ σ (i:Nat) x v,N[i]?=some x->(vals σ)[i]?=some (some v)->∃ (j:Nat),X.N[j]?=some x/\σ[j]?=some (some v)/\X.env.scope.names.lookup x=some .cell/\(∃ c,cl.lookup x=some c)/\(relabel scope X.env).names.lookup x=some .cell
def PF (X:Cx) (ifs:List Expr) (t:TT):Prop:=∀ (pins:List (Addr×Obj)) (s:Shared) (σ:St) (H:Hp) (Q:Bool->Hp->Prop),Inv X pins σ H s->t σ H Q->
 wpAny (model X.prog X.w) X.A (forIn ifs true λc r=>if r=true then do let ok <-isTrue c X.env (eval c X.env); pure (ForInStep.yield ok) else pure (ForInStep.yield r)) (TP X pins σ Q) X.xe s
def eX5:TT:=λ_ H Q=>Q true H
theorem fD {X:Cx}:PF X [] eX5:=λpins s σ H Q I q=>wpAny_tests_nil ⟨H,I,q⟩
theorem iG {X:Cx} {c:Expr} {t:TT} (h:PT X c t):PF X [c] t:=λpins s σ H Q I q=>wpAny_tests_one (h pins s σ H Q I q)
section
variable {X:Cx} {pins:Q2} {σ:St} {H2:Hp} {s2:Shared} {N:List Str} {scope:Scope} {cl:List (Str×Addr)} {vals:St->St} {C:Addr} {fp:List Addr}
theorem aXM {h1:Heap} {t1:Nat} (I:Inv X pins σ H2 s2) (ck:ClOk X N scope cl vals) (hkind:scope.kind=.function) (hf:∀ b∈fp,lB X pins H2 b) (hlt:∀ b∈fp,b<s2.heap.objs.size)
   (hns:h1.Ns s2.heap.objs.size λ_=>none) (hsb:Heap.SameBut s2.heap.objs.size (s2.heap.push { cls:=.type "dict",data:=.dict #[] }) h1) :
   Inv (cxC X N scope cl s2.heap.objs.size s2 H2 fp) [] (vals σ) H2 { s2 with heap:=h1,toks:=t1 }:=by
 have old:∀ b o,s2.heap.get? b=some o->h1.get? b=some o:=λb o e=>(hsb.2 b (Bi (Ar e))).trans (Af _ e)
 have hC:H2 s2.heap.objs.size=none:=I.hok.fresh (Ah _)
 refine ⟨⟨I.ok.mod,hkind,I.ok.glob,I.ok.blt,Ah _,λx y c h1 h2=>I.ok.inj x y c (ck.sub x c h1) (ck.sub y c h2),ck.has,(λx c h=>nomatch h),I.ok.hd,I.ok.frames,.inl rfl,λb hb=>⟨Bi (hlt b hb),λx c e=>(hf b hb).2.2.2.2.1 x c (ck.sub x c e)⟩,
   I.bs,Nat.le_trans I.ok.bsz I.sz,λb o e hb=>?_,λb hb hs=>?_,I.stack,I.stkFree⟩,rfl,I.bare,Un.kept old,⟨_,hns,λi x v e1 e2 _=>?_⟩,λx c e=>?_,hC,λx c e=>I.freeC x c (ck.sub x c e),λp hp=>absurd (show p∈([]:Q2) from hp) (by simp),I.hok.kept old,ck.len σ⟩
 · rcases (hf b hb).2.2.2.1 with z | z
   · exact I.ok.noex b o e z
   · exact absurd (Bh (Ar e) (Bc I.ok.bsz z)) (Di _)
 · rcases Bd.mp (I.stkSub b hs) with z | z
   · exact (hf b hb).2.1 z
   · exact (hf b hb).2.2.1 z
 · obtain ⟨j,h1,h2,h3,⟨c,h4⟩,h5⟩:=ck.val σ i x v e1 e2;obtain ⟨m,hn,hl⟩:=I.loc;obtain ⟨u,r,l⟩:=hl j x v h1 h2 (.inr (.inl h3));refine ⟨u,r,.inr ⟨.inl h5,c,h4,?_⟩⟩;rcases l with ⟨z,_⟩ | ⟨_,c',e',z⟩
   · have z':X.env.scope.names.lookup x=some .local:=z
     rw [h3] at z'; cases z'
   · rw [ck.sub x c h4] at e';cases e';obtain ⟨o,ho,hd⟩:=z;exact ⟨o,old _ o ho,hd⟩
 · obtain ⟨v,o,ho,hd⟩:=I.cell x c (ck.sub x c e);exact ⟨v,o,old _ o ho,hd⟩
theorem bQX {σ':St} {H':Hp} {s':Shared} {h'':Heap} {pins':Q2} (I:Inv X pins σ H2 s2) (hf:∀ b∈fp,lB X pins H2 b)
   (I':Inv (cxC X N scope cl s2.heap.objs.size s2 H2 fp) pins' σ' H' s') (hsb:Heap.SameBut s2.heap.objs.size s'.heap h''):Inv X pins σ H' { s' with heap:=h'' }:=by
 have u1:Un (frs X.stack) (s2.heap.objs.size::fp) H2 H' s2.heap s'.heap:=I'.base.mono (λ_ z=>z) λb z=>Ao _ z
 have hC:H' s2.heap.objs.size=none:=I'.free
 have k:∀ b o,b≠s2.heap.objs.size->s'.heap.get? b=some o->h''.get? b=some o:=λb o hb e=>(hsb.2 b hb).trans e
 have u2:Un (frs X.stack) (s2.heap.objs.size::fp) H' H' s'.heap h'':=⟨λb o e _ _ hx=>k b o (λz=>hx (by simp [z])) e,λb o e _ _ hx=>⟨o.slots,k b o (λz=>hx (by simp [z])) e⟩,λ_ _ _ n _=>n,
   λb o e hx=>⟨o,k b o (λz=>hx (by simp [z])) e⟩,λ_ _ e=>e,λ_ _ _ e=>e,λb ps e=>⟨#[],by rw [e]; simp⟩⟩
 have hok:HOk X.prog X.w H' h'':=λb u e=>by
   have nC:∀ c v,H' c=some v->c≠s2.heap.objs.size:=λc v e z=>by rw [z,hC] at e; cases e
   refine (I'.hok b u e).stay (λc v hc q=>k c v ?_ q) (λ_ q=>q) λ_ _ q=>q;rcases hc with z | z
   · rw [z]; exact nC b u e
   · exact nC c _ z
 refine I.call' (s':={ s' with heap:=h'' }) (ch:=s2.heap.objs.size::fp) I'.os (u1.trans u2) hok I'.bare λb hb=>?_
 have q:lB X pins H2 b:=by
   rcases Bd.mp hb with z | z
   · subst z; exact I.fpOk (Ah _) (I.hok.fresh (Ah _))
   · exact hf b z
 exact ⟨q.2.2.2.1,q.2.1,q.2.2.2.2.1,q.2.2.2.2.2⟩
end
def Wk (σ0 σ:St):Prop:=σ0.length=σ.length/\∀ (i:Nat) v,σ0[i]?=some (some v)->σ[i]?=some (some v)
theorem Wk.refl (σ:St):Wk σ σ:=⟨rfl,λ_ _ h=>h⟩
theorem Wk.set {σ0 σ:St} {k:Nat} {v:V} (h:σ0[k]?=some none) (w:Wk σ0 σ):Wk σ0 (σ.set k (some v)):=by
 refine ⟨by rw [Ez]; exact w.1,λi u e=>?_⟩
 have ne:k≠i:=λz=>by subst z; rw [h] at e; cases e
 rw [Eg ne];exact w.2 i u e
def eQ (g:TG) (tests:TT) (te:TE) (σ0:St) (Q:VK) (J:It) (H1:Hp):Prop:=∀ D,H1 D=none->∃ W:Nat->Nat->Hp->Prop,(∃ m,W 0 m (upd H1 D (.lst [])))/\∀ i m Hc,W i m Hc->
 (J.stop i Hc/\Q (.ref D) Hc)\/(J.go i Hc/\∀ x H',J.yld i Hc x H'->g x σ0 H' λσ2 H2=>Wk σ0 σ2/\tests σ2 H2 λb H3=>if b=true then
   te σ2 H3 λy H4=>∃ zs,H4 D=some (.lst zs)/\zs.length<sizeLine/\∃ m',m' < m/\W (i+1) m' (upd H4 D (.lst (zs++[y]))) else ∃ m',m' < m/\W (i+1) m' H3)
def bJ9 (wi:TI) (g:TG) (tests:TT) (te:TE) (vals:St->St):TE:=λσ H Q=>wi σ H λJ H1=>eQ g tests te (vals σ) Q J H1
theorem xW {X:Cx} {pins:Q2} {σ:St} {H2:Hp} {s2:Shared} {N:List Str} {scope:Scope} {cl:List (Str×Addr)} {vals:St->St} {fp:List Addr} {it:Addr} {tn:Nat->Heap->Prop} {J:It} {tg elt iter:Expr} {ifs:List Expr} {pos:Pos}
   {g:TG} {tests:TT} {te:TE} {Q:VK} {E:Q0} {RR:Value->Addr->Result->Shared->Prop} (I2:Inv X pins σ H2 s2) (T:Turn X.prog X.w X.K tg J fp it tn) (st2:tn 0 s2.heap) (f2:∀ b∈fp,lB X pins H2 b) (hc:X.calm=true)
   (ck:ClOk X N scope cl vals) (hcell:∀ y∈scope.names,y.2≠.cell) (hkind:scope.kind=.function)
   (hg:∀ C s₀ H₀ ex,PG (cxC X N scope cl C s₀ H₀ ex) tg g) (ht:∀ C s₀ H₀ ex,PF (cxC X N scope cl C s₀ H₀ ex) ifs tests) (he:∀ C s₀ H₀ ex,PE (cxC X N scope cl C s₀ H₀ ex) elt te)
   (h:eQ g tests te (vals σ) Q J H2)
   (hRR:∀ D C s' H' m,s'.heap.Ns C m->Q (.ref D) H'->(∀ h'',Heap.SameBut C s'.heap h''->Inv X pins σ H' { s' with heap:=h'' })->lB X pins H' C->RR (.ref D) C (.ok .next) s') :
   wpAny (model X.prog X.w) X.A (newList []) (λacc s₃=>wpAny (model X.prog X.w) X.A (newFunctionEnv scope X.env.globals cl [] X.env.qual none .none (some X.env)) (λcenv s₄=>
     codeAny (model X.prog X.w) X.A (.compStart (.ListComp elt [⟨tg,iter,ifs,0⟩] scope pos) 0 (.ref it) acc { cenv with scope:=relabel scope X.env }) (RR acc cenv.locals) s₄) E s₃) E s2:=by
 have hD:H2 s2.heap.objs.size=none:=I2.hok.fresh (Ah _)
 obtain ⟨W,⟨m0,w0⟩,turn⟩:=h _ hD;have hlt:∀ b∈fp,b<s2.heap.objs.size:=λb hb=>by
   obtain ⟨o,e,_⟩:=T.obj 0 _ st2 b hb;exact Ar e
 refine Gr ?_
 -- the list is laid
 have I3:Inv X pins σ (upd H2 s2.heap.objs.size (.lst [])) { s2 with heap:=s2.heap.push { cls:=.type "list",dict:=none,data:=.seq ([]:List Value).toArray } } :=
   I2.lnew (ys:=[]) (its:=[]) (t':=s2.toks) .nil (Bw _)
 have f3:∀ b∈fp,lB X pins (upd H2 s2.heap.objs.size (.lst [])) b:=λb hb=>⟨by rw [aK (Bi (hlt b hb))]; exact (f2 b hb).1,(f2 b hb).2⟩
 have st3:tn 0 (s2.heap.push { cls:=.type "list",dict:=none,data:=.seq ([]:List Value).toArray }):=T.keep _ _ _ st2 λb _ o e=>Af _ e
 generalize hs3:({ s2 with heap:=s2.heap.push { cls:=.type "list",dict:=none,data:=.seq ([]:List Value).toArray } }:Shared)=s3 at I3 ⊢
 have e3:s3.heap=s2.heap.push { cls:=.type "list",dict:=none,data:=.seq ([]:List Value).toArray }:=by rw [<-hs3]
 rw [<-e3] at st3;have hlt3:∀ b∈fp,b<s3.heap.objs.size:=λb hb=>by
   obtain ⟨o,e,_⟩:=T.obj 0 _ st3 b hb;exact Ar e
 refine wpAny_newFunctionEnv hcell (by intro y hy; simp at hy) (λh₁ hns₁ hsb₁=>?_) hkind
 have hns:h₁.Ns s3.heap.objs.size λ_=>none:=hns₁
 have I4:=aXM (t1:=s3.toks) I3 ck hkind f3 hlt3 hns hsb₁
 have old:∀ b o,s3.heap.get? b=some o->h₁.get? b=some o:=λb o e=>(hsb₁.2 b (Bi (Ar e))).trans (Af _ e)
 have st4:tn 0 h₁:=T.keep _ _ _ st3 λb _ o e=>old b o e
 have loop:∀ s₄:Shared,s₄={ s3 with heap:=h₁,toks:=s3.toks }->
     codeAny (model X.prog X.w) X.A (.compLoop (.ListComp elt [⟨tg,iter,ifs,0⟩] scope pos) 0 (.ref it) (.ref s2.heap.objs.size) (compEnvC scope cl s3.heap.objs.size X.env))
       (RR (.ref s2.heap.objs.size) s3.heap.objs.size) s₄:=by
   rintro s₄ rfl;have fpX:∀ {H':Hp},(∀ b∈fp,H' b=none)->∀ b∈fp,lB (cxC X N scope cl s3.heap.objs.size s3 (upd H2 s2.heap.objs.size (.lst [])) fp) [] H' b:=λhn b hb=>
     ⟨hn b hb,Nat.ne_of_lt (hlt3 b hb),λhs=>I4.ok.exfs b hb hs,.inl hb,λx c e=>(I4.ok.exf b hb).2 x c e,λp hp=>absurd (show p∈([]:Q2) from hp) (by simp)⟩
   refine zI (λn s'=>∃ i H',Inv (cxC X N scope cl s3.heap.objs.size s3 (upd H2 s2.heap.objs.size (.lst [])) fp) [] (vals σ) H' s'/\tn i s'.heap/\(∀ b∈fp,H' b=none)/\W i n H') ?_ m0
     ⟨0,_,I4,st4,λb hb=>(f3 b hb).1,w0⟩
   rintro n s5 ⟨i,H5,I5,st5,fr5,w5⟩;rcases turn i n H5 w5 with ⟨stop,q⟩ | ⟨go,step⟩
   · refine thn (T.done (cxC X N scope cl s3.heap.objs.size s3 (upd H2 s2.heap.objs.size (.lst [])) fp) rfl rfl rfl hc i [] s5 (vals σ) H5 (λ_ _=>False) I5 (fpX fr5) st5 stop) λr s6 ⟨hr,I6⟩=>?_;subst hr;obtain ⟨m,hn,_⟩:=id I6.loc;exact hRR _ _ s6 H5 m hn q (λh'' hsb=>bQX I3 f3 I6 hsb) (I3.fpOk (Ah _) I6.free)
   · refine thn (T.item (cxC X N scope cl s3.heap.objs.size s3 (upd H2 s2.heap.objs.size (.lst [])) fp) rfl rfl rfl hc i [] s5 (vals σ) H5 (λ_ _=>False) I5 (fpX fr5) st5 go) λr s6 ⟨u,hr,h6⟩=>?_;subst hr;refine thn h6 λ_ s7 ⟨x,H7,I7,r7,y7,st7,fr7⟩=>?_;have I7':=I7.pinned (fpX fr7) (T.obj _ _ st7)
     refine thn (hg _ _ _ _ _ s7 (vals σ) H7 x u _ I7' r7 (step x H7 y7)) λ_ s8 ⟨σ8,H8,I8,wk8,q8⟩=>?_;refine thn (ht _ _ _ _ _ s8 σ8 H8 _ I8 q8) λb s9 ⟨H9,I9,q9⟩=>?_;have again:∀ {m':Nat} {s':Shared} {H':Hp},Inv (cxC X N scope cl s3.heap.objs.size s3 (upd H2 s2.heap.objs.size (.lst [])) fp) ([]++nP fp s7.heap) σ8 H' s'->m' < n->W (i+1) m' H'->
         ∃ m,m<n/\∃ i H',Inv (cxC X N scope cl s3.heap.objs.size s3 (upd H2 s2.heap.objs.size (.lst [])) fp) [] (vals σ) H' s'/\tn i s'.heap/\(∀ b∈fp,H' b=none)/\W i m H':=fun {m' s' H'} J7 hm w7=>by
       refine ⟨m',hm,i+1,H',(J7.weak wk8.1 wk8.2).unpinned,T.keep _ _ _ st7 λb hb o e=>(J7.pin (b,o) (Bq _ (Bq _ (jD hb e)))).1,λb hb=>?_,w7⟩;obtain ⟨o,e,d⟩:=T.obj _ _ st7 b hb;exact (J7.pin (b,o) (Bq _ (Bq _ (jD hb e)))).2.1
     cases b with
     | true=>
       rw [if_pos rfl] at q9 ⊢;refine thn (he _ _ _ _ _ s9 σ8 H9 _ I9 q9) λv s10 ⟨y,H10,I10,r10,zs,hz,hl,m',hm,w10⟩=>?_;have ap:=uA ([]++nP fp s7.heap) s10 σ8 H10 (.ref s2.heap.objs.size) [y] (.ref s2.heap.objs.size) [v] (λ_ H'=>H'=upd H10 s2.heap.objs.size (.lst (zs++[y]))) I10 rfl (.cons r10 .nil) ⟨_,_,_,rfl,rfl,hz,hl,rfl⟩
       refine thn ap λ_ s11 ⟨_,H11,I11,_,e11⟩=>?_;subst e11;exact again I11 hm w10
     | false=>
       rw [if_neg Aq] at q9 ⊢;obtain ⟨m',hm,w9⟩:=q9;exact again I9 hm w9
 exact codeAny_compStart_list (loop _ rfl) (T.self _ 0 _ _ _ st4 (loop _ rfl))
section
variable {X:Cx} {N:List Str} {scope:Scope} {cl:List (Str×Addr)} {vals:St->St} {tg elt iter:Expr} {ifs:List Expr} {pos spos py:Pos} {wi:TI} {g:TG} {tests:TT} {te:TE}
theorem cJ (hc:X.calm=true) (hi:PI X tg iter wi) (ck:ClOk X N scope cl vals) (hcell:∀ y∈scope.names,y.2≠.cell) (hkind:scope.kind=.function) (hnames:∀ x∈scope.names,x.2=.local->scope.names.lookup x.1=some .local)
   (hg:∀ C s₀ H₀ ex,PG (cxC X N scope cl C s₀ H₀ ex) tg g) (ht:∀ C s₀ H₀ ex,PF (cxC X N scope cl C s₀ H₀ ex) ifs tests) (he:∀ C s₀ H₀ ex,PE (cxC X N scope cl C s₀ H₀ ex) elt te)
   (hs:∀ x,foldedSetIterable iter X.env x=pure x:=by intro _; rfl):PE X (.ListComp elt [⟨tg,iter,ifs,0⟩] scope pos) (bJ9 wi g tests te vals):=by
 intro pins s σ H Q I h;rw [eval_ListComp];refine wpAny_comprehension_free (use:=none) rfl hs ck.clos hkind hnames (thn (hi pins s σ H _ I h) λv s1 h1=>thn h1 λitv s2 h2=>?_);obtain ⟨it,fp,tn,J,H2,e,I2,T,st2,f2,q⟩:=h2;subst e;refine xW (RR:=λacc C=>compPost (model X.prog X.w) X.A X.xe none (EP X pins σ Q) acc C) I2 T st2 f2 hc ck hcell hkind hg ht he q λD C s' H' m hn q' back _=>?_;exact ⟨m,hn,λh'' hsb=>⟨.ref D,H',back h'' hsb,rfl,q'⟩⟩
theorem mH {i:Nat} {x:Str} (hN:X.N.Nodup) (hix:X.N[i]?=some x) (hx:Loc X.env.scope x) (hc:X.calm=true) (hi:PI X tg iter wi) (ck:ClOk X N scope cl vals) (hcell:∀ y∈scope.names,y.2≠.cell) (hkind:scope.kind=.function)
   (hnames:∀ x∈scope.names,x.2=.local->scope.names.lookup x.1=some .local)
   (hg:∀ C s₀ H₀ ex,PG (cxC X N scope cl C s₀ H₀ ex) tg g) (ht:∀ C s₀ H₀ ex,PF (cxC X N scope cl C s₀ H₀ ex) ifs tests) (he:∀ C s₀ H₀ ex,PE (cxC X N scope cl C s₀ H₀ ex) elt te)
   (hsw:swapsWith (.ListComp elt [⟨tg,iter,ifs,0⟩] scope pos) (some (.Name x py)) spos.line X.env=pure true:=by rfl)
   (hf:X.fn x=true\/X.env.scope.names.lookup x=some .local:=by first | exact .inl rfl | exact .inr rfl | assumption)
   (hs:∀ x,foldedSetIterable iter X.env x=pure x:=by intro _; rfl):PS X (.Assign [.Name x py] (.ListComp elt [⟨tg,iter,ifs,0⟩] scope pos) spos) (cQ9 (bJ9 wi g tests te vals) (qS i)):=by
 intro pins s σ H D I h;rw [exec_Assign_Name_used _ _ _ _ hsw];refine Ad (Fk (Ad ?_));show wpAny _ X.A (do let _ <-comprehension (.ListComp elt [⟨tg,iter,ifs,0⟩] scope pos) scope X.env _ (newList []) false (eval iter X.env) (some (assign (.Name x py) X.env))) _ _ s
 refine Ad (Ce (wpAny_comprehension_free (use:=some (assign (.Name x py) X.env)) (Q:=λ_ s'=>SP X pins D .next s') rfl hs ck.clos hkind hnames
   (thn (hi pins s σ H _ I h) λv s1 h1=>thn h1 λitv s2 h2=>?_)) (λ_ s' hq=>Al (Al hq)) λ_ _ e=>e)
 obtain ⟨it,fp,tn,J,H2,e,I2,T,st2,f2,q⟩:=h2;subst e;refine xW (RR:=λacc C=>compPost (model X.prog X.w) X.A X.xe (some (assign (.Name x py) X.env)) (λ_ s'=>SP X pins D .next s') acc C) I2 T st2 f2 hc ck hcell hkind hg ht he q λDl C s' H' m hn q' back fC=>?_;show wpAny _ X.A (assign (.Name x py) X.env (.ref Dl)) _ _ s'
 have I':Inv X pins σ H' s':=back s'.heap (Heap.SameBut.refl ..)
 refine wpAny_assign_Name (tW I' hN hix hx (v:=.ref Dl) rfl (λs'' I'' hsb=>?_) hf);obtain ⟨a,hsb,ha⟩:=hsb;have hCa:C≠a:=by
   rcases ha with z | z
   · rw [z]; exact fC.2.1
   · exact λe=>fC.2.2.2.2.1 x a z e.symm
 refine ⟨m,hn.sameBut hsb hCa,λh3 hsb3=>?_⟩;exact ⟨σ.set i (some (.ref Dl)),H',I''.turned (t':=s''.toks) (λb o hb e=>(hsb3.2 b hb).trans e) fC.1 fC.2.1 fC.2.2.2.1 fC.2.2.2.2.1 fC.2.2.2.2.2,q'⟩
theorem wF (hfree:∀ x∈scope.names,x.2≠.free) (hcell:∀ y∈scope.names,y.2≠.cell):ClOk X N scope [] (λ_=>N.map λ_=>none) where
 clos:=closureFor_none hfree
 sub:=λx c h=>nomatch h
 has:=λx h=>by
   have e:(relabel scope X.env).names=scope.names:=by
     show List.map _ scope.names=scope.names
     refine map_eq_self λy hy=>?_;obtain ⟨n,k⟩:=y;have:(k == NameKind.free)=false:=by simpa using hfree _ hy
     simp [this]
   rw [e] at h;rcases h with h | h
   · exact absurd rfl (hcell _ (Df h))
   · exact absurd rfl (hfree _ (Df h))
 len:=λσ=>by simp
 val:=λσ i x v h1 h2=>by
   rw [Ag] at h2;cases e:N[i]? with
   | none=>rw [e] at h2; cases h2
   | some y=>rw [e] at h2; cases h2
end
section
variable {g:TG} {tests:TT} {te:TE} {σ0:St} {Q:VK} {H1:Hp}
theorem cZ3 {J:It} {xs:List V} {ok:Hp->Prop} (f:V->Option V) (hgo:∀ (i:Nat) H,ok H->i<xs.length->J.go i H) (hst:∀ H,ok H->J.stop xs.length H) (hy:∀ (i:Nat) H x H',ok H->J.yld i H x H'->H'=H/\xs[i]?=some x)
   (hok:∀ D ys,H1 D=none->ok (upd H1 D (.lst ys))) (hlen:xs.length<sizeLine)
   (hs:∀ (i:Nat) x Hc (A:VK) (B:Hp->Prop),xs[i]?=some x->ok Hc->(match f x with | some y=>A y Hc | none=>B Hc)->g x σ0 Hc λσ2 H2=>Wk σ0 σ2/\tests σ2 H2 λb H3=>if b=true then te σ2 H3 A else B H3)
   (fin:∀ D,H1 D=none->Q (.ref D) (upd H1 D (.lst (xs.filterMap f)))):eQ g tests te σ0 Q J H1:=by
 intro D hD;refine ⟨λi m Hc=>m=xs.length - i/\i<=xs.length/\Hc=upd H1 D (.lst ((xs.take i).filterMap f)),⟨xs.length,by simp,Nat.zero_le _,by simp⟩,?_⟩
 rintro i m Hc ⟨rfl,hi,rfl⟩;by_cases hlt:i<xs.length
 · refine .inr ⟨hgo i _ (hok D _ hD) hlt,λx H' y=>?_⟩;obtain ⟨e,hx⟩:=hy i _ x H' (hok D _ hD) y;subst e;refine hs i x _ _ _ hx (hok D _ hD) ?_;have tk:xs.take (i+1)=xs.take i++[x]:=by rw [Ba,hx]; rfl
   cases e:f x with
   | some y=>
     refine ⟨_,aD,?_,xs.length - (i+1),by omega,rfl,hlt,?_⟩
     · have:=Dj f (xs.take i)
       rw [Bs] at this;omega
     · rw [aZ6,tk,Cj];simp [e]
   | none=>
     refine ⟨xs.length - (i+1),by omega,rfl,hlt,?_⟩
     rw [tk,Cj];simp [e]
 · have e:i=xs.length:=by omega
   subst e;rw [Bl];exact .inl ⟨hst _ (hok D _ hD),fin D hD⟩
theorem dJE {z:Str} (f:Nat->Option V) (hl:z.length<sizeLine)
   (hs:∀ (i:Nat) c Hc (A:VK) (B:Hp->Prop),z.cps.toList[i]?=some c->(match f c with | some y=>A y Hc | none=>B Hc)->g (.str ⟨#[c]⟩) σ0 Hc λσ2 H2=>Wk σ0 σ2/\tests σ2 H2 λb H3=>if b=true then te σ2 H3 A else B H3)
   (fin:∀ D,H1 D=none->Q (.ref D) (upd H1 D (.lst (z.cps.toList.filterMap f)))):eQ g tests te σ0 Q (Its z) H1:=by
 have hz:z.cps.toList.length=z.length:=by simp [Str.length]
 have hz2:z.cps.size=z.length:=rfl
 refine cZ3 (xs:=z.cps.toList.map λc=>.str ⟨#[c]⟩) (ok:=λ_=>True) (λx=>match x with | .str y=>f (y.cps.toList.headD 0) | _=>none) (λi H _ h=>?_) (λH _=>?_) (λi H x H' _ y=>?_) (λ_ _ _=>trivial) (by rw [Ab,hz]; exact hl) (λi x Hc A B hx _ h=>?_) (λD hD=>?_)
 · rw [Ab,hz] at h; exact h
 · show z.cps.size<=_
   rw [Ab,hz]; exact Ah _
 · obtain ⟨e,c,hc,hx⟩:=y;refine ⟨e,?_⟩;rw [Ag,Cu,hc,hx]; rfl
 · rw [Ag] at hx;cases e:z.cps.toList[i]? with
   | none=>rw [e] at hx; cases hx
   | some c=>rw [e] at hx; cases hx; exact hs i c Hc A B e h
 · have q:=fin D hD
   rw [List.filterMap_map];exact q
end
theorem dXM {wi:TI} {g:TG} {tests:TT} {te:TE} {vals:St->St} {σ:St} {H:Hp} {Q:VK} (h:wi σ H λJ H1=>eQ g tests te (vals σ) Q J H1):bJ9 wi g tests te vals σ H Q:=h
theorem dJY {σ:St} {H:Hp} {Q:Bool->Hp->Prop} (h:Q true H):eX5 σ H Q:=h
end L2
set_option maxHeartbeats 4000000
namespace L2
open PySem PySem.Spec PyProof.Rows
def clF (env:Env):List (Str×NameKind)->List (Str×Addr)->List (Str×Addr)
 | [],acc=>acc
 | (n,k)::r,acc=>if k == .free then clF env r ((n,(env.cells.lookup n).getD 0)::acc) else clF env r acc
def bJ5 (ix:List (Option Nat)):St->St:=λσ=>ix.map λo=>match o with | none=>none | some j=>(σ[j]?).join
def eXC (N XN:List Str) (sn dn:List (Str×NameKind)) (ix:List (Option Nat)):Bool :=
 ix.length == N.length && (sn.all λy=>y.2 != .cell && (y.2 != .free || dn.lookup y.1 == some .cell)) && decide ((sn.map (·.1)).Nodup) &&
 ((List.range N.length).all λi=>match ix[i]? with | some (some j)=>N[i]? == XN[j]? && (match N[i]? with | some x=>sn.lookup x == some .free | none=>false) | _=>true)
theorem uL {env:Env}:∀ (names:List (Str×NameKind)) (acc:List (Str×Addr)),(∀ y∈names,y.2=.free->∃ c,env.cells.lookup y.1=some c)->
   (forIn names acc (λ(x:Str×NameKind) (cs:List (Str×Addr))=>(match x with
     | (name,kind)=>if (kind == NameKind.free)=true then do
         let a <-cellOf env name
         pure (ForInStep.yield ((name,a)::cs))
       else pure (ForInStep.yield cs):Sem (ForInStep (List (Str×Addr))))))=(pure (clF env names acc):Sem (List (Str×Addr)))
 | [],acc,_=>rfl
 | (n,k)::r,acc,h=>by
   rw [List.forIn_cons];unfold clF;cases e:k == NameKind.free with
   | false=>
     simp only [e,Bool.false_eq_true,if_false,pure_bind];exact uL r acc λy hy=>h y (Ao _ hy)
   | true=>
     obtain ⟨c,hc⟩:=h (n,k) List.mem_cons_self (by simpa using e)
     have hc':env.cells.lookup n=some c:=hc
     simp only [e,if_true,cellOf,hc',Option.getD_some,pure_bind];exact uL r _ λy hy=>h y (Ao _ hy)
theorem wB {env:Env}:∀ (names:List (Str×NameKind)) (acc:List (Str×Addr)) {x:Str} {c:Addr},(clF env names acc).lookup x=some c->
   acc.lookup x=some c\/((x,NameKind.free)∈names/\c=(env.cells.lookup x).getD 0)
 | [],acc,x,c,h=>.inl h
 | (n,k)::r,acc,x,c,h=>by
   unfold clF at h;cases e:k == NameKind.free with
   | false=>
     rw [e] at h;rcases wB r acc (by simpa using h) with z | ⟨z,q⟩
     · exact .inl z
     · exact .inr ⟨Ao _ z,q⟩
   | true=>
     rw [e] at h;have ek:k=.free:=by simpa using e
     rcases wB r _ (by simpa using h) with z | ⟨z,q⟩
     · rw [Eb] at z;cases ex:x == n with
       | true=>
         rw [ex] at z;have exn:x=n:=by simpa using ex
         subst exn; subst ek;cases z;exact .inr ⟨As,rfl⟩
       | false=>rw [ex] at z; exact .inl z
     · exact .inr ⟨Ao _ z,q⟩
theorem vV {env:Env}:∀ (names:List (Str×NameKind)) (acc:List (Str×Addr)) {x:Str},(acc.lookup x).isSome=true->((clF env names acc).lookup x).isSome=true
 | [],acc,x,h=>h
 | (n,k)::r,acc,x,h=>by
   unfold clF;split
   · refine vV r _ ?_;rw [Eb];cases ex:x == n with
     | true=>rfl
     | false=>exact h
   · exact vV r acc h
theorem pA {env:Env}:∀ (names:List (Str×NameKind)) (acc:List (Str×Addr)) {x:Str},(x,NameKind.free)∈names->((clF env names acc).lookup x).isSome=true
 | (n,k)::r,acc,x,h=>by
   unfold clF;rcases Bd.mp h with z | z
   · cases z;simp only [beq_self_eq_true,if_true];refine vV r _ ?_;rw [Eb,beq_self_eq_true];rfl
   · split
     · exact pA r _ z
     · exact pA r acc z
theorem jR {env:Env} {x:Str}:∀ {names:List (Str×NameKind)} {k':NameKind},(names.map λ(n,k)=>if (k == NameKind.free && env.scope.kind == .function && env.kindOf n == some .cell) then (n,NameKind.cell) else (n,k)).lookup x=some k'->
   ∃ k,(x,k)∈names/\(k'=k\/(k=.free/\k'=.cell))
 | [],_,h=>by simp at h
 | (n,k)::r,k',h=>by
   rw [Au] at h;dsimp only at h;cases hc:(k == NameKind.free && env.scope.kind == .function && env.kindOf n == some .cell) with
   | true=>
     rw [hc,if_pos rfl,Eb] at h;cases ex:x == n with
     | true=>
       rw [ex] at h;cases h;have:x=n:=by simpa using ex
       subst this;have hk:k=.free:=by
         have:=(Cs _ _).mp hc
         have:=(Cs _ _).mp this.1
         simpa using this.1
       exact ⟨k,As,.inr ⟨hk,rfl⟩⟩
     | false=>
       rw [ex] at h;obtain ⟨k1,h1,h2⟩:=jR h;exact ⟨k1,Ao _ h1,h2⟩
   | false=>
     rw [hc,if_neg Aq,Eb] at h;cases ex:x == n with
     | true=>
       rw [ex] at h;cases h;have:x=n:=by simpa using ex
       subst this;exact ⟨k,As,.inl rfl⟩
     | false=>
       rw [ex] at h;obtain ⟨k1,h1,h2⟩:=jR h;exact ⟨k1,Ao _ h1,h2⟩
theorem oN {env:Env} {x:Str} (hk:env.scope.kind=.function) (hx:env.kindOf x=some .cell):∀ {names:List (Str×NameKind)},names.lookup x=some .free->
   (names.map λ(n,k)=>if (k == NameKind.free && env.scope.kind == .function && env.kindOf n == some .cell) then (n,NameKind.cell) else (n,k)).lookup x=some .cell
 | [],h=>by simp at h
 | (n,k)::r,h=>by
   rw [Au];dsimp only;rw [Eb] at h;cases ex:x == n with
   | true=>
     rw [ex] at h;cases h;have:x=n:=by simpa using ex
     subst this;rw [hk,hx];simp [List.lookup_cons]
   | false=>
     rw [ex] at h;have ih:=oN hk hx h
     split <;> (rw [Eb,ex]; exact ih)
theorem fI {X:Cx} {N:List Str} {scope:Scope} (XN:List Str) (sc:Scope) (ix:List (Option Nat)) (hN:X.N=XN) (hsc:X.env.scope=sc) (hk:sc.kind=.function)
   (hcs:∀ x,sc.names.lookup x=some .cell->∃ c,X.env.cells.lookup x=some c) (c:eXC N XN scope.names sc.names ix=true):ClOk X N scope (clF X.env scope.names []) (bJ5 ix):=by
 unfold eXC at c;simp only [Bool.and_eq_true,decide_eq_true_eq,List.all_eq_true,beq_iff_eq] at c;obtain ⟨⟨⟨c0,c1⟩,c2⟩,c3⟩:=c;have fr:∀ y,(y,NameKind.free)∈scope.names->sc.names.lookup y=some .cell:=λy hy=>by
   have z:=(c1 _ hy).2
   simpa using z
 have nocell:∀ y,(y,NameKind.cell) ∉ scope.names:=λy hy=>by
   have z:=(c1 _ hy).1
   simp at z
 refine ⟨?_,λx c h=>?_,λx h=>?_,λσ=>?_,λσ i x v h1 h2=>?_⟩
 · unfold closureFor;simp only [bind_pure];exact uL scope.names [] λy hy hf=>hcs y.1 (fr y.1 (by rw [<-hf]; exact hy))
 · rcases wB _ _ h with z | ⟨z,q⟩
   · simp at z
   · obtain ⟨c',e⟩:=hcs x (fr x z);rw [q,e]; rfl
 · have:∃ k,(x,k)∈scope.names/\k=.free:=by
     rcases h with h | h
     · obtain ⟨k,h1,h2⟩:=jR h;rcases h2 with z | ⟨z,_⟩
       · subst z; exact absurd h1 (nocell x)
       · exact ⟨k,h1,z⟩
     · obtain ⟨k,h1,h2⟩:=jR h;rcases h2 with z | ⟨z,z2⟩
       · exact ⟨k,h1,z.symm⟩
       · exact ⟨k,h1,z⟩
   obtain ⟨k,h1,rfl⟩:=this;exact Fd.mp (pA scope.names [] h1)
 · unfold bJ5;rw [Ab,c0]
 · unfold bJ5 at h2;rw [Ag] at h2;cases e:ix[i]? with
   | none=>rw [e] at h2; cases h2
   | some o=>
     rw [e] at h2;cases o with
     | none=>cases h2
     | some j=>
       have hi:i<N.length:=(Ae.mp h1).1
       have z:=c3 i (Bm.mpr hi)
       rw [e,h1] at z;simp only [Bool.and_eq_true,beq_iff_eq] at z;have hv:σ[j]?=some (some v):=by
         have h3:(σ[j]?).join=some v:=by simpa using h2
         cases e2:σ[j]? with
         | none=>rw [e2] at h3; cases h3
         | some o=>rw [e2] at h3; cases o with
           | none=>cases h3
           | some u=>cases h3; rfl
       have hm:(x,NameKind.free)∈scope.names:=Df z.2
       have hx:=fr x hm
       refine ⟨j,by rw [hN]; exact z.1.symm,hv,by rw [hsc]; exact hx,Fd.mp (pA scope.names [] hm),?_⟩
       exact oN (by rw [hsc]; exact hk) (by show X.env.scope.names.lookup x=_; rw [hsc]; exact hx) z.2
end L2
set_option maxHeartbeats 4000000
namespace L2
open PySem PySem.Spec PyProof.Rows
open PySem.AutoSeq1 (wpAny_loadPart')
theorem dQT {α:Type} {M:Model} {A:Around} {E:Q0} {s:Shared} {c:Bool} {x y:Sem α} {Q:α->Shared->Prop} (h1:wpAny M A x Q E s) (h2:wpAny M A y Q E s):wpAny M A (if c=true then x else y) Q E s:=by
 cases c
 · exact h2
 · exact h1
theorem aJ6 (l:Addr) (its:Array Value) (n:Nat) (dc:Option Addr) (sl:Array (Option Value)) (k:Int) (t:Tok) (hk:Builtin.SmallTypes.fitsIndex k=true) :
   Meets (Builtin.«enumerate.__new__» ⟨[.type "enumerate",.ref l],[("start",.int k t)]⟩) (λ_ R s=>s.heap.get? l=some ⟨.type "list",dc,.seq its n,sl⟩/\
     R (.ok (.ret (.ref (s.heap.push { cls:=.type "list_iterator",data:=.fields #[.ref l,.int 0 0] }).objs.size)))
       { s with heap:=(s.heap.push { cls:=.type "list_iterator",data:=.fields #[.ref l,.int 0 0] }).push ⟨.type "enumerate",none,.fields #[.none,.bool false,.ref s.heap.objs.size,rawInt k,.none,.none],#[]⟩ }) :=
 .of_wp λprog w A R s h=>by
   obtain ⟨hp,g,d,tk,os⟩:=s;obtain ⟨hl,h⟩:=h;have hsub:=sub_enumerate
   have hL:Heap.IsList hp l its:=⟨_,hl,rfl,n,rfl⟩
   have hk':(!Builtin.SmallTypes.fitsIndex k)=false:=by rw [hk]; rfl
   wp_walk using Ay hl
   refine wpAny_stack_any λst=>Al ?_;refine dQT ?_ ?_ <;>
   · wp_walk using (Ay hl),(Fc (s:=⟨hp,g,d,tk,os⟩) hL)
     exact ⟨_,rfl,h⟩
section
variable {prog:Program} {w:World} {A:Around} {E:Q0} {s:Shared}
theorem vW {T newId:String} {Bn:Builtin} {args:List Value} {kw:List (Str×Value)} {S:PySem.Spec} {Q Q1:Q0} (ft:TypeCalled T newId "object.__init__")
   (hct:checkTypeCall T ⟨args,kw⟩=pure ()) (hcn:checkBuiltinCall newId ⟨.type T::args,kw⟩=pure ()) (eN:entryFor table newId=some Bn) (g:Meets (Bn ⟨.type T::args,kw⟩) S) (h:S A.in1 (wants Q1 E) s)
   (hnx:∀ o s1,Q1 o s1->s1.TypeIs o T/\argsOk "object.__init__" ⟨o::args,kw⟩/\∃ Si,Meets (Builtin.«object.__init__» ⟨o::args,kw⟩) Si/\Si A.in1 (wants (λr s2=>r=.none/\Q o s2) E) s1) :
   wpAny (model prog w) A (call (.type T) args kw) Q E s:=by
 obtain ⟨c,tl,hmro⟩:=ft.mro;have hmade:=ft.made
 have hsub:=ft.sub
 have h1:=ft.notType
 have h2:=ft.canCreate
 refine Gf (codeAny_of_tree (show wpAny _ _ (callAny (.type T) _) _ _ _ from Al ⟨Gh _ (by decide +kernel),Dy F.entry_type_call ?_⟩))
 rw [Around.under_plain (weight_type_call_type T args kw) (units_type_call_type T args kw)];repeat (any_goals first | assumption | wp_step)
 refine Fb (Eh ft.plain eN (wpAny_of_eq hcn (g prog w A.in1 _ s h))) ?_;rintro (e | fl) s1 hr
 · exact hr
 · cases fl with
   | ret o=>
     obtain ⟨hT,hok,Si,gi,hsi⟩:=hnx _ _ hr;have hli:=ft.init.lookup
     have hbi:=ft.init.bind o
     repeat (any_goals first | assumption | wp_step)
     refine Fb (Eh ft.init.plain F.entry_object_init (ft.init.check _ _ _ _ _ _ _ _ hT hok (gi prog w A.in1 _ s1 hsi))) ?_;rintro (e | fl2) s2 hr2
     · exact hr2
     · cases fl2 with
       | ret r=>
         obtain ⟨rfl,hq⟩:=hr2;repeat (any_goals first | assumption | wp_step)
       | _=>exact hr2.elim
   | _=>exact hr.elim
theorem cZJ {T newId:String} {self:Value} {rest:List Value} {kw:List (Str×Value)} (hl:typeLookup (.type T) "__init__"=pure (some (.builtin "object.__init__")))
   (hm:Bind.madeBy (.type T)=pure (some newId)) (hne:(some newId != some "object.__new__")=true) :
   Meets (Builtin.«object.__init__» ⟨self::rest,kw⟩) (λ_ R s=>s.TypeIs self T/\R (.ok (.ret .none)) s):=by
 refine Meets.of_wp λprog w A R s hs=>?_;obtain ⟨hT,hq⟩:=hs;cases rest with
 | nil=>
   cases kw with
   | nil=>exact Al ⟨_,rfl,hq⟩
   | cons a r=>
     repeat (any_goals first | assumption | wp_step)
     exact ⟨_,rfl,hq⟩
 | cons a r=>
   repeat (any_goals first | assumption | wp_step)
   exact ⟨_,rfl,hq⟩
theorem vH {l:Addr} {its:Array Value} {k:Int} {t:Tok} {Q:Q0} (hk:Builtin.SmallTypes.fitsIndex k=true) (hL:s.heap.IsList l its)
   (h:∀ h',IsEnum h' (s.heap.objs.size+1) s.heap.objs.size k .none->h'.IsListIter s.heap.objs.size l 0->h'.objs.size=s.heap.objs.size+2->(∀ b o,s.heap.get? b=some o->h'.get? b=some o)->Q (.ref (s.heap.objs.size+1)) { s with heap:=h' }) :
   wpAny (model prog w) A (call (.type "enumerate") [.ref l] [("start",.int k t)]) Q E s:=by
 obtain ⟨⟨c,dc,dt,sl⟩,hl,hc,n,hd⟩:=hL;obtain rfl:c=.type "list" := hc;obtain rfl:dt=.seq its n:=hd;have hz:(s.heap.push { cls:=.type "list_iterator",data:=.fields #[.ref l,.int 0 0] }).objs.size=s.heap.objs.size+1:=Gu ..
 refine vW (Q1:=λo s1=>s1.TypeIs o "enumerate"/\Q o s1) F.called_enumerate (by kernel_rfl) (by kernel_rfl) F.entry_enumerate_new (aJ6 l its n dc sl k t hk) ⟨hl,?_⟩ λo s1 hq=>⟨hq.1,?_,_,cZJ F.called_enumerate.init.lookup F.called_enumerate.made (by decide),hq.1,rfl,hq.2⟩
 · show _/\_
   rw [hz];have he:IsEnum ((s.heap.push { cls:=.type "list_iterator",data:=.fields #[.ref l,.int 0 0] }).push ⟨.type "enumerate",none,.fields #[.none,.bool false,.ref s.heap.objs.size,rawInt k,.none,.none],#[]⟩) (s.heap.objs.size+1) s.heap.objs.size k .none:=by
     have q:=Ax (s.heap.push { cls:=.type "list_iterator",data:=.fields #[.ref l,.int 0 0] }) (o:=⟨.type "enumerate",none,.fields #[.none,.bool false,.ref s.heap.objs.size,rawInt k,.none,.none],#[]⟩) rfl
     rwa [hz] at q
   exact ⟨⟨_,he,rfl⟩,h _ he ⟨_,Af _ (Ax _ rfl),rfl,rfl⟩ (by rw [Gu,hz]) λb o x=>Af _ (Af _ x)⟩
 · unfold argsOk;rw [signature?_of (n:=['_','_','t','i','n','i','_','_']) (o := "tcejbo".toList) (by kernel_rfl) F.owner_object]
   kernel_rfl
end
theorem oJ {prog:Program} {w:World} {A:Around} {it:Addr} {fp:List Addr} {n:Nat} {P:Nat->Value->Prop} {S:Nat->Heap->Prop} (k:Nat) (D:Draws prog w A it fp n P S) :
   Draws prog w A it fp (k+n) (λj v=>P (j - k) v) (λj h=>k<=j/\S (j - k) h) where
 live:=λi h st=>D.live _ h st.2
 frame:=λi h h' st kk=>⟨st.1,D.frame _ h h' st.2 kk⟩
 item:=λi s Q E hi st hQ=>D.item (i - k) s Q E (by have:=st.1; omega) st.2 λx h' tk hP hS sb=>hQ x h' tk hP ⟨by have:=st.1; omega,by rw [show i+1 - k=i - k+1 by have:=st.1; omega]; exact hS⟩ sb
 done:=λs Q E st hE=>D.done s Q E (by have q:=st.2; rwa [show k+n - k=n by omega] at q) hE
section
variable {X:Cx} {pins:Q2} {σ:St} {H:Hp} {s:Shared} {h':Heap}
theorem Inv.turnLaid {ch:List Addr} {a:Addr} {o:HO} {t':Nat} (I:Inv X pins σ H s) (hch:∀ b ∈ ch,lB X pins H b) (k:∀ b u,b ∉ ch->s.heap.get? b=some u->h'.get? b=some u) (hp:s.heap.objs.size<=a)
   (new:ObjOk X.prog X.w (upd H a o) h' a o):Inv X pins σ (upd H a o) { s with heap:=h',toks:=t' }:=by
 have hn:=I.hok.fresh hp
 have nch:∀ b u,H b=some u->b ∉ ch:=λb u e z=>by rw [(hch b z).1] at e; cases e
 refine I.step (g':=s.gens) (d':=s.drawn) (ch:=ch) (λb hb=>?_) (λb o _ _ hc e _=>k b o hc e) (λb o _ _ hc e _=>⟨o.slots,k b o hc e⟩) (λb o _ e n=>?_) (λb o hc e=>⟨o,k b o hc e⟩)
   (λb xs e=>by rw [aK (bL e hn)]; exact e) (λb o u e=>by rw [aK (bL e hn)]; exact e) (λb ps e=>⟨#[],by rw [aK (bL e hn),e]; simp⟩) (λm hm=>?_) (λb u e=>?_) I.bare
 · obtain ⟨_,q1,_,q3,q4,q5⟩:=hch b hb;exact ⟨q3,q1,q4,q5⟩
 · rw [aK (Bi (Bh (Ar e) hp))];exact n
 · obtain ⟨ob,es,ep,ho,r⟩:=hm;exact ⟨ob,es,ep,k _ ob (λz=>(hch _ z).2.1 rfl) ho,r⟩
 · by_cases hb:b=a
   · subst hb;rw [aD] at e;cases e;exact new
   · rw [aK hb] at e;refine (I.hok b u e).stay (λc v hc q=>k c v ?_ q) (λc q=>by rw [aK (bL q hn)]; exact q) λc xs q=>by rw [aK (bL q hn)]; exact q
     rcases hc with z | z
     · rw [z]; exact nch b u e
     · exact nch c _ z
theorem Inv.turnAll {ch:List Addr} {t':Nat} (I:Inv X pins σ H s) (hch:∀ b ∈ ch,lB X pins H b) (k:∀ b u,b ∉ ch->s.heap.get? b=some u->h'.get? b=some u):Inv X pins σ H { s with heap:=h',toks:=t' }:=by
 have nch:∀ b u,H b=some u->b ∉ ch:=λb u e z=>by rw [(hch b z).1] at e; cases e
 refine I.step (g':=s.gens) (d':=s.drawn) (ch:=ch) (λb hb=>?_) (λb o _ _ hc e _=>k b o hc e) (λb o _ _ hc e _=>⟨o.slots,k b o hc e⟩) (λb o _ e n=>n) (λb o hc e=>⟨o,k b o hc e⟩)
   (λb xs e=>e) (λb o u e=>e) (λb ps e=>⟨#[],by rw [e]; simp⟩) (λm hm=>?_) (λb u e=>?_) I.bare
 · obtain ⟨_,q1,_,q3,q4,q5⟩:=hch b hb;exact ⟨q3,q1,q4,q5⟩
 · obtain ⟨ob,es,ep,ho,r⟩:=hm;exact ⟨ob,es,ep,k _ ob (λz=>(hch _ z).2.1 rfl) ho,r⟩
 · refine (I.hok b u e).stay (λc v hc q=>k c v ?_ q) (λc q=>q) λc xs q=>q;rcases hc with z | z
   · rw [z]; exact nch b u e
   · exact nch c _ z
end
def Ite (K:PySem.W.Frag) (a:Addr) (k:Nat):It :=
 ⟨λi H=>∃ xs x,SqL K H a xs/\xs[i]?=some x,λi H v H'=>∃ p x,H p=none/\v=.ref p/\H'=upd H p (.tup [.int ((k+i:Nat):Int),x])/\∀ xs,SqL K H a xs->xs[i]?=some x,λi H=>∃ xs,SqL K H a xs/\xs.length=i⟩
theorem bQW {P:Program} {w:World} {K:PySem.W.Frag} {elts:List Expr} {x1:Nat} {tp:Pos} (a e it:Addr) (k:Nat) (hei:e≠it) :
   Turn P w K (.Tuple elts x1 tp) (Ite K a k) [e,it] e (λi h=>(∃ old,IsEnum h e it ((k+i:Nat):Int) old)/\h.IsListIter it a i) where
 mem:=by simp
 obj:=λi h st b hb=>by
   obtain ⟨⟨old,he⟩,o,ho,c,d⟩:=st;rcases Bd.mp hb with z | z
   · subst z; exact ⟨_,he,λv z=>by cases z⟩
   · rw [Aw.mp z]; exact ⟨o,ho,λv z=>by rw [d] at z; cases z⟩
 keep:=λi h h' st kk=>⟨let ⟨old,he⟩:=st.1; ⟨old,kk e (by simp) _ he⟩,st.2.at λo q=>kk it (by simp) o q⟩
 item:=by
   intro X hP hw hK hc i pins s σ H E I hf st hg;subst hP hw hK;obtain ⟨xs,x,hq,hx⟩:=hg;obtain ⟨its,rv,p,hz⟩:=I.list hq;obtain ⟨u,hu,ru⟩:=rv.get hx;obtain ⟨⟨old,he⟩,hit⟩:=st;have hai:a≠it:=by
     rintro rfl;obtain ⟨o,ho,c,_⟩:=hit;obtain ⟨o2,ho2,c2,_⟩:=p.isList;rw [ho] at ho2; cases ho2;rw [c] at c2; injection c2 with c2; exact absurd c2 (by decide)
   have hae:a≠e:=by
     rintro rfl;obtain ⟨o2,ho2,c2,_⟩:=p.isList;rw [he] at ho2; cases ho2;injection c2 with c2; exact absurd c2 (by decide)
   have hl:=rv.length
   have hil:i<its.length:=(Ae.mp hu).1
   have D:=oJ k (Draws.list (prog:=X.prog) (w:=X.w) (A:=X.A.in1) (show X.A.in1.handled=none from I.ok.hd hc) it a hai its.toArray)
   refine wpAny_pyNext_enum_itemD D (i:=k+i) he ⟨Nat.le_add_right _ _,by rw [Gi]; exact ⟨hit,p.isList⟩⟩ (by rw [Bf]; omega) hei (λz=>by
     rcases Bd.mp z with z | z
     · exact hei z
     · exact hae (Aw.mp z).symm) λy h1 tk hP ho hS hT hsz kk=>?_
   refine ⟨_,rfl,wpAny_letOwnedTupleGo_enum ho λh2 he2 hs2=>?_⟩;have ey:y=u:=by
     have hP':its.toArray[k+i - k]?=some y:=hP
     rw [Gi] at hP';have:its[i]?=some y:=by simpa using hP'
     rw [hu] at this; cases this; rfl
   subst ey;have hTe:s.heap.objs.size≠e:=Gm (Ar he)
   have hTi:s.heap.objs.size≠it:=by obtain ⟨o,q,_⟩:=hit; exact Gm (Ar q)
   have hT2:h2.get? s.heap.objs.size=some { cls:=.type "tuple",data:=.seq #[.int ((k+i:Nat):Int) tk,y] }:=(hs2.2 _ hTe).trans hT
   have hS':h1.IsListIter it a (i+1):=by
     have q:=hS.2.1
     rwa [show k+i+1 - k=i+1 by omega] at q
   have I2:Inv X pins σ (upd H s.heap.objs.size (.tup [.int ((k+i:Nat):Int),x])) { s with heap:=h2,toks:=tk+1 }:=by
     refine I.turnLaid (ch:=[e,it]) hf (λb u hb q=>(hs2.2 b (λz=>hb (by simp [z]))).trans (kk b u (λz=>hb (by simp [z])) (λz=>hb (by simp [z])) q)) (Nat.le_refl _) ⟨bP (by show 2<=_; omega),[.int ((k+i:Nat):Int) tk,y],.cons ⟨tk,rfl⟩ (.cons ru .nil),_,hT2,rfl,_,rfl⟩
   refine ⟨.ref s.heap.objs.size,_,I2,rfl,⟨_,x,I.hok.fresh (Ah _),rfl,rfl,λys hy=>by rw [I.list_inj hy hq]; exact hx⟩,⟨⟨y,he2⟩,hS'.at λo q=>(hs2.2 it hei.symm).trans q⟩,λb hb=>?_⟩
   rcases Bd.mp hb with z | z
   · rw [z,aK hTe.symm]; exact (hf e (by simp)).1
   · rw [List.mem_singleton.mp z,aK hTi.symm]; exact (hf it (by simp)).1
 done:=by
   intro X hP hw hK hc i pins s σ H E I hf st hg;subst hP hw hK;obtain ⟨xs,hq,hx⟩:=hg;obtain ⟨its,rv,p,hz⟩:=I.list hq;obtain ⟨⟨old,he⟩,hit⟩:=st;have hl:=rv.length
   have hai:a≠it:=by
     rintro rfl;obtain ⟨o,ho,c,_⟩:=hit;obtain ⟨o2,ho2,c2,_⟩:=p.isList;rw [ho] at ho2; cases ho2;rw [c] at c2; injection c2 with c2; exact absurd c2 (by decide)
   have D:=oJ k (Draws.list (prog:=X.prog) (w:=X.w) (A:=X.A.in1) (show X.A.in1.handled=none from I.ok.hd hc) it a hai its.toArray)
   refine wpAny_pyNext_enum_endD D he ⟨Nat.le_add_right _ _,by rw [Gi,Bf,<-hl,hx]; exact ⟨hit,p.isList⟩⟩ λh' eb=>⟨rfl,?_⟩
   exact I.turnAll (t':=s.toks) (ch:=[e,it]) hf λb u hb q=>eb b u (λz=>hb (by simp [z])) q
 self:=λ_ _ _ _ _ st h=>let ⟨⟨_,he⟩,_⟩:=st; wpAny_pyIter_enum he h
section
variable {X:Cx} {l:Expr} {ta tk:TA} {kws:List Keyword} {elts:List Expr} {x1:Nat} {tp p pos kp:Pos}
def aXC (R:Addr->Hp->Prop):List V->Hp->Prop:=λvs H=>match vs with | [.ref j]=>R j H | _=>False
theorem aX0 {R:Addr->Hp->Prop} {vs:List V} {H:Hp} (q:aXC R vs H):∃ j,vs=[.ref j]/\R j H:=by
 unfold aXC at q;split at q
 · exact ⟨_,rfl,q⟩
 · exact q.elim
def cJ6 (K:PySem.W.Frag) (ta:TA):TI:=λσ H R=>ta σ H (aXC λa H1=>onL (rdL H1 a) (R (Ite K a 0) H1))
def cQA (K:PySem.W.Frag) (ta tk:TA):TI:=λσ H R=>ta σ H (aXC λa H1=>tk σ H1 (aXG λk H2=>(0<=k/\k<2 ^ 62)/\onL (rdL H2 a) (R (Ite K a k.toNat) H2)))
theorem aZ3 {pins:Q2} {σ:St} {H1:Hp} {s1:Shared} {a:Addr} {k:Nat} {h':Heap} {R:It->Hp->Prop} {E:Q0} (I1:Inv X pins σ H1 s1) (he:IsEnum h' (s1.heap.objs.size+1) s1.heap.objs.size ((k:Nat):Int) .none) (hi:h'.IsListIter s1.heap.objs.size a 0) (hz:h'.objs.size=s1.heap.objs.size+2)
   (hk:∀ b o,s1.heap.get? b=some o->h'.get? b=some o) (q:R (Ite X.K a k) H1):wpAny (model X.prog X.w) X.A (pyIter (.ref (s1.heap.objs.size+1))) (PIE X pins σ (.Tuple elts x1 tp) R) E { s1 with heap:=h' }:=by
 refine wpAny_pyIter_enum (s:={ s1 with heap:=h' }) he ⟨_,[s1.heap.objs.size+1,s1.heap.objs.size],_,_,H1,rfl,I1.kept (t':=s1.toks) hk,bQW a _ _ k (Nat.succ_ne_self _),⟨⟨_,he⟩,hi⟩,λb hb=>?_,q⟩
 have z:s1.heap.objs.size<=b:=by
   rcases Bd.mp hb with z | z
   · rw [z]; exact Gj _
   · rw [Aw.mp z]; exact Ah _
 exact I1.fpOk z (I1.hok.fresh z)
theorem uY (hg:Gl X "enumerate") (hm:X.mg "enumerate"=none) (ha:PA X [l] ta) (hs:starEach [l] X.env=[(false,eval l X.env)]:=by rfl) :
   PI X (.Tuple elts x1 tp) (.Call (.Name "enumerate" p) [l] [] pos) (cJ6 X.K ta):=by
 intro pins s σ H R I h;refine Call_ (jQ I hg hm boot_enumerate (Cv (thn (ha pos pins s σ H _ I h) λus s1 ⟨vs,H1,I1,r1,q1⟩=>?_) hs rfl));obtain ⟨a,rfl,q⟩:=aX0 q1;obtain ⟨u,rfl,ru⟩:=fF r1;cases ru;unfold onL at q;split at q
 · rename_i xs ex
   obtain ⟨its,rv,p,hz⟩:=I1.list (aR ex);exact call_enumerate_list p.isList λh' he hi hz hk=>aZ3 I1 (k:=0) he hi hz hk q
 · exact q.elim
theorem uJ {M:Model} {A:Around} {E:Q0} {s:Shared} {T:String} {args:List (Bool×Sem Value)} {kw:List (Option Str×Sem Value)} {Q:Q0}
   (h1:args.any (·.1)=false) (h2:kw.any (·.1.isNone)=false) (h:wpAny M A (evalArgs (.type T) true args kw) (λa s1=>wpAny M A (call (.type T) a.pos a.kw) Q E s1) E s):wpAny M A (callWith pos (.type T) [] args kw) Q E s:=by
 unfold callWith;refine Ad (Bx (Ce h (λa s1 q1=>Ad (Fk ?_)) λ_ _ x=>x));rw [h1,h2];exact Ad (Al (Ad (Ce q1 (λr s2 hr=>Ad (Bx (wpAny_point (Al hr)))) λ_ _ x=>x)))
theorem bJB {kx:Expr} (hg:Gl X "enumerate") (hm:X.mg "enumerate"=none) (ha:PA X [l] ta) (hk:PK X [⟨some "start",kx,kp⟩] tk) (hs:starEach [l] X.env=[(false,eval l X.env)]:=by rfl)
   (hks:keywordEach [⟨some "start",kx,kp⟩] X.env=[(some ("start" : Str),eval kx X.env)]:=by rfl) :
   PI X (.Tuple elts x1 tp) (.Call (.Name "enumerate" p) [l] [⟨some "start",kx,kp⟩] pos) (cQA X.K ta tk):=by
 intro pins s σ H R I h;have hs2:backTo pos (starEach [l] X.env)=[(false,eval l X.env)]:=by rw [hs]; rfl
 refine Er (jQ I hg hm boot_enumerate (uJ (by rw [hs2]; rfl) (by rw [hks]; rfl) ?_))
 rw [hs2];refine evalArgs_kwB (by rw [hks]; rfl) ?_
 rw [<-hs2];refine thn (ha pos pins s σ H _ I h) λus s1 ⟨vs,H1,I1,r1,q1⟩=>?_;obtain ⟨a,rfl,q⟩:=aX0 q1;refine thn (hk pos pins s1 σ H1 _ I1 q) λws s2 ⟨zs,H2,I2,r2,q2⟩=>?_;obtain ⟨k,rfl,⟨k0,k1⟩,q⟩:=aX8 q2;obtain ⟨u,rfl,ru⟩:=fF r1;cases ru;obtain ⟨u,rfl,t,rfl⟩:=fF r2;unfold onL at q;split at q
 · rename_i xs ex
   obtain ⟨its,rv,p,hz⟩:=I2.list (aR ex);have e:(backToKw pos (keywordEach [⟨some "start",kx,kp⟩] X.env)).filterMap (·.1)=(["start"]:List Str):=by rw [hks]; rfl
   rw [e];refine vH (by unfold Builtin.SmallTypes.fitsIndex; rw [An (by omega),An (by omega)]; rfl) p.isList λh' he hi hz hk=>aZ3 I2 (k:=k.toNat) ?_ hi hz hk q
   rw [show ((k.toNat:Nat):Int)=k by omega]
   exact he
 · exact q.elim
end
section
variable {K:PySem.W.Frag} {a:Addr} {k:Nat} {xs:List V} {g:TG} {tb:TS} {D:Ends} {σ σ0:St} {H H1:Hp} {tests:TT} {te:TE} {Q:VK}
theorem aZL (Pv:Nat->St->Hp->Prop) (h0:Pv 0 σ H) (hl:∀ i σ H,i<=xs.length->Pv i σ H->rdL H a=some xs)
   (hs:∀ i x σ H p,xs[i]?=some x->Pv i σ H->H p=none->g (.ref p) σ (upd H p (.tup [.int ((k+i:Nat):Int),x])) λσ2 H2=>tb { D with nx:=Pv (i+1),ct:=Pv (i+1),bk:=D.nx } σ2 H2) (hd:∀ σ H,Pv xs.length σ H->D.nx σ H):vI (Ite K a k) g tb D σ H:=by
 refine ⟨λi m σ H=>m=xs.length - i/\i<=xs.length/\Pv i σ H,⟨xs.length,by simp,Nat.zero_le _,h0⟩,?_⟩
 rintro i m σ H ⟨rfl,hi,p⟩;have hr:=hl i σ H hi p
 by_cases hlt:i<xs.length
 · refine .inr ⟨⟨xs,xs[i],aR hr,by simp [hlt]⟩,Pv (i+1),λσ' H' p'=>⟨xs.length - (i+1),by omega,rfl,hlt,p'⟩,λx H' y=>?_⟩
   obtain ⟨q,z,hq,rfl,rfl,hz⟩:=y;exact hs i z σ H q (hz xs (aR hr)) p hq
 · have e:i=xs.length:=by omega
   subst e;exact .inl ⟨⟨xs,aR hr,rfl⟩,hd σ H p⟩
theorem cXV (f:Nat->V->Option V) (ha:rdL H1 a=some xs) (hl:xs.length<sizeLine)
   (hs:∀ (i:Nat) x Hc p (A:VK) (B:Hp->Prop),xs[i]?=some x->Same H1 Hc->Hc p=none->(∀ Hd,Same (upd Hc p (.tup [.int ((k+i:Nat):Int),x])) Hd->match f i x with | some y=>A y Hd | none=>B Hd)->
     g (.ref p) σ0 (upd Hc p (.tup [.int ((k+i:Nat):Int),x])) λσ2 H2=>Wk σ0 σ2/\tests σ2 H2 λb H3=>if b=true then te σ2 H3 A else B H3)
   (fin:∀ D Hd,H1 D=none->Same H1 Hd->rdL Hd D=some ((List.range xs.length).filterMap λi=>f i (xs.getD i .non))->Q (.ref D) Hd):eQ g tests te σ0 Q (Ite K a k) H1:=by
 intro D hD;refine ⟨λi m Hc=>m=xs.length - i/\i<=xs.length/\Same H1 Hc/\Hc D=some (.lst ((List.range i).filterMap λi=>f i (xs.getD i .non))),⟨xs.length,by simp,Nat.zero_le _,aF hD _,by rw [aD]; rfl⟩,?_⟩
 rintro i m Hc ⟨rfl,hi,sm,hDc⟩;have hr:=aH sm ha
 by_cases hlt:i<xs.length
 · refine .inr ⟨⟨xs,xs[i],aR hr,by simp [hlt]⟩,λv H' y=>?_⟩
   obtain ⟨q,z,hq,rfl,rfl,hz⟩:=y;have hx:=hz xs (aR hr)
   have hg:xs.getD i .non=z:=by rw [Ac,hx]; rfl
   refine hs i z Hc q _ _ hx sm hq λHd sd=>?_;have hDd:Hd D=some (.lst ((List.range i).filterMap λi=>f i (xs.getD i .non))):=sd _ _ (aF hq _ _ _ hDc)
   have sH:Same H1 Hd:=sm.trans ((aF hq _).trans sd)
   cases e:f i z with
   | some y=>
     refine ⟨_,hDd,?_,xs.length - (i+1),by omega,rfl,hlt,λb o hb=>?_,?_⟩
     · have:=Dj (λi=>f i (xs.getD i .non)) (List.range i)
       rw [Bz] at this;omega
     · rw [aK (bL hb hD)]; exact sH b o hb
     · rw [aD,Ci,Cj,Dm (b:=y) (by rw [hg,e]),Do]
   | none=>
     refine ⟨xs.length - (i+1),by omega,rfl,hlt,sH,?_⟩
     rw [hDd,Ci,Cj,Ed (by rw [hg,e]),Do,Br]
 · have e:i=xs.length:=by omega
   subst e;exact .inl ⟨⟨xs,aR hr,rfl⟩,fin D Hc hD sm (aL hDc)⟩
theorem cXS {ta:TA} {R:It->Hp->Prop} (h:ta σ H (aXC λa H1=>onL (rdL H1 a) (R (Ite K a 0) H1))):cJ6 K ta σ H R:=h
theorem bJF {ta tk:TA} {R:It->Hp->Prop} (h:ta σ H (aXC λa H1=>tk σ H1 (aXG λk H2=>(0<=k/\k<2 ^ 62)/\onL (rdL H2 a) (R (Ite K a k.toNat) H2)))):cQA K ta tk σ H R:=h
theorem dXD {R:Addr->Hp->Prop} (h:R a H):aXC R [.ref a] H:=h
end
section
variable {X:Cx}
end
section
variable {K:PySem.W.Frag} {n:Nat} {t:TG} {u:TGs} {v:V} {r xs:List V} {σ:St} {H:Hp} {Q:St->Hp->Prop} {a:Addr}
theorem dXS (e:pM H a=some xs) (hn:xs.length=n) (h:u xs σ H Q):dQ9 K n u (.ref a) σ H Q:=⟨a,xs,rfl,.of (oZ e),hn,h⟩
theorem cZG (h:t v σ H λσ' H'=>u r σ' H' Q):aXN t u (v::r) σ H Q:=⟨v,r,rfl,h⟩
theorem dJI (h:Q σ H):dZZ [] σ H Q:=⟨rfl,h⟩
end
theorem kX {X:Cx} {K:PySem.W.Frag} {i j k:Nat} {x y:Str} {px py pos:Pos} (hK:X.K=K) (hc:X.calm=true) (hN:X.N.Nodup) (hi:X.N[i]?=some x) (hx:Loc X.env.scope x) (hfx:X.fn x=true\/X.env.scope.names.lookup x=some .local)
   (hj:X.N[j]?=some y) (hy:Loc X.env.scope y) (hfy:X.fn y=true\/X.env.scope.names.lookup y=some .local):PG X (.Tuple [.Name x px,.Name y py] k pos) (dQ9 K 2 (aXN (qS i) (aXN (qS j) dZZ))):=by
 subst hK;exact bJX hc (fK (aO hN hi hx hfx) (fK (aO hN hj hy hfy) uR))
end L2
set_option maxHeartbeats 4000000
namespace L2
open PySem PySem.Spec PyProof.Rows
structure Fly (B:Heap) (l:List Env) (e:Addr) (cls:Value) (d:Option Addr) (fl:Value) (h:Heap):Prop where
 stays:B.StaysIn h
 new:B.get? e=none
 frames:h.FunFrames B l
 on:∃ oe vs T oT ts,h.get? e=some oe/\(oe.cls=cls/\oe.dict=d)/\oe.data=.fields vs/\vs[1]?=some (.ref T)/\B.get? T=none/\T≠e/\h.get? T=some oT/\oT.data=.fields ts/\ts[3]?=some fl/\vs[2]?=some .none
theorem yZ (o:Obj) (f:Array Value->Array Value):(o.mapFields f).dict=o.dict:=by
 obtain ⟨c,d,dt,sl⟩:=o;cases dt <;> rfl
theorem sW {h:Heap} {a:Addr} {o:Obj} {vs:Array Value} {f:Obj->Obj} (ha:h.get? a=some o) (hd:o.data=.fields vs):∀ b u,h.get? b=some u->(∀ ws,u.data≠.fields ws)->(h.update a f).get? b=some u:=λb u e n=>by
 rw [Cm _ _ (λz:a=b=>by rw [<-z,ha] at e; cases e; exact n vs hd)]
 exact e
section
variable {M:Model} {A:Around} {E:Q0} {s:Shared} {B:Heap} {env:Env} {outer l:List Env} {L e:Addr} {cls:Value} {d:Option Addr} {Q:Unit->Shared->Prop}
theorem tU {oe:Obj} {vs:Array Value} {head:Value} {nx:Bool} (hfr:A.frames=some (env::outer)) (hl:s.heap.FunFrames B (env::outer)) (hf:env.frame=some L) (hB:B.StaysIn s.heap) (hn:B.get? e=none)
   (he:s.heap.get? e=some oe) (hd:oe.data=.fields vs) (h1:1<vs.size) (c2:vs[2]?=some .none) (hQ:∀ h',Fly B (env::outer) e oe.cls oe.dict (rawInt L) h'->s.heap.UpToSlots h'->Q () { s with heap:=h' }) :
   wpAny M A (do let a <-frameOf env; let pl <-entryPlaceOf L nx; let b <-EntryCells.newEntry head a .none (rawInt L) .none pl; setField (.ref e) 1 b) Q E s:=by
 have ne:e ∉ (env::outer).filterMap (·.frame):=λhm=>by
   obtain ⟨_,o,ho,nf⟩:=hl.mem hm;rw [he] at ho; cases ho;exact nf vs hd
 refine Ad (wpAny_frameOf_fun hfr hl hf λg1 so=>Ad (wpAny_entryPlaceOf λpl hpl=>?_));have e1:g1.get? e=some oe:=(so.2.1 e ne).trans he
 have b1:B.StaysIn g1:=λb o q=>(so.2.1 b λhm=>by rw [(hl.mem hm).1] at q; cases q).trans (hB b o q)
 unfold EntryCells.newEntry newFields;refine Ad (Gr ?_ (hpl.sizeOk5 _ _ _ _ _));generalize hts:(([head,.ref L,.none,rawInt L,.none]++(if pl.isEmpty then List.replicate 6 Value.none else pl):List Value)).toArray=ts
 have t3:ts[3]?=some (rawInt L):=by rw [<-hts]; simp
 have e2:=Af (h:=g1) ⟨.type "traceback",none,.fields ts,#[]⟩ e1
 refine wpAny_setField e2 hd h1 (hQ _ ?_ ?_)
 · have te:g1.objs.size≠e:=Gm (Ar e1)
   have dm:=Obj.data_mapFields hd (·.setIfInBounds 1 (Value.ref g1.objs.size))
   refine ⟨λb o q=>?_,hn,hl.of_keeps λb o q nf=>?_,_,_,g1.objs.size,⟨.type "traceback",none,.fields ts,#[]⟩,ts,Heap.get?_update_self _ e2 (Obj.isFreed_of_fields dm),⟨Obj.cls_mapFields _ _,yZ _ _⟩,dm,by simp [h1],b1.fresh,te,?_,rfl,t3,(Array.getElem?_setIfInBounds_ne (by decide)).trans c2⟩
   · rw [Cm _ _ (λz:e=b=>by rw [<-z,hn] at q; cases q)]
     exact Af _ (b1 b o q)
   · obtain ⟨sl,q1⟩:=so.2.2 b o q;exact ⟨_,sW e2 hd b _ (Af _ q1) nf,rfl⟩
   · rw [Cm _ _ te.symm];exact Ax g1 rfl
 · intro b o q nf;obtain ⟨sl,q1⟩:=so.2.2 b o q;exact ⟨sl,sW e2 hd b _ (Af _ q1) nf⟩
theorem bQN {oe:Obj} {vs:Array Value} (hfr:A.frames=some (env::outer)) (hl:s.heap.FunFrames B (env::outer)) (hf:env.frame=some L) (hB:B.StaysIn s.heap) (hn:B.get? e=none)
   (he:s.heap.get? e=some oe) (hd:oe.data=.fields vs) (h1:vs[1]?=some .none) (c2:vs[2]?=some .none) (hQ:∀ h',Fly B (env::outer) e oe.cls oe.dict (rawInt L) h'->s.heap.UpToSlots h'->Q () { s with heap:=h' }):wpAny M A (noteFrame (.ref e) env) Q E s:=by
 unfold noteFrame;simp only [hf];refine Ad (Ft he hd h1 ?_);rw [if_neg (show ¬ ((Value.none != Value.none)=true) by decide)]
 exact tU hfr hl hf hB hn he hd (Cy.mp h1).1 c2 hQ
theorem rH (hfr:A.frames=some (env::outer)) (hf:env.frame=some L) (F:Fly B (env::outer) e cls d .none s.heap) (hQ:∀ h',Fly B (env::outer) e cls d (rawInt L) h'->s.heap.UpToSlots h'->Q () { s with heap:=h' }) :
   wpAny M A (noteFrame (.ref e) env) Q E s:=by
 obtain ⟨hB,hn,hl,oe,vs,T,oT,ts,he,⟨rfl,rfl⟩,hd,h1,hT,hTe,gT,dT,t3,c2⟩:=F;unfold noteFrame;simp only [hf];refine Ad (Ft he hd h1 ?_);rw [if_pos (show (Value.ref T != Value.none)=true by simp)]
 refine Ad (Ft gT dT t3 ?_);rw [if_neg (show ¬ ((Value.none == rawInt L)=true) by simp [rawInt])]
 refine Ad (wpAny_setField gT dT (Cy.mp t3).1 ?_);have keep:∀ b,b≠T->(s.heap.update T (Obj.mapFields (·.setIfInBounds 3 Value.none))).get? b=s.heap.get? b:=λb hb=>Cm _ _ (Ne.symm hb)
 refine tU (s:={ s with heap:=s.heap.update T (Obj.mapFields (·.setIfInBounds 3 Value.none)) }) hfr (hl.of_keeps λb o q nf=>⟨o,sW gT dT b o q nf,rfl⟩) hf
   (λb o q=>(keep b λz=>by rw [z,hT] at q; cases q).trans (hB b o q)) hn ((keep e hTe.symm).trans he) hd (Cy.mp h1).1 c2 λh' F' up=>hQ h' F' λb o q nf=>up b o (sW gT dT b o q nf) nf
theorem fY {fl:Value} (F:Fly B l e cls d fl s.heap) (hQ:∀ h',Fly B l e cls d .none h'->s.heap.UpToSlots h'->Q () { s with heap:=h' }):wpAny M A (setFlight (.ref e) none) Q E s:=by
 obtain ⟨hB,hn,hl,oe,vs,T,oT,ts,he,hc,hd,h1,hT,hTe,gT,dT,t3,c2⟩:=F;have z3:3<ts.size:=(Cy.mp t3).1
 unfold setFlight;refine Ad (Ft he hd h1 ?_);rw [if_pos (show (Value.ref T != Value.none)=true by simp)]
 refine wpAny_setField gT dT z3 (hQ _ ?_ λb o q nf=>⟨o.slots,sW gT dT b o q nf⟩);have dm:=Obj.data_mapFields dT (·.setIfInBounds 3 Value.none)
 refine ⟨λb o q=>?_,hn,hl.of_keeps λb o q nf=>⟨o,sW gT dT b o q nf,rfl⟩,oe,vs,T,_,_,?_,hc,hd,h1,hT,hTe,Heap.get?_update_self _ gT (Obj.isFreed_of_fields dm),dm,by simp [z3],c2⟩
 · rw [Cm _ _ (λz:T=b=>by rw [<-z,hT] at q; cases q)]
   exact hB b o q
 · rw [Cm _ _ hTe];exact he
theorem Fly.less {fl:Value} {h:Heap} (F:Fly B (env::outer) e cls d fl h):Fly B outer e cls d fl h:=⟨F.stays,F.new,F.frames.2.2,F.on⟩
theorem zX {oe:Obj} {vs:Array Value} (hfr:A.frames=some (env::outer)) (hl:s.heap.FunFrames B (env::outer)) (hf:env.frame=some L) (hB:B.StaysIn s.heap) (hn:B.get? e=none)
   (he:s.heap.get? e=some oe) (hd:oe.data=.fields vs) (h1:vs[1]?=some .none) (c2:vs[2]?=some .none) (hQ:∀ h',Fly B outer e oe.cls oe.dict .none h'->s.heap.UpToSlots h'->Q () { s with heap:=h' }):wpAny M A (leaving env (.ref e)) Q E s:=by
 unfold leaving;exact Ad (bQN hfr hl hf hB hn he hd h1 c2 λh1 F1 u1=>fY (s:={ s with heap:=h1 }) F1 λh2 F2 u2=>hQ h2 F2.less (u1.trans u2))
theorem aJ4 (hfr:A.frames=some (env::outer)) (hf:env.frame=some L) (F:Fly B (env::outer) e cls d .none s.heap) (hQ:∀ h',Fly B outer e cls d .none h'->s.heap.UpToSlots h'->Q () { s with heap:=h' }):wpAny M A (leaving env (.ref e)) Q E s:=by
 unfold leaving;exact Ad (rH hfr hf F λh1 F1 u1=>fY (s:={ s with heap:=h1 }) F1 λh2 F2 u2=>hQ h2 F2.less (u1.trans u2))
end
end L2
set_option maxHeartbeats 4000000
namespace L2
open PySem PySem.Spec PyProof.Rows
structure UnB (fs:List Addr) (H H':Hp) (h B h':Heap):Prop where
 keep:∀ b o,h.get? b=some o->H b=none->b ∉ fs->B.get? b=some o
 slot:∀ b o,h.get? b=some o->H b=none->b∈fs->∃ sl,h'.get? b=some { o with slots:=sl }
 free:∀ b o,h.get? b=some o->H b=none->H' b=none
 there:∀ b o,h.get? b=some o->b ∉ fs->∃ o',B.get? b=some o'
 tups:∀ b xs,H b=some (.tup xs)->H' b=some (.tup xs)
 frzs:∀ b o u,H b=some (.frz o u)->H' b=some (.frz o u)
 tbls:∀ b ps,H b=some (.tbl ps)->∃ more,H' b=some (.tbl (ps++more))
def CXr (P:Program) (w:World):CXT:=λouter H s E e s'=>
 ∃ (ea:Addr) (cls:Value) (d:Option Addr) (B:Heap) (H':Hp),e=.ref ea/\s'.os=s.os/\AllBare s'.gens/\Fly B outer ea cls d .none s'.heap/\HOk P w H' B/\UnB (frs outer) H H' s.heap B s'.heap/\E cls d H'
theorem HOk.down {P:Program} {w:World} {H:Hp} {h B:Heap} (x:HOk P w H h) (k:∀ b o u,H b=some u->h.get? b=some o->B.get? b=some o):HOk P w H B:=λa u e=>
 (x a u e).stay (λb o hb q=>by
   rcases hb with z | z
   · subst z; exact k b o u e q
   · exact k b o _ z q) (λ_ q=>q) λ_ _ q=>q
theorem ObjOk.get {P:Program} {w:World} {H:Hp} {h:Heap} {a:Addr} {o:HO} (x:ObjOk P w H h a o):∃ ob,h.get? a=some ob:=by
 cases o with
 | lst xs=>obtain ⟨_,_,_,_,e⟩:=x; exact ⟨_,e⟩
 | tup xs=>obtain ⟨_,_,_,ob,e,_⟩:=x; exact ⟨_,e⟩
 | dK kvs=>obtain ⟨_,_,_,_,ob,_,_,e,_⟩:=x; exact ⟨_,e⟩
 | dT kvs=>obtain ⟨_,_,_,_,ob,_,_,e,_⟩:=x; exact ⟨_,e⟩
 | set S n=>obtain ⟨ob,_,_,_,e,_⟩:=x; exact ⟨_,e⟩
 | ins C dx fs=>obtain ⟨_,_,_,e,_⟩:=x; exact ⟨_,e⟩
 | own y=>exact x
 | xd fs=>obtain ⟨_,⟨od,_,_,e,_⟩,_⟩:=x; exact ⟨_,e⟩
 | rng lo hi=>obtain ⟨_,_,_,e⟩:=x; exact ⟨_,e⟩
 | frz ob u=>exact ⟨_,x.1⟩
 | tbl ps=>exact ⟨_,x⟩
 | met f y=>exact ⟨_,x⟩
 | ext φ=>exact x.2.1
theorem HOk.hole {P:Program} {w:World} {H:Hp} {h:Heap} {a:Addr} (x:HOk P w H h) (e:h.get? a=none):H a=none:=by
 cases q:H a with
 | none=>rfl
 | some o=>
   obtain ⟨ob,z⟩:=(x a o q).get;rw [e] at z;cases z
theorem iJ {env:Env} {outer:List Env} {L b:Addr} (hf:env.frame=some L) (h1:b≠L) (h2:b ∉ frs outer):b ∉ frs (env::outer):=λhm=>by
 obtain ⟨e,he,q⟩:=Dn.mp hm;rcases Bd.mp he with z | z
 · subst z;rw [hf] at q;exact h1 (Bo q).symm
 · exact h2 (Dn.mpr ⟨e,z,q⟩)
section
variable {P:Program} {w:World} {K:PySem.W.Frag} {mg:Q4} {base:Heap} {N:List Str} {qual:Str} {scope:Scope} {f:Addr} {cd:Value} {A:Around} {outer:List Env} {s₀:Shared} {H₀:Hp} {E:XK}
 {pins:Q2} {σ:St} {H:Hp} {s:Shared}
theorem uP {ea:Addr} {oe:Obj} {vs:Array Value} (I:Inv (gX (CXr P w) P w K mg base N qual scope f cd A outer s₀ H₀ E) pins σ H s) (he:s.heap.get? ea=some oe) (hd:oe.data=.fields vs) (h1:vs[1]?=some .none) (c2:vs[2]?=some .none) (hn:H ea=none) (h0:s₀.heap.get? ea=none)
   (q:E oe.cls oe.dict H):(gX (CXr P w) P w K mg base N qual scope f cd A outer s₀ H₀ E).xe (.ref ea) s:=by
 have hfr:=I.ok.frames
 have hst:=I.stack
 have hsf:=I.stkFree
 have hbase:=I.base
 have hlo:∀ b o,s₀.heap.get? b=some o->b≠s₀.heap.objs.size:=λb o e=>Bi (Ar e)
 have nea:∀ b o,s₀.heap.get? b=some o->b≠ea:=λb o e z=>by rw [z,h0] at e; cases e
 have hid:∀ b o,s.heap.get? b=some o->b≠ea->b ∉ frs (envOfC qual scope s₀.heap.objs.size f cd::outer)->(PySem.W.hideAll s.heap (ea::frs (envOfC qual scope s₀.heap.objs.size f cd::outer))).get? b=some o:=λb o e n1 n2=>
   PySem.W.hideAll_get _ e λhm=>(Bd.mp hm).elim n1 n2
 refine zX (B:=PySem.W.hideAll s.heap (ea::frs (envOfC qual scope s₀.heap.objs.size f cd::outer))) hfr (PySem.W.funFrames_hide hst λenv he b hb=>Ao _ (Dn.mpr ⟨env,he,hb⟩)) rfl (λb o q=>PySem.W.of_hideAll _ q)
   (PySem.W.hideAll_none _ As) he hd h1 c2 λh2 fl up=>?_
 refine ⟨ea,_,_,_,H,rfl,I.os,I.bare,fl,I.hok.down λb o u e g=>hid b o g (λz=>by rw [z,hn] at e; cases e) λhm=>?_,⟨λb o e n hb=>?_,λb o e n hb=>?_,λb o e n=>hbase.free b o e n (by simp [gX]),λb o e hb=>?_,hbase.tups,hbase.frzs,hbase.tbls⟩,q⟩
 · rw [hsf b hm] at e;cases e
 · exact hid b o (hbase.keep b o e n hb (by simp [gX])) (nea b o e) (iJ rfl (hlo b o e) hb)
 · obtain ⟨sl,q1⟩:=hbase.slot b o e n hb (by simp [gX])
   obtain ⟨_,o2,g2,nf⟩:=I.ok.funs.mem hb;have e2:s₀.heap.get? b=some o2:=g2
   rw [e] at e2;cases e2;obtain ⟨sl2,q2⟩:=up b _ q1 nf;exact ⟨sl2,q2⟩
 · obtain ⟨o',q1⟩:=hbase.there b o e (by simp [gX])
   exact ⟨o',hid b o' q1 (nea b o e) (iJ rfl (hlo b o e) hb)⟩
theorem kU:nL (CXr P w) (gX (CXr P w) P w K mg base N qual scope f cd A outer s₀ H₀ E) E:=by
 intro pins σ H s e s' I h;obtain ⟨ea,cls,d,B,H',rfl,os,bare,fl,hok,un,q⟩:=h;have hbase:=I.base
 have hlo:∀ b o,s₀.heap.get? b=some o->b≠s₀.heap.objs.size:=λb o e=>Bi (Ar e)
 refine aJ4 I.ok.frames rfl fl λh2 fl2 up=>?_;have ns:∀ b o,s₀.heap.get? b=some o->b ∉ frs outer->b ∉ frs (envOfC qual scope s₀.heap.objs.size f cd::outer):=λb o e hb=>iJ rfl (hlo b o e) hb
 have ins:∀ b,b∈frs outer->b∈frs (envOfC qual scope s₀.heap.objs.size f cd::outer):=λb hb=>by
   obtain ⟨e,he,q⟩:=Dn.mp hb;exact Dn.mpr ⟨e,Ao _ he,q⟩
 refine ⟨ea,cls,d,B,H',rfl,os.trans I.os,bare,fl2,hok,⟨λb o e n hb=>?_,λb o e n hb=>?_,λb o e n=>?_,λb o e hb=>?_,λb xs e=>un.tups b xs (hbase.tups b xs e),λb o u e=>un.frzs b o u (hbase.frzs b o u e),λb ps e=>?_⟩,q⟩
 · exact un.keep b o (hbase.keep b o e n hb (by simp [gX])) (hbase.free b o e n (by simp [gX])) (ns b o e hb)
 · obtain ⟨sl,q1⟩:=hbase.slot b o e n hb (by simp [gX])
   obtain ⟨sl1,q2⟩:=un.slot b _ q1 (hbase.free b o e n (by simp [gX])) (ins b hb)
   obtain ⟨_,o2,g2,nf⟩:=I.ok.funs.mem hb;have e2:s₀.heap.get? b=some o2:=g2
   rw [e] at e2;cases e2;obtain ⟨sl2,q3⟩:=up b _ q2 nf;exact ⟨sl2,q3⟩
 · obtain ⟨o',q1⟩:=hbase.there b o e (by simp [gX])
   exact un.free b o' q1 (hbase.free b o e n (by simp [gX]))
 · obtain ⟨o',q1⟩:=hbase.there b o e (by simp [gX])
   exact un.there b o' q1 (ns b o e hb)
 · obtain ⟨m1,e1⟩:=hbase.tbls b ps e;obtain ⟨m2,e2⟩:=un.tbls b _ e1;exact ⟨m1++m2,by rw [e2,Array.append_assoc]⟩
end
theorem cXC {K:PySem.W.Frag} {h:Heap} {C:Addr} {bmB:List Value} {newId:String} (X:K.In h) (q:PySem.W.excIn K C bmB newId=true) :
   ∃ bm N nm qn bs hd sn sub ab col dd k0 k1 k2 k3 k5 mN,h.get? C=some (excClassObj nm qn C N bs bm hd sn sub ab col dd k0 k1 k2 k3 k5 newId)/\h.Ns N mN/\mN "__init__"=none/\OwnTail h bmB bm:=by
 unfold PySem.W.excIn at q;split at q
 · rename_i dd c sl ho
   split at q
   · rename_i C1 bm k0 k1 k2 k3 n k5 hm hs
     obtain ⟨⟨⟨⟨⟨q1,q2⟩,q3⟩,q4⟩,q5⟩,q6⟩:((((C1=C/\n=newId)/\c.hasDel=false)/\PySem.W.tailIn K bmB bm=true)/\PySem.W.nsOkIn K c.ns=true)/\PySem.W.nsIn K c.ns "__init__"=some none:=by
       simpa only [Bool.and_eq_true,beq_iff_eq,Bool.not_eq_true'] using q
     subst q1 q2;obtain ⟨nm,bs,mro,ns,qn,hd,sn,sub,ab,col,del⟩:=c;dsimp only at hm q3 q5 q6;subst hm q3;obtain rfl:sl=#[k0,k1,k2,k3,some (.builtin n),k5]:=by
       obtain ⟨l⟩:=sl;have hs':l=_:=hs
       rw [hs']
     exact ⟨bm,ns,nm,qn,bs,hd,sn,sub,ab,col,dd,k0,k1,k2,k3,k5,_,X _ _ ho,.of_isNs (PySem.W.isNs_of_in X q5),PySem.W.nsMap_none_of_in X q5 q6,PySem.W.tail_of_in X q4⟩
   · cases q
 · cases q
def dZB (X:Cx) (E:XK):Prop:=∀ (pins:List (Addr×Obj)) (σ:St) (H:Hp) (s:Shared) (ea:Addr) (oe:Obj) (vs:Array Value),Inv X pins σ H s->s.heap.get? ea=some oe->oe.data=.fields vs->vs[1]?=some .none->vs[2]?=some .none->H ea=none->X.s₀.heap.get? ea=none->
 E oe.cls oe.dict H->X.xe (.ref ea) s
theorem pG {P:Program} {w:World} {K:PySem.W.Frag} {mg:Q4} {base:Heap} {N:List Str} {qual:Str} {scope:Scope} {f:Addr} {cd:Value} {A:Around} {outer:List Env} {s₀:Shared} {H₀:Hp} {E:XK} :
   dZB (gX (CXr P w) P w K mg base N qual scope f cd A outer s₀ H₀ E) E:=λ_ _ _ _ _ _ _ I he hd h1 c2 hn h0 q=>uP I he hd h1 c2 hn h0 q
section
variable {X:Cx} {E:XK} {x:Str} {C:Addr} {bmB:List Value} {B newId initId:String} {e:Expr} {es:List Expr} {ta:TA} {np cpos pos:Pos}
def bX2 (C:Addr) (E:XK) (ta:TA):TS:=λ_ σ H=>ta σ H λvs H1=>vs.length<=sizeLine/\E (.ref C) none H1
theorem bJV (hR:dZB X E) (hex:X.ex=[]) (hc:X.calm=true) (hg:Gl X x) (hm:X.mg x=some (.ref C)) (hx:PySem.W.excIn X.K C bmB newId=true) (FB:ExcBaseFacts B newId initId bmB) (ha:PA X (e::es) ta)
   (hd:(x == ("__debug__" : Str))=false:=by decide) (he:starEach (e::es) X.env=(false,eval e X.env)::starEach es X.env:=by rfl) (hpl:(backTo cpos (starEach es X.env)).any (·.1)=false:=by rfl) :
   PS X (.Raise (some (.Call (.Name x np) (e::es) [] cpos)) none pos) (bX2 C E ta):=by
 intro pins s σ H D I h;obtain ⟨bm,N,nm,q,bs,hdct,sn,sub,ab,col,dd,k0,k1,k2,k3,k5,mN,hC,hN,hni,T⟩:=cXC I.ok.mod.kin hx;refine wpAny_Raise_call_subT (C:=C) (N:=N) (bm:=bm) (nm:=nm) (q:=q) (bs:=bs) (hdct:=hdct) (sn:=sn) (sub:=sub) (ab:=ab) (col:=col) (dd:=dd) (k0:=k0) (k1:=k1) (k2:=k2) (k3:=k3) (k5:=k5)
   FB (mN:=mN) (T.hasType FB.hasBase) (I.ok.hd hc) (by rw [he]; show (false || (backTo cpos (starEach es X.env)).any (·.1))=false; rw [hpl]; rfl) hni (gZ I hg hm ⟨rfl,?_⟩ hd)
 have h1:=ha cpos pins s σ H _ I h
 rw [he] at h1 ⊢;refine Calls.evalArgs_plain (thn h1 λus s2 ⟨vs,H2,I2,r,q2⟩=>⟨rfl,?_,I2.bk _ _ hC,hN.keeps I2.bk,T.keeps I2.bk,λh' ea hx=>?_⟩)
 · show us.length<=sizeLine
   rw [<-r.length];exact q2.1
 · obtain ⟨t,g,_,_⟩:=hx.there;refine hR pins σ H2 { s2 with heap:=h' } ea _ _ (I2.kept (t':=s2.toks) hx.keeps) g rfl rfl rfl (I2.hok.hole hx.new) ?_ q2.2
   cases z:X.s₀.heap.get? ea with
   | none=>rfl
   | some o=>
     obtain ⟨o',z'⟩:=I2.base.there ea o z (by rw [hex]; simp)
     rw [hx.new] at z';cases z'
end
abbrev Cx.tr (X:Cx) (pins:List (Addr×Obj)) (xe:Value->Shared->Prop):Cx:={ X with pn:=X.pn++pins,xe:=xe }
abbrev Cx.hnd (X:Cx) (pins:List (Addr×Obj)) (ea:Addr):Cx:={ X with A:=X.A.mark (some (.ref ea)),calm:=false,pn:=X.pn++pins,xe:=λ_ _=>False }
section
variable {X:Cx} {pins pins':Q2} {σ:St} {H:Hp} {s:Shared} {xe:Q0} {ea:Addr}
theorem Inv.tr (I:Inv X pins σ H s) (xe:Q0):Inv (X.tr pins xe) [] σ H s :=
 ⟨⟨I.ok.mod,I.ok.kind,I.ok.glob,I.ok.blt,I.ok.above,I.ok.inj,I.ok.has,I.ok.cab,I.ok.hd,I.ok.frames,I.ok.stk,I.ok.exf,I.ok.bs,I.ok.bsz,I.ok.noex,I.ok.exfs,I.ok.funs,I.ok.frf⟩,I.os,I.bare,I.base,I.loc,I.cell,I.free,I.freeC,
   λp hp=>I.pin p (by rwa [Br] at hp),I.hok,I.len⟩
theorem Inv.untr (I:Inv (X.tr pins xe) pins' σ H s):Inv X pins σ H s :=
 ⟨⟨I.ok.mod,I.ok.kind,I.ok.glob,I.ok.blt,I.ok.above,I.ok.inj,I.ok.has,I.ok.cab,I.ok.hd,I.ok.frames,I.ok.stk,I.ok.exf,I.ok.bs,I.ok.bsz,I.ok.noex,I.ok.exfs,I.ok.funs,I.ok.frf⟩,I.os,I.bare,I.base,I.loc,I.cell,I.free,I.freeC,
   λp hp=>I.pin p (Cr _ hp),I.hok,I.len⟩
theorem Inv.hnd (I:Inv X pins σ H s) (ea:Addr):Inv (X.hnd pins ea) [] σ H s :=
 ⟨⟨I.ok.mod,I.ok.kind,I.ok.glob,I.ok.blt,I.ok.above,I.ok.inj,I.ok.has,I.ok.cab,(λz=>nomatch z),I.ok.frames,I.ok.stk,I.ok.exf,I.ok.bs,I.ok.bsz,I.ok.noex,I.ok.exfs,I.ok.funs,I.ok.frf⟩,I.os,I.bare,I.base,I.loc,I.cell,I.free,I.freeC,
   λp hp=>I.pin p (by rwa [Br] at hp),I.hok,I.len⟩
theorem Inv.unhnd (I:Inv (X.hnd pins ea) pins' σ H s) (ok:X.Ok):Inv X pins σ H s :=
 ⟨ok,I.os,I.bare,I.base,I.loc,I.cell,I.free,I.freeC,λp hp=>I.pin p (Cr _ hp),I.hok,I.len⟩
structure Fre (X:Cx) (pins:List (Addr×Obj)) (a:Addr):Prop where
 s0:X.s₀.heap.get? a=none
 loc:a≠X.env.locals
 cell:∀ x c,X.env.cells.lookup x=some c->c≠a
 pin:∀ p∈X.pn++pins,p.1≠a
theorem Inv.adopt {a:Addr} {o:HO} (I:Inv X pins σ H s) (f:Fre X pins a) (hn:H a=none) (new:ObjOk X.prog X.w (upd H a o) s.heap a o):Inv X pins σ (upd H a o) s:=by
 have ne:∀ b u,H b=some u->b≠a:=λb u e=>bL e hn
 refine ⟨I.ok,I.os,I.bare,⟨I.base.keep,I.base.slot,λb u e n hx=>?_,I.base.there,λb xs e=>?_,λb u v e=>?_,λb ps e=>?_⟩,I.loc,I.cell,by rw [aK f.loc.symm]; exact I.free,λx c e=>by rw [aK (f.cell x c e)]; exact I.freeC x c e,λp hp=>?_,λb u e=>?_,I.len⟩
 · rw [aK (λz=>by rw [z,f.s0] at e; cases e)]
   exact I.base.free b u e n hx
 · have q:=I.base.tups b xs e
   rw [aK (ne b _ q)]; exact q
 · have q:=I.base.frzs b u v e
   rw [aK (ne b _ q)]; exact q
 · obtain ⟨m,q⟩:=I.base.tbls b ps e;exact ⟨m,by rw [aK (ne b _ q)]; exact q⟩
 · obtain ⟨h1,h2,h3⟩:=I.pin p hp;exact ⟨h1,by rw [aK (f.pin p hp)]; exact h2,h3⟩
 · by_cases hb:b=a
   · subst hb;rw [aD] at e;cases e;exact new
   · rw [aK hb] at e;exact (I.hok b u e).stay (λc v _ q=>q) (λc q=>by rw [aK (ne c _ q)]; exact q) λc xs q=>by rw [aK (ne c _ q)]; exact q
theorem Inv.unname {i:Nat} {n:Str} {h':Heap} {m:Q4} {v:Option Value} {t:Nat} (I:Inv X pins σ H s) (hN:X.N.Nodup) (hi:X.N[i]?=some n) (hm:s.heap.Ns X.env.locals m) (hl:X.env.scope.names.lookup n=some .local)
   (hn:h'.Ns X.env.locals (λx=>if x=n then v else m x)) (sb:Heap.SameBut X.env.locals s.heap h'):Inv X pins (σ.set i none) H { s with heap:=h',toks:=t }:=by
 have k:∀ b o,b≠X.env.locals->s.heap.get? b=some o->h'.get? b=some o:=λb o hb e=>(sb.2 b hb).trans e
 have nl:∀ b o,X.s₀.heap.get? b=some o->b≠X.env.locals:=λb o e=>Bi (Bh (Ar e) I.ok.above)
 have there:∀ b o,s.heap.get? b=some o->∃ o',h'.get? b=some o':=λb o e=>by
   by_cases hb:b=X.env.locals
   · obtain ⟨o',_,_,q,_⟩:=hn;exact ⟨o',by rw [hb]; exact q⟩
   · exact ⟨o,k b o hb e⟩
 obtain ⟨m1,hm1,hl1⟩:=id I.loc;refine ⟨I.ok,I.os,I.bare,⟨λb o e n hb hx=>k b o (nl b o e) (I.base.keep b o e n hb hx),λb o e n hb hx=>?_,I.base.free,λb o e hx=>?_,I.base.tups,I.base.frzs,I.base.tbls⟩,⟨_,hn,λj y u e1 e2 e3=>?_⟩,λx c e=>?_,I.free,I.freeC,λp hp=>?_,λb u e=>?_,by rw [Ez]; exact I.len⟩
 · obtain ⟨sl,q⟩:=I.base.slot b o e n hb hx;exact ⟨sl,k b _ (nl b o e) q⟩
 · obtain ⟨o',q⟩:=I.base.there b o e hx;exact there b o' q
 · have hji:j≠i:=λz=>by
     subst z;rw [Du (by rw [I.len]; exact (Ae.mp hi).1)] at e2
     cases e2
   rw [Eg (Ne.symm hji)] at e2;have hyn:y≠n:=λz=>hji (pP hN e1 (by rw [z]; exact hi))
   obtain ⟨u',r,look⟩:=hl1 j y u e1 e2 e3;have em:m1=m:=by
     obtain ⟨o1,es1,ep1,g1,d1,_,f1⟩:=hm1;obtain ⟨o2,es2,ep2,g2,d2,_,f2⟩:=hm;rw [g1] at g2; cases g2;rw [d1] at d2; cases d2;funext z
     rw [<-f1 z,f2 z]
   refine ⟨u',r,?_⟩;rcases look with ⟨z1,z2⟩ | ⟨z1,c,z2,o,z3,z4⟩
   · exact .inl ⟨z1,by show (if y=n then v else m y)=_; rw [if_neg hyn,<-em]; exact z2⟩
   · exact .inr ⟨z1,c,z2,o,k c o (I.cne y c z2) z3,z4⟩
 · obtain ⟨v',o,z1,z2⟩:=I.cell x c e;exact ⟨v',o,k c o (I.cne x c e) z1,z2⟩
 · obtain ⟨h1,h2,h3,h4⟩:=I.pin p hp;exact ⟨k _ _ h3 h1,h2,h3,h4⟩
 · refine (I.hok b u e).stay (λc o hc q=>k c o (λz=>?_) q) (λ_ q=>q) λ_ _ q=>q;have fr:=I.free
   rcases hc with z1 | z1
   · rw [<-z1,z,fr] at e; cases e
   · rw [z,fr] at z1; cases z1
end
def vC (ea:Addr) (cls:Value) (d:Option Addr):HO:=.ext λh=>∃ oe vs,h.get? ea=some oe/\oe.cls=cls/\oe.dict=d/\oe.data=.fields vs
theorem Fly.obj {P:Program} {w:World} {B:Heap} {l:List Env} {ea:Addr} {cls fl:Value} {d:Option Addr} {h:Heap} {H:Hp} (F:Fly B l ea cls d fl h):ObjOk P w H h ea (vC ea cls d):=by
 obtain ⟨oe,vs,T,oT,ts,he,hc,hd,_⟩:=F.on;exact ⟨⟨oe,vs,he,hc.1,hc.2,hd⟩,⟨oe,he⟩,λh1 h2 ⟨o,ws,g,q⟩ k=>⟨o,ws,k o g,q⟩⟩
def XS (X:Cx) (pins:List (Addr×Obj)) (R:Value->Option Addr->St->Hp->Prop):Value->Shared->Prop:=λe s1=>
 ∃ ea cls d B σ1 H1,e=.ref ea/\Fly B X.stack ea cls d .none s1.heap/\Fre X pins ea/\H1 ea=none/\(∀ h2,B.StaysIn h2->s1.heap.UpToSlots h2->Inv X pins σ1 H1 { s1 with heap:=h2 })/\R cls d σ1 H1
def bXS (CX:CXT) (X:Cx) (Es:St->XK):Prop:=∀ (pins:List (Addr×Obj)) (σ:St) (H:Hp) (s:Shared) (e:Value) (s':Shared),Inv X pins σ H s->CX X.stack H s (Es σ) e s'->X.xe e s'
theorem rK {X:Cx} {pins:Q2} {R:Value->Option Addr->St->Hp->Prop} (hex:X.ex=[]):bXS (CXr X.prog X.w) (X.tr pins (XS X pins R)) (λσ cls d H1=>R cls d σ H1):=by
 intro pins' σ H s e s1 I' h;obtain ⟨ea,cls,d,B,H1,rfl,os,bare,F,hok,un,q⟩:=h;have I:Inv X pins σ H s:=I'.untr
 have F:Fly B X.stack ea cls d .none s1.heap:=F
 have un:UnB (frs X.stack) H H1 s.heap B s1.heap:=un
 have nfs:ea ∉ frs X.stack:=λhm=>by
   obtain ⟨_,o,g,nf⟩:=F.frames.mem hm;obtain ⟨oe,vs,T,oT,ts,he,hc,hd,_⟩:=F.on;rw [g] at he; cases he;exact nf vs hd
 have ne:∀ b o,s.heap.get? b=some o->b≠ea:=λb o g z=>by
   subst z;obtain ⟨o',g'⟩:=un.there b o g nfs;rw [F.new] at g';cases g'
 refine ⟨ea,cls,d,B,σ,H1,rfl,F,⟨?_,?_,λx c z=>?_,λp hp=>?_⟩,hok.hole F.new,λh2 st up=>?_,q⟩
 · cases z:X.s₀.heap.get? ea with
   | none=>rfl
   | some o=>
     obtain ⟨o',z'⟩:=I.base.there ea o z (by rw [hex]; simp)
     exact absurd rfl (ne ea o' z')
 · obtain ⟨m,⟨o,_,_,g,_⟩,_⟩:=I.loc;exact (ne _ o g).symm
 · obtain ⟨v,o,g,_⟩:=I.cell x c z;exact ne c o g
 · exact ne p.1 p.2 (I.pin p hp).1
 · have slot:∀ b o,s.heap.get? b=some o->b∈frs X.stack->∃ sl,h2.get? b=some { o with slots:=sl }:=λb o g hb=>by
     obtain ⟨sl,g1⟩:=un.slot b o g (I.stkFree b hb) hb;obtain ⟨_,o2,g2,nf⟩:=I.stack.mem hb;rw [g] at g2; cases g2;obtain ⟨sl2,g3⟩:=up b _ g1 nf;exact ⟨sl2,g3⟩
   refine I.call' (s':={ s1 with heap:=h2 }) (ch:=[]) os ⟨λb o g n hb _=>st b o (un.keep b o g n hb),λb o g n hb _=>slot b o g hb,λb o g n _=>un.free b o g n,λb o g _=>?_,un.tups,un.frzs,un.tbls⟩ (hok.kept λb o g=>st b o g) bare λb hb=>absurd hb (by simp)
   by_cases hb:b∈frs X.stack
   · obtain ⟨sl,g1⟩:=slot b o g hb;exact ⟨_,g1⟩
   · obtain ⟨o',g1⟩:=un.there b o g hb;exact ⟨o',st b o' g1⟩
section
variable {X:Cx} {CX:CXT} {k:Nat} {f:Addr} {fd:FuncData} {ps:List Str} {sp:Sp} {Es:St->XK} {x:Str} {p pos:Pos} {e:Expr} {es:List Expr} {t:TA}
def aQO (sp:Sp) (Es:St->XK) (t:TA):TE:=λσ H Q=>t σ H λvs H1=>sp vs H1 Q (Es σ)
theorem cQE (F:FnOk X.prog X.w X.K X.mg X.base CX k f fd ps sp) (hr:Room k X.A) (hg:Gl X x) (hm:X.mg x=some (.ref f)) (hk:PySem.W.keepIn X.K (.ref f)=true) (hb:Binds X.K fd ps []) (hx:bXS CX X Es) (ha:PA X (e::es) t)
   (hdb:(x == ("__debug__" : Str))=false:=by decide) (he:starEach (e::es) X.env=(false,eval e X.env)::starEach es X.env:=by rfl) (hpl:(backTo pos (starEach es X.env)).any (·.1)=false:=by rfl) :
   PE X (.Call (.Name x p) (e::es) [] pos) (aQO sp Es t):=by
 intro pins s σ H Q I h;refine Er (gZ I hg hm ?_ hdb);refine PySem.W.callWith_K (h₀:=X.base) I.ok.mod.kin hk (thn (ha pos pins s σ H _ I h) λus s1 ⟨vs,H1,I1,r,q⟩=>⟨I1.kIn,?_⟩) he hpl;have hl:us.length=ps.length:=by rw [<-r.length]; exact F.len _ _ _ _ q
 have hb1:=hb s1 us I1.kIn (by rw [Br]; exact hl)
 rw [Br] at hb1;refine Gf (Fb (F.run X.A X.stack s1 H1 ⟨us,[]⟩ us vs Q (Es σ) hr I1.env0 hb1 r q) λrs s' hq=>?_);cases rs with
 | error e=>exact hx pins σ H1 s1 e s' I1 hq
 | ok fl=>
   cases fl with
   | ret u=>exact I1.after hq
   | next=>exact False.elim hq
   | brk=>exact False.elim hq
   | cont=>exact False.elim hq
end
def eQR (K:PySem.W.Frag) (C:Addr) (i:Nat) (mk:(Value->Option Addr->St->Hp->Prop)->TS) (ts:TS):TS:=λD σ H=>
 mk (λcls d σ1 H1=>PySem.W.exmOne K cls (.ref C)=some true/\∀ ea,H1 ea=none->
   ts { nx:=λσ2 H2=>D.nx (σ2.set i none) H2,rt:=D.rt,bk:=λσ2 H2=>D.bk (σ2.set i none) H2,ct:=λσ2 H2=>D.ct (σ2.set i none) H2 } (σ1.set i (some (.ref ea))) (upd H1 ea (vC ea cls d))) D σ H
section
variable {X:Cx} {pins:Q2}
theorem SP.untr {xe:Q0} {D:Ends} {f:Flow} {s':Shared} (h:SP (X.tr pins xe) [] D f s'):SP X pins D f s':=by
 cases f with
 | next=>obtain ⟨σ',H',I,q⟩:=h; exact ⟨σ',H',I.untr,q⟩
 | brk=>obtain ⟨σ',H',I,q⟩:=h; exact ⟨σ',H',I.untr,q⟩
 | cont=>obtain ⟨σ',H',I,q⟩:=h; exact ⟨σ',H',I.untr,q⟩
 | ret u=>obtain ⟨v,σ',H',I,r,q⟩:=h; exact ⟨v,σ',H',I.untr,r,q⟩
theorem dQ2 {body suite:List Stmt} {b0:Stmt} {x n:Str} {np hp pos:Pos} {i:Nat} {C:Addr} {mk:(Value->Option Addr->St->Hp->Prop)->TS} {ts:TS} (hstk:X.stack=X.env::X.outer) (hfm:X.env.frame=some X.env.locals) (hex:X.ex=[])
   (hN:X.N.Nodup) (hi:X.N[i]?=some n) (hl:X.env.scope.names.lookup n=some .local) (hg:Gl X x) (hm:X.mg x=some (.ref C)) (hb:∀ pins R,PSs (X.tr pins (XS X pins R)) body (mk R)) (hs:∀ pins ea,PSs (X.hnd pins ea) (b0::suite) ts)
   (hd:(x == ("__debug__" : Str))=false:=by decide):PS X (.Try body [.ExceptHandler (some (.Name x np)) (some n) (b0::suite) hp] [] [] pos) (eQR X.K C i mk ts):=by
 intro pins s σ H D I h;have hfr:X.A.frames=some (X.env::X.outer):=by rw [<-hstk]; exact I.ok.frames
 have hcls:(X.env.scope.kind == .class || (X.env.scope.kind == .module && X.env.locals != X.env.globals))=false:=by rw [I.ok.kind]; rfl
 refine wpAny_Try_except (Ce (hb pins _ [] s σ H D (I.tr _) h) (λf s1 q=>?_) λe s1 q=>?_)
 · cases f with
   | next=>
     obtain ⟨σ',H',I',q⟩:=q.untr;exact bO pins s1 σ' H' D I' q
   | brk=>exact q.untr
   | cont=>exact q.untr
   | ret u=>exact q.untr
 · obtain ⟨ea,cls,d,B,σ1,H1,rfl,F,fre,hn,inv,hx,r⟩:=q;rw [hstk] at F;refine rH hfr hfm F λh2 F2 u2=>fY (s:={ s1 with heap:=h2 }) F2 λh3 F3 u3=>?_
   have I3:=inv h3 F3.stays (u2.trans u3)
   refine wpAny_handleBy_cons (codeAny_handlers_test (gZ (I3.hnd ea) hg hm ?_ hd)) (by intro q; cases q)
   obtain ⟨oe,vs,T,oT,tts,he,hc,_⟩:=id F3.on;refine PySem.W.exm_one I3.kIn (hc.1 ▸ (PySem.W.Looks.ld he).andThen .now) hx _ _ _ _ (λ_ _ q=>q) ?_;refine codeAny_handlers_suite_as (fY (s:={ s1 with heap:=h3 }) F3 λh4 F4 u4=>?_)
   have I4:=(inv h4 F4.stays ((u2.trans u3).trans u4)).adopt (o:=vC ea cls d) fre hn F4.obj
   refine pX I4 hN hi (.inl hl) (v:=.ref ea) rfl (λs5 I5=>?_) (.inr hl);refine Ce (hs pins ea [] s5 _ _ _ (I5.hnd ea) (r ea hn)) (λf s6 q=>?_) λ_ _ z=>z.elim;have go:∀ {σ2:St} {H2:Hp} {Q:Unit->Shared->Prop} {E:Q0},Inv (X.hnd pins ea) [] σ2 H2 s6->(∀ s7,Inv X pins (σ2.set i none) H2 s7->Q () s7)->
       wpAny (model X.prog X.w) X.A (do bindName X.env n .none; unbindBehindTheSuite X.env n hp) Q E s6:=fun {σ2 H2 Q E} I6 k=>by
     have I6':=I6.unhnd I.ok
     obtain ⟨m,hm6,_⟩:=id I6'.loc;exact wpAny_nameGoes_keeps hl hm6 hcls λh7 v hn7 sb=>k _ (I6'.unname hN hi hm6 hl hn7 sb)
   cases f with
   | next=>
     obtain ⟨σ2,H2,I6,q⟩:=q;exact go I6 λs7 I7=>⟨_,H2,I7,q⟩
   | brk=>
     obtain ⟨σ2,H2,I6,q⟩:=q;exact go I6 λs7 I7=>⟨_,H2,I7,q⟩
   | cont=>
     obtain ⟨σ2,H2,I6,q⟩:=q;exact go I6 λs7 I7=>⟨_,H2,I7,q⟩
   | ret u=>
     obtain ⟨v,σ2,H2,I6,rv,q⟩:=q;exact go I6 λs7 I7=>⟨v,_,H2,I7,rv,q⟩
theorem SP.unhnd {ea:Addr} {D:Ends} {f:Flow} {s':Shared} (ok:X.Ok) (h:SP (X.hnd pins ea) [] D f s'):SP X pins D f s':=by
 cases f with
 | next=>obtain ⟨σ',H',I,q⟩:=h; exact ⟨σ',H',I.unhnd ok,q⟩
 | brk=>obtain ⟨σ',H',I,q⟩:=h; exact ⟨σ',H',I.unhnd ok,q⟩
 | cont=>obtain ⟨σ',H',I,q⟩:=h; exact ⟨σ',H',I.unhnd ok,q⟩
 | ret u=>obtain ⟨v,σ',H',I,r,q⟩:=h; exact ⟨v,σ',H',I.unhnd ok,r,q⟩
def cJ5 (K:PySem.W.Frag) (C:Addr) (mk:(Value->Option Addr->St->Hp->Prop)->TS) (ts:TS):TS:=λD σ H=>mk (λcls d σ1 H1=>PySem.W.exmOne K cls (.ref C)=some true/\ts D σ1 H1) D σ H
theorem cZI {body suite:List Stmt} {b0:Stmt} {x:Str} {np hp pos:Pos} {C:Addr} {mk:(Value->Option Addr->St->Hp->Prop)->TS} {ts:TS} (hstk:X.stack=X.env::X.outer) (hfm:X.env.frame=some X.env.locals) (hex:X.ex=[])
   (hg:Gl X x) (hm:X.mg x=some (.ref C)) (hb:∀ pins R,PSs (X.tr pins (XS X pins R)) body (mk R)) (hs:∀ pins ea,PSs (X.hnd pins ea) (b0::suite) ts)
   (hd:(x == ("__debug__" : Str))=false:=by decide):PS X (.Try body [.ExceptHandler (some (.Name x np)) none (b0::suite) hp] [] [] pos) (cJ5 X.K C mk ts):=by
 intro pins s σ H D I h;have hfr:X.A.frames=some (X.env::X.outer):=by rw [<-hstk]; exact I.ok.frames
 refine wpAny_Try_except (Ce (hb pins _ [] s σ H D (I.tr _) h) (λf s1 q=>?_) λe s1 q=>?_)
 · cases f with
   | next=>
     obtain ⟨σ',H',I',q⟩:=q.untr;exact bO pins s1 σ' H' D I' q
   | brk=>exact q.untr
   | cont=>exact q.untr
   | ret u=>exact q.untr
 · obtain ⟨ea,cls,d,B,σ1,H1,rfl,F,fre,hn,inv,hx,r⟩:=q;rw [hstk] at F;refine rH hfr hfm F λh2 F2 u2=>fY (s:={ s1 with heap:=h2 }) F2 λh3 F3 u3=>?_
   have I3:=inv h3 F3.stays (u2.trans u3)
   refine wpAny_handleBy_cons (codeAny_handlers_test (gZ (I3.hnd ea) hg hm ?_ hd)) (by intro q; cases q)
   obtain ⟨oe,vs,T,oT,tts,he,hc,_⟩:=id F3.on;refine PySem.W.exm_one I3.kIn (hc.1 ▸ (PySem.W.Looks.ld he).andThen .now) hx _ _ _ _ (λ_ _ q=>q) ?_;refine codeAny_handlers_suite (fY (s:={ s1 with heap:=h3 }) F3 λh4 F4 u4=>?_)
   have I4:=inv h4 F4.stays ((u2.trans u3).trans u4)
   exact Ce (hs pins ea [] _ _ _ _ (I4.hnd ea) r) (λf s6 q=>q.unhnd I.ok) λ_ _ z=>z.elim
theorem dJA {K:PySem.W.Frag} {C:Addr} {mk:(Value->Option Addr->St->Hp->Prop)->TS} {ts:TS} {D:Ends} {σ:St} {H:Hp} (h:mk (λcls d σ1 H1=>PySem.W.exmOne K cls (.ref C)=some true/\ts D σ1 H1) D σ H):cJ5 K C mk ts D σ H:=h
end
end L2
set_option maxHeartbeats 4000000
namespace L2
open PySem PySem.Spec PyProof.Rows PySem.W
structure ExK (K:Frag) (D:Addr):Prop where
 cls:hasDictIn K D=true
 ga:findIn K (.ref D) "__getattribute__"=some (some (.builtin "BaseException.__getattribute__"))
 gh:findIn K (.ref D) "__getattr__"=some none
 ca:findIn K (.ref D) "__class__"=some (some (.builtin "object.__class__"))
 cg:specialIn K (.builtin "object.__class__") "__get__"=some (some (.builtin "getset_descriptor.__get__"))
 ct:takesIn K (.builtin "object.__class__")=some true
 mo:mroIn K D (.type "object")=some true
 mb:PySem.W.subIn K (.ref D) (.type "BaseException")=some true
section
variable {prog:Program} {w:World} {A:Around} {E:Q0} {s:Shared} {K:Frag} {x D:Addr} {ox:Obj} {od:Option Obj}
theorem aJS {M:Model} {nm:Value} {Q:Unit->Shared->Prop} (Z:ExK K D) (X:K.In s.heap) (I:InstAt s.heap x ox D od) (hq:Q () s):wpAny M A (checkBuiltinCall "BaseException.__getattribute__" ⟨[.ref x,nm],[]⟩) Q E s:=by
 have hk:builtinKind "BaseException.__getattribute__"=some .slot:=by decide +kernel
 have hs:splitId "BaseException.__getattribute__"=some ("BaseException", "__getattribute__"):=by decide +kernel
 have L0:=I.type (M:=M)
 have L1:=looks_subIn (M:=M) X Z.mb
 have ha:=F.args_bexc_ga (.ref x) nm
 simp only [checkBuiltinCall,hk,hs];refine Ad ((L0.andThen L1).at ?_);rw [if_neg (show ¬ ((!true)=true) by decide)]
 exact wpAny_of_eq ha hq
end
section
variable {K:PySem.W.Frag} {H:Hp} {Q:VK} {ea D tp:Addr} {c:V} {cs:List V} {cv:Value} {cvs:List Value} {b:Bool}
theorem cX8 {C:Addr} {E:XK} {ta:TA} {D:Ends} {σ:St} (h:ta σ H λvs H1=>vs.length<=sizeLine/\E (.ref C) none H1):bX2 C E ta D σ H:=h
theorem cZL {sp:Sp} {Es:St->XK} {t:TA} {σ:St} (h:t σ H λvs H1=>sp vs H1 Q (Es σ)):aQO sp Es t σ H Q:=h
end
def oQ (P:Program) (w:World) (K:PySem.W.Frag) (mg:Str->Option Value) (base:Heap) (k:Nat) (x:Str) (ps:List Str) (sp:Sp):Prop :=
 ∃ (f:Addr) (fd:FuncData),FnOk P w K mg base (CXr P w) k f fd ps sp/\mg x=some (.ref f)/\PySem.W.keepIn K (.ref f)=true/\Binds K fd ps []
section
variable {X:Cx} {k k':Nat} {ps:List Str} {sp:Sp} {x:Str} {p pos:Pos} {e:Expr} {es:List Expr} {t:TA} {E:XK} {Es:St->XK}
theorem hZ (c:oQ X.prog X.w X.K X.mg X.base k x ps sp) (hx:nL (CXr X.prog X.w) X E) (hr:Room k' X.A) (hk:k<=k') (hg:Gl X x)
   (ha:PA X (e::es) t) (hdb:(x == ("__debug__" : Str))=false:=by decide) (he:starEach (e::es) X.env=(false,eval e X.env)::starEach es X.env:=by rfl) (hpl:(backTo pos (starEach es X.env)).any (·.1)=false:=by rfl) :
   PE X (.Call (.Name x p) (e::es) [] pos) (aXY sp [] E t):=by
 obtain ⟨f,fd,F,hm,hk',hb⟩:=c;exact aXT F (hr.mono hk) hg hm hk' hb .nil hx ha hdb he hpl
theorem aXQ (c:oQ X.prog X.w X.K X.mg X.base k x ps sp) (hx:bXS (CXr X.prog X.w) X Es) (hr:Room k' X.A) (hk:k<=k') (hg:Gl X x)
   (ha:PA X (e::es) t) (hdb:(x == ("__debug__" : Str))=false:=by decide) (he:starEach (e::es) X.env=(false,eval e X.env)::starEach es X.env:=by rfl) (hpl:(backTo pos (starEach es X.env)).any (·.1)=false:=by rfl) :
   PE X (.Call (.Name x p) (e::es) [] pos) (aQO sp Es t):=by
 obtain ⟨f,fd,F,hm,hk',hb⟩:=c;exact cQE F (hr.mono hk) hg hm hk' hb hx ha hdb he hpl
theorem kR:nL (CXr X.prog X.w) X E0:=λ_ _ _ _ _ _ _ h=>by
 obtain ⟨_,_,_,_,_,_,_,_,_,_,_,z⟩:=h;exact z.elim
theorem PS.nox {st:Stmt} {t:TS} (h:PS X.nox st t):PS X st t:=λpins s σ H D I hw=>
 Ce (h pins s σ H D (I.wish _) hw) (λ_ _ q=>q.unwish) λ_ _ z=>False.elim z
end
section
variable {P:Program} {w:World} {K:PySem.W.Frag} {mg:Q4} {base:Heap}
theorem Fun.okX {x qual:Str} {st:Stmt} {f:Addr} {fd:FuncData} {N ps:List Str} {k:Nat} {sp:Sp} (F:Fun K x qual st f fd) (S:FnScope N ps (aG st)) (len:∀ vs H Q E,sp vs H Q E->vs.length=ps.length)
   (hbody:∀ (cdv:Value) (A:Around) (outer:List Env) (s:Shared) (H:Hp) (vs:List V) (Q:VK) (E:XK),Room k (A.deeper (envOfC qual (aG st) s.heap.objs.size f cdv))->sp vs H Q E->
     ∃ t,PSs (gX (CXr P w) P w K mg base N qual (aG st) f cdv A outer s H E) (aS st) t/\t { nx:=λ_ H'=>Q .non H',rt:=Q } (iV N vs) H):FnOk P w K mg base (CXr P w) (k+1) f fd ps sp:=by
 obtain ⟨oc,od,kV,doc,pm,an,cdv,ct,osl,rfl,lk,hcd⟩:=F.ex;exact cJI lk hcd S len λA outer s H vs Q E hr hsp=>hbody cdv A outer s H vs Q E hr hsp
end
theorem eXB {K:PySem.W.Frag} {C:Addr} {i:Nat} {mk:(Value->Option Addr->St->Hp->Prop)->TS} {ts:TS} {D:Ends} {σ:St} {H:Hp}
   (h:mk (λcls d σ1 H1=>PySem.W.exmOne K cls (.ref C)=some true/\∀ ea,H1 ea=none->ts { nx:=λσ2 H2=>D.nx (σ2.set i none) H2,rt:=D.rt,bk:=λσ2 H2=>D.bk (σ2.set i none) H2,ct:=λσ2 H2=>D.ct (σ2.set i none) H2 } (σ1.set i (some (.ref ea))) (upd H1 ea (vC ea cls d))) D σ H):eQR K C i mk ts D σ H:=h
end L2
set_option maxHeartbeats 4000000
namespace L2
open PySem PySem.Spec PyProof.Rows
def Itz (K:PySem.W.Frag) (a b:Addr):It :=
 ⟨λi H=>∃ xs ys x y,SqL K H a xs/\SqL K H b ys/\xs[i]?=some x/\ys[i]?=some y,λi H v H'=>∃ p x y,H p=none/\v=.ref p/\H'=upd H p (.tup [x,y])/\(∀ xs,SqL K H a xs->xs[i]?=some x)/\(∀ ys,SqL K H b ys->ys[i]?=some y),
   λi H=>∃ xs ys,SqL K H a xs/\SqL K H b ys/\(xs.length<=i\/ys.length<=i)⟩
structure ZipOf (z TI TO i1 i2:Addr):Prop where
 d1:TI≠z
 d2:TO≠z
 d3:i1≠z
 d4:i2≠z
 d5:TI≠TO
 d6:TI≠i1
 d7:TI≠i2
 d8:TO≠i1
 d9:TO≠i2
 d0:i1≠i2
theorem kJ {h:Heap} {a b:Addr} {o u:Obj} (ha:h.get? a=some o) (hb:h.get? b=some u) {S T:String} (hs:o.cls=.type S) (ht:u.cls=.type T) (n:S≠T):a≠b:=λz=>by
 subst z;rw [ha] at hb; cases hb;rw [hs] at ht; injection ht with ht; exact n ht
theorem tS {h:Heap} {z TI TO i1 i2 a b:Addr} {f0 p q:Value} {k1 k2:Nat} {xs ys:Array Value} (D:ZipOf z TI TO i1 i2) (hz:IsZip h z TI TO f0) (hO:IsPair h TO p q) (h1:h.IsListIter i1 a k1) (h2:h.IsListIter i2 b k2) (ha:h.IsList a xs) (hb:h.IsList b ys):ZipApart z TI TO i1 i2 a b:=by
 obtain ⟨o1,g1,c1,_⟩:=h1;obtain ⟨o2,g2,c2,_⟩:=h2;obtain ⟨oa,ga,ca,_⟩:=ha;obtain ⟨ob,gb,cb,_⟩:=hb;exact ⟨D.d1,D.d2,D.d3,D.d4,D.d5,D.d6,D.d7,D.d8,D.d9,D.d0,kJ ga hz ca rfl (by decide),kJ ga hO ca rfl (by decide),kJ ga g1 ca c1 (by decide),kJ ga g2 ca c2 (by decide),kJ gb hz cb rfl (by decide),kJ gb hO cb rfl (by decide),kJ gb g1 cb c1 (by decide),kJ gb g2 cb c2 (by decide)⟩
theorem bX3 {P:Program} {w:World} {K:PySem.W.Frag} {elts:List Expr} {x1:Nat} {tp:Pos} (a b z TI TO i1 i2:Addr) (D:ZipOf z TI TO i1 i2) :
   Turn P w K (.Tuple elts x1 tp) (Itz K a b) [z,TI,TO,i1,i2] z (λi h=>IsZip h z TI TO .none/\IsPair h TI (.ref i1) (.ref i2)/\(∃ p q,IsPair h TO p q)/\h.IsListIter i1 a i/\h.IsListIter i2 b i) where
 mem:=by simp
 obj:=λi h st c hc=>by
   obtain ⟨hz,hI,⟨p,q,hO⟩,⟨o1,g1,_,e1⟩,o2,g2,_,e2⟩:=st;simp only [List.mem_cons,List.not_mem_nil,or_false] at hc;rcases hc with z | z | z | z | z <;> subst z
   · exact ⟨_,hz,λv z=>by cases z⟩
   · exact ⟨_,hI,λv z=>by cases z⟩
   · exact ⟨_,hO,λv z=>by cases z⟩
   · exact ⟨o1,g1,λv z=>by rw [e1] at z; cases z⟩
   · exact ⟨o2,g2,λv z=>by rw [e2] at z; cases z⟩
 keep:=λi h h' st kk=>by
   obtain ⟨hz,hI,⟨p,q,hO⟩,g1,g2⟩:=st;exact ⟨kk z (by simp) _ hz,kk TI (by simp) _ hI,⟨p,q,kk TO (by simp) _ hO⟩,g1.at λo e=>kk i1 (by simp) o e,g2.at λo e=>kk i2 (by simp) o e⟩
 item:=by
   intro X hP hw hK hc i pins s σ H E I hf st hg;subst hP hw hK;obtain ⟨xs,ys,x,y,qa,qb,hx,hy⟩:=hg;obtain ⟨us,ra,pa,_⟩:=I.list qa;obtain ⟨vs,rb,pb,_⟩:=I.list qb;obtain ⟨u,hu,ru⟩:=ra.get hx;obtain ⟨v,hv,rv⟩:=rb.get hy;obtain ⟨hz,hI,⟨p,q,hO⟩,g1,g2⟩:=st;have D2:=tS D hz hO g1 g2 pa.isList pb.isList
   have fr:∀ c o,s.heap.get? c=some o->s.heap.objs.size≠c:=λc o e=>Gm (Ar e)
   refine wpAny_pyNext_zip_item D2 hz hI hO g1 g2 pa.isList pb.isList (x:=u) (y:=v) (by simpa using hu) (by simpa using hv) λh1 a1 a2 a3 a4 a5 a6 kk=>?_
   refine ⟨_,rfl,wpAny_letOwnedTupleGo_zip a1 λh2 z2 sb=>?_⟩;have up:∀ c o,c≠z->h1.get? c=some o->h2.get? c=some o:=λc o n e=>(sb.2 c n).trans e
   have I2:Inv X pins σ (upd H s.heap.objs.size (.tup [x,y])) { s with heap:=h2 }:=by
     refine I.turnLaid (t':=s.toks) (ch:=[z,TI,TO,i1,i2]) hf (λc o n e=>?_) (Ah _) ⟨bP (by show 2<=_; omega),[u,v],.cons ru (.cons rv .nil),_,up _ _ (fr z _ hz) a5,rfl,_,rfl⟩
     simp only [List.mem_cons,List.not_mem_nil,or_false,not_or] at n;exact up c o n.1 (kk c o n.1 n.2.2.1 n.2.2.2.1 n.2.2.2.2 e)
   refine ⟨.ref s.heap.objs.size,_,I2,rfl,⟨_,x,y,I.hok.fresh (Ah _),rfl,rfl,λzs hq=>by rw [I.list_inj hq qa]; exact hx,λzs hq=>by rw [I.list_inj hq qb]; exact hy⟩,
     ⟨z2,up _ _ D.d1 (kk _ _ D.d1 D.d5 D.d6 D.d7 hI),⟨_,_,up _ _ D.d2 a2⟩,a3.at λo e=>up _ o D.d3 e,a4.at λo e=>up _ o D.d4 e⟩,λc hc=>?_⟩
   have hn:=(hf c hc).1
   rw [aK]
   · exact hn
   · obtain ⟨o1,e1,_⟩:=g1;obtain ⟨o2,e2,_⟩:=g2;simp only [List.mem_cons,List.not_mem_nil,or_false] at hc;rcases hc with z | z | z | z | z <;> subst z
     · exact (fr _ _ hz).symm
     · exact (fr _ _ hI).symm
     · exact (fr _ _ hO).symm
     · exact (fr _ _ e1).symm
     · exact (fr _ _ e2).symm
 done:=by
   intro X hP hw hK hc i pins s σ H E I hf st hg;subst hP hw hK;obtain ⟨xs,ys,qa,qb,hl⟩:=hg;obtain ⟨us,ra,pa,_⟩:=I.list qa;obtain ⟨vs,rb,pb,_⟩:=I.list qb;have e1:=ra.length
   have e2:=rb.length
   obtain ⟨hz,hI,⟨p,q,hO⟩,g1,g2⟩:=st;refine wpAny_pyNext_zip_end (I.ok.hd hc) (tS D hz hO g1 g2 pa.isList pb.isList) hz hI hO g1 g2 pa.isList pb.isList ?_ λh' kk=>⟨rfl,?_⟩
   · rcases hl with z | z
     · exact .inl (by simp; omega)
     · exact .inr (by simp; omega)
   · refine I.turnAll (t':=s.toks) (ch:=[z,TI,TO,i1,i2]) hf λc o n e=>?_;simp only [List.mem_cons,List.not_mem_nil,or_false,not_or] at n;exact kk c o n.1 n.2.2.1 n.2.2.2.1 n.2.2.2.2 e
 self:=λ_ _ _ _ _ st h=>wpAny_pyIter_zip st.1 h
theorem bJ3:bootBuiltins "zip"=some (.type "zip"):=by decide +kernel
section
variable {X:Cx} {l1 l2:Expr} {ta:TA} {elts:List Expr} {x1:Nat} {tp p pos:Pos}
def cQO (R:Addr->Addr->Hp->Prop):List V->Hp->Prop:=λvs H=>match vs with | [.ref i,.ref j]=>R i j H | _=>False
theorem cZF {R:Addr->Addr->Hp->Prop} {vs:List V} {H:Hp} (q:cQO R vs H):∃ i j,vs=[.ref i,.ref j]/\R i j H:=by
 unfold cQO at q;split at q
 · exact ⟨_,_,rfl,q⟩
 · exact q.elim
def dJ1 (K:PySem.W.Frag) (ta:TA):TI:=λσ H R=>ta σ H (cQO λa b H1=>onL (rdL H1 a) (onL (rdL H1 b) (R (Itz K a b) H1)))
theorem dQ4 (hg:Gl X "zip") (hm:X.mg "zip"=none) (ha:PA X [l1,l2] ta) (hs:starEach [l1,l2] X.env=[(false,eval l1 X.env),(false,eval l2 X.env)]:=by rfl) (hs2:starEach [l2] X.env=[(false,eval l2 X.env)]:=by rfl) :
   PI X (.Tuple elts x1 tp) (.Call (.Name "zip" p) [l1,l2] [] pos) (dJ1 X.K ta):=by
 intro pins s σ H R I h;refine Call_ (jQ I hg hm bJ3 (Cv (thn (ha pos pins s σ H _ I h) λus s1 ⟨vs,H1,I1,r1,q1⟩=>?_) (by rw [hs,hs2]) (by rw [hs2]; rfl)))
 obtain ⟨a,b,rfl,q⟩:=cZF q1;obtain ⟨u,u2,rfl,ru,ru2⟩:=tR r1;cases ru;cases ru2;unfold onL at q;split at q
 · rename_i xs ex
   split at q
   · rename_i ys ey
     obtain ⟨us,ra,pa,_⟩:=I1.list (aR ex);obtain ⟨vs,rb,pb,_⟩:=I1.list (aR ey);refine call_zip_2 pa.isList pb.isList λh' hz hI hO g1 g2 hsz hk=>?_;refine wpAny_pyIter_zip (s:={ s1 with heap:=h' }) hz ⟨_,[s1.heap.objs.size+4,s1.heap.objs.size+2,s1.heap.objs.size+3,s1.heap.objs.size,s1.heap.objs.size+1],_,_,H1,rfl,I1.kept (t':=s1.toks) hk,
       bX3 a b _ _ _ _ _ ⟨by simp,by simp,by simp,by simp,by simp,by simp,by simp,by simp,by simp,by simp⟩,⟨hz,hI,⟨_,_,hO⟩,g1,g2⟩,λc hc=>?_,q⟩
     have z:s1.heap.objs.size<=c:=by
       simp only [List.mem_cons,List.not_mem_nil,or_false] at hc;rcases hc with z | z | z | z | z <;> (rw [z]; first | exact Ah _ | exact Nat.le_add_right _ _)
     exact I1.fpOk z (I1.hok.fresh z)
   · exact q.elim
 · exact q.elim
end
section
variable {K:PySem.W.Frag} {a b:Addr} {xs ys:List V} {g:TG} {tb:TS} {D:Ends} {σ:St} {H:Hp}
theorem dXQ (Pv:Nat->St->Hp->Prop) (h0:Pv 0 σ H) (hl:∀ i σ H,i<=xs.length->i<=ys.length->Pv i σ H->rdL H a=some xs/\rdL H b=some ys)
   (hs:∀ i x y σ H p,xs[i]?=some x->ys[i]?=some y->Pv i σ H->H p=none->g (.ref p) σ (upd H p (.tup [x,y])) λσ2 H2=>tb { D with nx:=Pv (i+1),ct:=Pv (i+1),bk:=D.nx } σ2 H2)
   (hd:∀ σ H,Pv (min xs.length ys.length) σ H->D.nx σ H):vI (Itz K a b) g tb D σ H:=by
 refine ⟨λi m σ H=>m=min xs.length ys.length - i/\i<=min xs.length ys.length/\Pv i σ H,⟨min xs.length ys.length,by simp,Nat.zero_le _,h0⟩,?_⟩
 rintro i m σ H ⟨rfl,hi,p⟩;obtain ⟨hr1,hr2⟩:=hl i σ H (by omega) (by omega) p
 by_cases hlt:i<min xs.length ys.length
 · refine .inr ⟨⟨xs,ys,xs[i]'(by omega),ys[i]'(by omega),aR hr1,aR hr2,Aa _,Aa _⟩,Pv (i+1),λσ' H' p'=>⟨min xs.length ys.length - (i+1),by omega,rfl,hlt,p'⟩,λx H' y=>?_⟩
   obtain ⟨q,x1,y1,hq,rfl,rfl,hx,hy⟩:=y;exact hs i x1 y1 σ H q (hx xs (aR hr1)) (hy ys (aR hr2)) p hq
 · have e:i=min xs.length ys.length:=by omega
   subst e;exact .inl ⟨⟨xs,ys,aR hr1,aR hr2,by omega⟩,hd σ H p⟩
theorem dQQ {ta:TA} {R:It->Hp->Prop} (h:ta σ H (cQO λa b H1=>onL (rdL H1 a) (onL (rdL H1 b) (R (Itz K a b) H1)))):dJ1 K ta σ H R:=h
theorem dZ0 {R:Addr->Addr->Hp->Prop} (h:R a b H):cQO R [.ref a,.ref b] H:=h
end
end L2
set_option maxHeartbeats 4000000
namespace L2
open PySem PySem.Spec PyProof.Rows
section
variable {X:Cx} {o e:Expr} {es:List Expr} {to:TE} {t:TA} {name:Str} {apos cpos:Pos} {T id:String} {r:V->List V->Hp->VK->Prop}
def bJR (T:String) (r:V->List V->Hp->VK->Prop) (to:TE):TE:=λσ H Q=>to σ H λx H1=>vZ T x H1 (r x [] H1 Q)
theorem bJD (pa:PlainAttrs T) (slot:Slot T name id) (hty:typeOf (.builtin id)=pure (.type "method_descriptor")) (hm:MtR X id r) (ho:PE X o to)
   (hbase:attributeBase o name X.env (eval o X.env)=eval o X.env:=by rfl) (hline:(apos.endLine == cpos.line)=true:=by rfl):PE X (.Call (.Attribute o name apos) [] [] cpos) (bJR T r to):=by
 intro pins s σ H Q I h;refine wpAny_Call_method0_late hbase hline (thn (ho pins s σ H _ I h) λv s1 ⟨x,H1,I1,r1,q⟩=>?_);obtain ⟨ty,q1⟩:=zD (K:=X.K) q;obtain ⟨h1,h2⟩:=bJ6 I1 r1 ty;exact ⟨T,id,pa,slot,hty,h1,h2,Gq rfl (PySem.evalArgs_none (hm pins s1 σ H1 x [] v [] Q I1 r1 .nil q1))⟩
def cZY:V->List V->Hp->VK->Prop:=λx vs H Q=>match x,vs with
 | .ref l,[.ref b]=>(match gK H l,gK H b with | some xs,some zs=>xs.length+zs.length<=sizeLine/\Q .non (upd H l (.lst (xs++zs))) | _,_=>False)
 | _,_=>False
theorem yA:MtR X "list.extend" cZY:=MtR.imp (r:=aZT) bQJ λ_ _ _ _ q=>by
 unfold cZY at q;split at q
 · split at q
   · exact ⟨_,_,_,_,rfl,rfl,jN (by assumption),jN (by assumption),q.1,q.2⟩
   · exact q.elim
 · exact q.elim
def eZV:V->List V->Hp->VK->Prop:=λx vs H Q=>match x,vs with
 | .ref l,[]=>(match gK H l with | some xs=>(match xs[xs.length - 1]? with | some y=>Q y (upd H l (.lst xs.dropLast)) | none=>False) | none=>False)
 | .ref l,[.int i]=>(match gK H l with | some xs=>(-(2 ^ 63)<=i/\i<2 ^ 63)/\(match seqIndex? i xs.length with | some k=>(match xs[k]? with | some y=>Q y (upd H l (.lst (xs.eraseIdx k))) | none=>False) | none=>False) | none=>False)
 | _,_=>False
def eZU:V->List V->Hp->VK->Prop:=λx vs H Q=>match x,vs with
 | .ref l,[]=>(match gK H l with | some xs=>Q .non (upd H l (.lst xs.reverse)) | none=>False)
 | _,_=>False
def vT:V->List V->Hp->VK->Prop:=λx vs H Q=>match x,vs with
 | .ref l,[]=>(match gK H l with | some _=>Q .non (upd H l (.lst [])) | none=>False)
 | _,_=>False
theorem cXY:MtR X "list.clear" vT:=MtR.imp (r:=bZP) bXH λ_ _ _ _ q=>by
 unfold vT at q;split at q
 · split at q
   · exact ⟨_,_,rfl,rfl,jN (by assumption),q⟩
   · exact q.elim
 · exact q.elim
end
section
variable {σ:St} {H:Hp} {Q:VK} {l b:Addr} {xs zs:List V} {y:V} {i:Int} {k:Nat} {to:TE} {T:String} {r:V->List V->Hp->VK->Prop}
theorem cXD (h:to σ H λx H1=>vZ T x H1 (r x [] H1 Q)):bJR T r to σ H Q:=h
theorem cJZ (e:gK H l=some xs) (e':gK H b=some zs) (c:xs.length+zs.length<=sizeLine) (h:Q .non (upd H l (.lst (xs++zs)))):cZY (.ref l) [.ref b] H Q:=by unfold cZY; simp only [e,e']; exact ⟨c,h⟩
theorem cXR (e:gK H l=some xs) (h:Q .non (upd H l (.lst []))):vT (.ref l) [] H Q:=by unfold vT; simp only [e]; exact h
end
end L2
set_option maxHeartbeats 4000000
namespace L2
open PySem PySem.Spec PyProof.Rows
theorem aZR {H:Hp} {p:Addr} {xs:List V} (h:H p=some (.lst xs)):tyN (.ref p) H=some "list" := by unfold tyN; simp only [h]
theorem cZR {H:Hp} {p:Addr} {xs:List V} (h:H p=some (.tup xs)):tyN (.ref p) H=some "tuple" := by unfold tyN; simp only [h]
theorem aQA {t u:TS} {D:Ends} {σ:St} {H:Hp} (Pj:St->Hp->Prop) (hj:∀ σ' H',Pj σ' H'->u D σ' H') (h:∀ N:St->Hp->Prop,(∀ σ' H',Pj σ' H'->N σ' H')->t { D with nx:=N } σ H):dQZ t u D σ H:=h (u D) hj
theorem bA {H H':Hp} {r:Addr} (s:Same H H') (h:H' r=none):H r=none:=by
 cases e:H r with
 | none=>rfl
 | some o=>rw [s _ _ e] at h; cases h
theorem aY {H H':Hp} {p:Addr} {o:HO} (hp:H p=none) (s:Same H H'):Same H (upd H' p o):=λb u q=>by rw [aK (bL q hp)]; exact s b u q
section
variable {g:TG} {tests:TT} {te:TE} {σ0:St} {Q:VK} {H1:Hp}
theorem fE {J:It} {n:Nat} (R:Addr->Nat->List V->Hp->Prop) (hl:n<sizeLine) (h0:∀ D,H1 D=none->R D 0 [] (upd H1 D (.lst [])))
   (hgo:∀ D i ys Hc,H1 D=none->R D i ys Hc->i<n->J.go i Hc) (hst:∀ D ys Hc,H1 D=none->R D n ys Hc->J.stop n Hc)
   (hs:∀ D i ys Hc x H' (A:VK) (B:Hp->Prop),H1 D=none->i<n->R D i ys Hc->Hc D=some (.lst ys)->J.yld i Hc x H'->
     (∀ y H4,H4 D=some (.lst ys)->R D (i+1) (ys++[y]) (upd H4 D (.lst (ys++[y])))->A y H4)->(∀ H3,H3 D=some (.lst ys)->R D (i+1) ys H3->B H3)->
     g x σ0 H' λσ2 H2=>Wk σ0 σ2/\tests σ2 H2 λb H3=>if b=true then te σ2 H3 A else B H3)
   (fin:∀ D ys Hc,H1 D=none->R D n ys Hc->Hc D=some (.lst ys)->ys.length<=n->Q (.ref D) Hc):eQ g tests te σ0 Q J H1:=by
 intro D hD;refine ⟨λi m Hc=>m=n - i/\i<=n/\∃ ys,ys.length<=i/\Hc D=some (.lst ys)/\R D i ys Hc,⟨n,by simp,Nat.zero_le _,[],Nat.le_refl _,aD,h0 D hD⟩,?_⟩
 rintro i m Hc ⟨rfl,hi,ys,hy,hDc,r⟩;by_cases hlt:i<n
 · refine .inr ⟨hgo D i ys Hc hD r hlt,λx H' y=>hs D i ys Hc x H' _ _ hD hlt r hDc y (λz H4 e r4=>?_) (λH3 e r3=>?_)⟩
   · exact ⟨ys,e,by omega,n - (i+1),by omega,rfl,hlt,ys++[z],by rw [Aj]; show ys.length+1<=_; omega,aD,r4⟩
   · exact ⟨n - (i+1),by omega,rfl,hlt,ys,by omega,e,r3⟩
 · have e:i=n:=by omega
   subst e;exact .inl ⟨hst D ys Hc hD r,fin D ys Hc hD r hDc hy⟩
def Tups (H1 Hc:Hp) (ps:List Addr) (fs:List (List V)):Prop:=ps.length=fs.length/\∀ (j:Nat) p t,ps[j]?=some p->fs[j]?=some t->H1 p=none/\Hc p=some (.tup t)
theorem Tups.keep {H1 Hc Hd:Hp} {ps:List Addr} {fs:List (List V)} (t:Tups H1 Hc ps fs) (s:Same Hc Hd):Tups H1 Hd ps fs:=⟨t.1,λj p u hp hu=>⟨(t.2 j p u hp hu).1,s _ _ (t.2 j p u hp hu).2⟩⟩
theorem Tups.older {H0 H1 Hc:Hp} {ps:List Addr} {fs:List (List V)} (t:Tups H1 Hc ps fs) (s:Same H0 H1):Tups H0 Hc ps fs:=⟨t.1,λj p u hp hu=>⟨bA s (t.2 j p u hp hu).1,(t.2 j p u hp hu).2⟩⟩
theorem Tups.put {H1 Hc:Hp} {ps:List Addr} {fs:List (List V)} {D:Addr} {ys zs:List V} (t:Tups H1 Hc ps fs) (h:Hc D=some (.lst ys)):Tups H1 (upd Hc D (.lst zs)) ps fs:=⟨t.1,λj p u hp hu=>by
 obtain ⟨a,b⟩:=t.2 j p u hp hu;refine ⟨a,?_⟩;rw [aK λz=>by rw [z,h] at b; cases b]
 exact b⟩
theorem Tups.app {H1 Hc:Hp} {ps qs:List Addr} {fs gs:List (List V)} (t:Tups H1 Hc ps fs) (u:Tups H1 Hc qs gs):Tups H1 Hc (ps++qs) (fs++gs):=by
 refine ⟨by rw [Aj,Aj,t.1,u.1],λj p v hp hv=>?_⟩
 by_cases h:j<ps.length
 · rw [Ap h] at hp;rw [Ap (by rw [<-t.1]; exact h)] at hv
   exact t.2 j p v hp hv
 · rw [Av (by omega)] at hp
   rw [Av (by rw [<-t.1]; omega),<-t.1] at hv
   exact u.2 _ p v hp hv
theorem Tups.nil {H1 Hc:Hp}:Tups H1 Hc [] []:=⟨rfl,λj p u hp=>by cases hp⟩
theorem Tups.one {H1 Hc:Hp} {p:Addr} {t:List V} (a:H1 p=none) (b:Hc p=some (.tup t)):Tups H1 Hc [p] [t]:=⟨rfl,λj q u hq hu=>by
 cases j with
 | zero=>cases hq; cases hu; exact ⟨a,b⟩
 | succ j=>cases hq⟩
theorem aJR {n:Nat} {lo:Int} (f:Nat->List V) (hl:n<sizeLine)
   (hs:∀ (i:Nat) Hc (A:VK) (B:Hp->Prop),i<n->Same H1 Hc->(∀ p Hd,Hc p=none->Same Hc Hd->Hd p=some (.tup (f i))->A (.ref p) Hd)->
     g (.int (lo+i)) σ0 Hc λσ2 H2=>Wk σ0 σ2/\tests σ2 H2 λb H3=>if b=true then te σ2 H3 A else B H3)
   (fin:∀ D Hd ps,H1 D=none->Same H1 Hd->Hd D=some (.lst (ps.map V.ref))->ps.length=n->Tups H1 Hd ps ((List.range n).map f)->Q (.ref D) Hd):eQ g tests te σ0 Q (Itr lo n) H1:=by
 refine fE (n:=n) (λD i ys Hc=>Same H1 Hc/\∃ ps,ys=ps.map V.ref/\ps.length=i/\Tups H1 Hc ps ((List.range i).map f)) hl (λD hD=>⟨aF hD _,[],rfl,rfl,.nil⟩) (λD i ys Hc _ r h=>h) (λD ys Hc _ r=>Ah n) ?_ ?_
 · rintro D i ys Hc x H' A B hD hi ⟨sm,ps,rfl,hn,tp⟩ hDc ⟨rfl,rfl⟩ ha hb;refine hs i H' A B hi sm (λp Hd hp sd hd=>?_);refine ha _ _ (sd _ _ hDc) ⟨aY hD (sm.trans sd),ps++[p],by rw [Ak]; rfl,by rw [Aj,hn]; rfl,?_⟩
   rw [Ci,Ak];exact ((tp.keep sd).app (.one (bA sm hp) hd)).put (sd _ _ hDc)
 · rintro D ys Hc hD ⟨sm,ps,rfl,hn,tp⟩ hDc _;exact fin D Hc ps hD sm hDc hn tp
end
end L2
set_option maxHeartbeats 4000000
namespace L2
open PySem PySem.Spec PyProof.Rows
def bJJ (lo c:Int) (n:Nat):It:=⟨λi _=>i<n,λi H x H'=>H'=H/\x=.int (lo+(i:Int) * c),λi _=>n<=i⟩
theorem wY {P:Program} {w:World} {K:PySem.W.Frag} {tg:Expr} (it:Addr) (lo c:Int) (n:Nat):Turn P w K tg (bJJ lo c n) [it] it (λi h=>IsRangeIter h it (lo+(i:Nat) * c) ((n:Int) - (i:Nat)) c) where
 mem:=by simp
 obj:=λi h st b hb=>by
   have e:b=it:=by simpa using hb
   subst e;exact ⟨_,st,λv z=>by
     have z':Data.fields _=Data.cell v:=z
     cases z'⟩
 keep:=λi h h' st k=>k it (by simp) _ st
 item:=by
   intro X hP hw hK hc i pins s σ H E I hf st hg;subst hP hw hK;obtain ⟨f0,f1,f2,f3,f4,f5⟩:=hf it (by simp)
   have W:=Walks.range (prog:=X.prog) (w:=X.w) (I.ok.hd hc) it lo c n
   refine W.item i s _ _ hg st λv h' tk hv st' kk=>?_;obtain ⟨t,rfl⟩:=hv;have I1:Inv X pins σ H { s with heap:=h',toks:=tk }:=I.turned (λb o hb e=>kk b o (by simpa using hb) e) f0 f1 f3 f4 f5
   exact ⟨_,rfl,qI (s:={ s with heap:=h',toks:=tk }) (n := "range_iterator") st' rfl rfl (by decide) ⟨.int (lo+i * c),H,I1,⟨t,rfl⟩,⟨rfl,rfl⟩,st',λb hb=>(hf b hb).1⟩⟩
 done:=by
   intro X hP hw hK hc i pins s σ H E I hf st hg;subst hP hw hK;obtain ⟨f0,f1,f2,f3,f4,f5⟩:=hf it (by simp)
   exact wpAny_pyNext_range_end (I.ok.hd hc) st (by have:n<=i:=hg; omega) λh' eb=>⟨rfl,I.turned (t':=s.toks) (λb o hb e=>eb b o hb e) f0 f1 f3 f4 f5⟩
 self:=λ_ _ _ _ _ st h=>wpAny_pyIter_rangeiter st h
def rQ (lo hi c:Int):Nat:=(if lo<hi then (hi - lo - 1) / c+1 else 0).toNat
theorem cJF {lo hi c:Int} {i:Nat} (hc:0<c) (h:i<rQ lo hi c):lo+(i:Int) * c<hi:=by
 unfold rQ at h;by_cases hl:lo<hi
 · rw [if_pos hl] at h;have h0:0<=(hi - lo - 1) / c:=Int.ediv_nonneg (by omega) (by omega)
   have h1:(i:Int)<=(hi - lo - 1) / c:=by omega
   have h2:(i:Int) * c<=(hi - lo - 1) / c * c:=Int.mul_le_mul_of_nonneg_right h1 (by omega)
   have h3:(hi - lo - 1) / c * c<=hi - lo - 1:=Int.ediv_mul_le _ (by omega)
   omega
 · rw [if_neg hl] at h;exact absurd h (by simp)
theorem eQ6 {lo hi c:Int} (hc:0<c):Builtin.Range.rangeSize lo hi c=((rQ lo hi c:Nat):Int):=by
 unfold Builtin.Range.rangeSize rQ;rw [if_pos hc];by_cases hl:lo<hi
 · rw [if_pos hl];have h0:0<=(hi - lo - 1) / c:=Int.ediv_nonneg (by omega) (by omega)
   omega
 · rw [if_neg hl];rfl
section
variable {X:Cx} {tg a b c:Expr} {p pos:Pos}
def bZ1 (R:Int->Int->Int->Hp->Prop):List V->Hp->Prop:=λvs H=>match vs with | [.int i,.int j,.int k]=>R i j k H | _=>False
theorem cXE {R:Int->Int->Int->Hp->Prop} {vs:List V} {H:Hp} (q:bZ1 R vs H):∃ i j k,vs=[.int i,.int j,.int k]/\R i j k H:=by
 unfold bZ1 at q;split at q
 · exact ⟨_,_,_,rfl,q⟩
 · exact q.elim
def cJ2 (ta:TA):TI:=λσ H R=>ta σ H (bZ1 λi j k H1=>(-1000000<=i/\i<=1000000/\-1000000<=j/\j<=1000000/\0<k/\k<=1000)/\R (bJJ i k (rQ i j k)) H1)
theorem dXV {lo hi c:Int} (h1:-1000000<=lo) (h2:lo<=1000000) (h3:-1000000<=hi) (h4:hi<=1000000) (h5:0<c) (h6:c<=1000):Builtin.Range.small lo hi c=true:=by
 have hs:Builtin.Range.rangeSize lo hi c=(if lo<hi then (hi - lo - 1) / c+1 else 0):=by unfold Builtin.Range.rangeSize; rw [if_pos h5]
 unfold Builtin.Range.small;rw [hs];have hd:(hi - lo - 1) / c<=(if lo<hi then hi - lo - 1 else (hi - lo - 1) / c):=by
   split
   · exact Int.ediv_le_self _ (by omega)
   · exact Gk _
 simp only [Builtin.Range.rangeFitsLong,Bool.and_eq_true,Bool.or_eq_true,decide_eq_true_eq,beq_iff_eq];split <;> rename_i hl
 · rw [if_pos hl] at hd;have hd0:0<=(hi - lo - 1) / c:=Int.ediv_nonneg (by omega) (by omega)
   have hm:((hi - lo - 1) / c) * c<=hi - lo - 1:=Int.ediv_mul_le _ (by omega)
   have hm2:((hi - lo - 1) / c+1) * c<=hi - lo - 1+c:=by rw [Int.add_mul,Int.one_mul]; omega
   have hm3:0<=((hi - lo - 1) / c+1) * c:=Int.mul_nonneg (by omega) (by omega)
   refine ⟨by omega,.inr ?_⟩
   rw [An (by omega),An (by omega)]
   rfl
 · exact ⟨by omega,.inl rfl⟩
theorem aJ2 {pins:Q2} {σ:St} {H:Hp} {s:Shared} {R:It->Hp->Prop} {E:Q0} {lo hi c:Int} {t u v:Tok} {tk:Nat} (I:Inv X pins σ H s) (h1:-1000000<=lo) (h2:lo<=1000000) (h3:-1000000<=hi) (h4:hi<=1000000) (h5:0<c) (h6:c<=1000)
   (q:R (bJJ lo c (rQ lo hi c)) H):wpAny (model X.prog X.w) X.A (pyIter (.ref s.heap.objs.size)) (PIE X pins σ tg R) E { s with heap:=s.heap.push { cls:=.type "range",data:=.fields #[.int lo t,.int hi u,.int c v] },toks:=tk }:=by
 refine wpAny_pyIter_range (IsRange.new ..) (dXV h1 h2 h3 h4 h5 h6) ?_;have I1:Inv X pins σ H { s with heap:=s.heap.push { cls:=.type "range",data:=.fields #[.int lo t,.int hi u,.int c v] },toks:=tk }:=I.kept λb o e=>Af _ e
 refine ⟨(s.heap.push { cls:=.type "range",data:=.fields #[.int lo t,.int hi u,.int c v] }).objs.size,[(s.heap.push { cls:=.type "range",data:=.fields #[.int lo t,.int hi u,.int c v] }).objs.size],_,_,H,rfl,
   I1.kept (t':=tk) λb o e=>Af _ e,wY _ lo c (rQ lo hi c),?_,λb hb=>?_,q⟩
 · have e1:lo+((0:Nat):Int) * c=lo:=by simp
   have e2:((rQ lo hi c:Nat):Int) - ((0:Nat):Int)=Builtin.Range.rangeSize lo hi c:=by rw [eQ6 h5]; simp
   show IsRangeIter _ _ (lo+((0:Nat):Int) * c) (((rQ lo hi c:Nat):Int) - ((0:Nat):Int)) c
   rw [e1,e2];exact Ax _ rfl
 · have e:b=(s.heap.push { cls:=.type "range",data:=.fields #[.int lo t,.int hi u,.int c v] }).objs.size:=by simpa using hb
   subst e;exact I1.fpOk (Ah _) (I1.hok.fresh (Ah _))
theorem aJY {ta:TA} (hg:Gl X "range") (hm:X.mg "range"=none) (ha:PA X [a,b,c] ta) (hs:starEach [a,b,c] X.env=[(false,eval a X.env),(false,eval b X.env),(false,eval c X.env)]:=by rfl) (hs2:starEach [b,c] X.env=[(false,eval b X.env),(false,eval c X.env)]:=by rfl) :
   PI X tg (.Call (.Name "range" p) [a,b,c] [] pos) (cJ2 ta):=by
 intro pins s σ H R I h;refine Call_ (jQ I hg hm boot_range (Cv (thn (ha pos pins s σ H _ I h) λus s1 ⟨vs,H1,I1,r1,q1⟩=>?_) (by rw [hs,hs2]) (by rw [hs2]; rfl)))
 obtain ⟨i,j,k,e,⟨b1,b2,b3,b4,b5,b6⟩,q⟩:=cXE q1;subst e;cases r1 with
 | cons r rr=>
   cases rr with
   | cons r' rr=>
     cases rr with
     | cons r'' rr=>
       cases rr;obtain ⟨t,rfl⟩:=r;obtain ⟨t',rfl⟩:=r';obtain ⟨t'',rfl⟩:=r'';exact call_range_3 (by omega) (aJ2 I1 b1 b2 b3 b4 b5 b6 q) (Or.inl (PyProof.noPylong_small (by omega)))
end
section
variable {K:PySem.W.Frag} {c:Addr} {xs:List V} {lo st:Int} {n:Nat} {g:TG} {tb:TS} {D:Ends} {σ:St} {H:Hp} {tA:TA} {R:It->Hp->Prop} {i j k:Int}
theorem aJH (Pv:Nat->St->Hp->Prop) (h0:Pv 0 σ H)
   (hs:∀ i σ H,i<n->Pv i σ H->g (.int (lo+(i:Int) * st)) σ H λσ2 H2=>tb { D with nx:=Pv (i+1),ct:=Pv (i+1),bk:=D.nx } σ2 H2) (hd:∀ σ H,Pv n σ H->D.nx σ H):vI (bJJ lo st n) g tb D σ H:=by
 refine ⟨λi m σ H=>m=n - i/\i<=n/\Pv i σ H,⟨n,by simp,Nat.zero_le _,h0⟩,?_⟩
 rintro i m σ H ⟨rfl,hi,p⟩;by_cases hlt:i<n
 · refine .inr ⟨hlt,Pv (i+1),λσ' H' p'=>⟨n - (i+1),by omega,rfl,hlt,p'⟩,λx H' y=>?_⟩
   obtain ⟨e,y⟩:=y;subst e y;exact hs i σ _ hlt p
 · have e:i=n:=by omega
   subst e;exact .inl ⟨Ah _,hd σ H p⟩
theorem cXF (h:tA σ H (bZ1 λi j k H1=>(-1000000<=i/\i<=1000000/\-1000000<=j/\j<=1000000/\0<k/\k<=1000)/\R (bJJ i k (rQ i j k)) H1)):cJ2 tA σ H R:=h
theorem dZD {R:Int->Int->Int->Hp->Prop} (h:R i j k H):bZ1 R [.int i,.int j,.int k] H:=h
end
theorem gS {x:V} (h:cA x=true):eqV x x=true:=by
 cases x <;> first | rfl | (simp [eqV]; done) | (cases h; done)
section
variable {X:Cx}
end
def Lsts (H1 Hc:Hp) (ps:List Addr) (fs:List (List V)):Prop:=ps.length=fs.length/\∀ (j:Nat) p t,ps[j]?=some p->fs[j]?=some t->H1 p=none/\Hc p=some (.lst t)
theorem Lsts.keep {H1 Hc Hd:Hp} {ps:List Addr} {fs:List (List V)} (t:Lsts H1 Hc ps fs) (s:Same Hc Hd):Lsts H1 Hd ps fs:=⟨t.1,λj p u hp hu=>⟨(t.2 j p u hp hu).1,s _ _ (t.2 j p u hp hu).2⟩⟩
theorem Lsts.older {H0 H1 Hc:Hp} {ps:List Addr} {fs:List (List V)} (t:Lsts H1 Hc ps fs) (s:Same H0 H1):Lsts H0 Hc ps fs:=⟨t.1,λj p u hp hu=>⟨bA s (t.2 j p u hp hu).1,(t.2 j p u hp hu).2⟩⟩
theorem Lsts.put {H1 Hc:Hp} {ps:List Addr} {fs:List (List V)} {D:Addr} {o:HO} (t:Lsts H1 Hc ps fs) (h:∀ p∈ps,p≠D):Lsts H1 (upd Hc D o) ps fs:=⟨t.1,λj p u hp hu=>by
 obtain ⟨a,b⟩:=t.2 j p u hp hu;refine ⟨a,?_⟩;rw [aK (h p (Ai hp))];exact b⟩
theorem Lsts.snoc {H1 Hc:Hp} {ps:List Addr} {fs:List (List V)} {q:Addr} {g:List V} (t:Lsts H1 Hc ps fs) (a:H1 q=none) (b:Hc q=some (.lst g)):Lsts H1 Hc (ps++[q]) (fs++[g]):=by
 refine ⟨by rw [Aj,Aj,t.1]; rfl,λj p v hp hv=>?_⟩
 by_cases h:j<ps.length
 · rw [Ap h] at hp;rw [Ap (by rw [<-t.1]; exact h)] at hv
   exact t.2 j p v hp hv
 · rw [Av (by omega)] at hp
   rw [Av (by rw [<-t.1]; omega),<-t.1] at hv
   cases e:j - ps.length with
   | zero=>rw [e] at hp hv; cases hp; cases hv; exact ⟨a,b⟩
   | succ n=>rw [e] at hp; cases hp
theorem Lsts.nil {H1 Hc:Hp}:Lsts H1 Hc [] []:=⟨rfl,λj p u hp=>by cases hp⟩
theorem Lsts.mem {H1 Hc:Hp} {ps:List Addr} {fs:List (List V)} (t:Lsts H1 Hc ps fs) {p:Addr} (hp:p∈ps):∃ g∈fs,H1 p=none/\Hc p=some (.lst g):=by
 obtain ⟨j,hj⟩:=List.mem_iff_getElem?.mp hp;have hl:j<fs.length:=by rw [<-t.1]; exact (Ae.mp hj).1
 exact ⟨fs[j],Bv _,t.2 j p _ hj (Aa hl)⟩
section
variable {X:Cx}
theorem kN (ns:List Int):∀ n,n<=ns.length->preSum (λi=>ns.getD i 0) n=(ns.take n).sum
 | 0,_=>by simp [preSum]
 | n+1,h=>by
   have ih:=kN ns n (by omega)
   have e:ns.take (n+1)=ns.take n++[ns.getD n 0]:=by rw [Ba,Ac,Aa (by omega)]; rfl
   rw [e,List.sum_append,<-ih];simp [preSum]
theorem bQ3 {ns:List Int} (h:∀ n∈ns,0<=n/\n<=1000000):0<=ns.sum/\ns.sum<=1000000 * (ns.length:Int):=by
 induction ns with
 | nil=>simp
 | cons n r ih=>
   obtain ⟨a,b⟩:=h n (As ..);obtain ⟨c,d⟩:=ih λm hm=>h m (Ao _ hm);rw [Ct,Bb];constructor
   · omega
   · push_cast; omega
def eQB:List V->Hp->VK->Prop:=λxs H Q=>∃ (p:Addr) (ns:List Int),xs=[.ref p]/\rdL H p=some (ns.map V.int)/\(∀ n∈ns,0<=n/\n<=1000000)/\ns.length<=100000/\Q (.int ns.sum) H
theorem eXT (hc:X.calm=true):CallR X (.builtin "sum") eQB:=by
 intro pins s σ H xs us Q I r h;obtain ⟨p,ns,rfl,hp,hb,hn,q⟩:=h;obtain ⟨u,rfl,ru⟩:=fF r;cases ru;obtain ⟨its,rv,pl,hz⟩:=I.list (aR hp);have hl:=pl.isList
 have hlt:p<s.heap.objs.size:=by obtain ⟨_,e,_⟩:=hl; exact Ar e
 have hle:its.length=ns.length:=by have:=rv.length; rw [Ab] at this; omega
 refine call_sum_walk (Fc hl ?_);refine ⟨s.heap.objs.size,[s.heap.objs.size,p],[s.heap.objs.size],its.toArray.size,_,_,λi=>ns.getD i 0,rfl,Walks.list (A:=X.A.in1) (I.ok.hd hc) _ p (Bi hlt) its.toArray,
   ⟨⟨_,Ax _ rfl,rfl,rfl⟩,hl.push _⟩,λb hb=>?_,λi v hv=>?_,λj hj=>?_,λh' tk t' hk=>?_⟩
 · rw [show ({ s with heap:=_ }:Shared).heap=_ from rfl]
   simp only [List.mem_cons,List.not_mem_nil,or_false] at hb;rcases hb with e | e
   · rw [e]; simp [Heap.push]
   · rw [e]; exact Nat.lt_of_lt_of_le hlt (by simp [Heap.push])
 · have hv':its[i]?=some v:=by simpa using hv
   have hi:i<ns.length:=by rw [<-hle]; exact (Ae.mp hv').1
   obtain ⟨u,hu,ru⟩:=rv.get (show (ns.map V.int)[i]?=some (.int ns[i]) by rw [Ag,Aa hi]; rfl)
   rw [hv'] at hu;cases hu;obtain ⟨t,rfl⟩:=ru;exact ⟨t,by show Value.int ns[i] t=Value.int (ns.getD i 0) t; rw [Ac,Aa hi]; rfl⟩
 · have hj' : j < ns.length := by have : j < its.length := by simpa using hj
                                  omega
   have e:=kN ns (j+1) (by omega)
   obtain ⟨a1,a2⟩:=bQ3 (ns:=ns.take (j+1)) λm hm=>hb m (List.mem_of_mem_take hm);rw [Bs] at a2;have a3:ns.getD j 0∈ns:=by rw [Ac,Aa hj']; exact Bv _
   obtain ⟨b1,b2⟩:=hb _ a3;refine ⟨?_,?_⟩
   · show InLong (ns.getD j 0)
     unfold InLong;omega
   · rw [e];unfold InLong;omega
 · have e:preSum (λi=>ns.getD i 0) its.toArray.size=ns.sum:=by
     rw [Bf,hle,kN ns _ (Ah _),Bl]
   rw [e];exact ⟨.int ns.sum,H,I.kept (LSm.kept_iter hk),⟨_,rfl⟩,q⟩
theorem eXD {p:Addr} {ns:List Int} {H:Hp} {Q:VK} (e:rdL H p=some (ns.map V.int)) (hb:∀ n∈ns,0<=n/\n<=1000000) (hl:ns.length<=100000) (h:Q (.int ns.sum) H):eQB [.ref p] H Q:=⟨p,ns,rfl,e,hb,hl,h⟩
end
end L2
set_option maxHeartbeats 4000000
namespace L2
open PySem PySem.Spec PyProof.Rows
section
variable {κ:Type} [DecidableEq κ]
def bZ (kvs:List (κ×V)) (k:κ):Option V:=(kvs.find? λkv=>decide (kv.1=k)).map (·.2)
def dY (kvs:List (κ×V)) (k:κ) (v:V):List (κ×V) :=
 if (kvs.any λkv=>decide (kv.1=k))=true then kvs.map (λkv=>if kv.1=k then (kv.1,v) else kv) else kvs++[(k,v)]
theorem cH {p:κ×V} {r:List (κ×V)} {k:κ} (e:p.1=k):bZ (p::r) k=some p.2:=by simp [bZ,List.find?_cons,e]
theorem cD {p:κ×V} {r:List (κ×V)} {k:κ} (e:¬ p.1=k):bZ (p::r) k=bZ r k:=by simp [bZ,List.find?_cons,e]
theorem fL (k:κ):∀ kvs:List (κ×V),(kvs.any λkv=>decide (kv.1=k))=(bZ kvs k).isSome
 | []=>rfl
 | p::r=>by
   rw [He];by_cases e:p.1=k
   · simp only [cH e,decide_eq_true e,Bool.true_or,Option.isSome_some]
   · rw [cD e,Am e,Fl]; exact fL k r
theorem xI (k j:κ) (y:V):∀ kvs:List (κ×V),bZ (kvs.map λkv=>if kv.1=k then (kv.1,y) else kv) j=(bZ kvs j).map λx=>if j=k then y else x
 | []=>rfl
 | p::r=>by
   have ih:=xI k j y r
   rw [Au];by_cases h:p.1=k
   · rw [if_pos h];by_cases e:p.1=j
     · rw [cH (p:=(p.1,y)) e,cH e,Em,if_pos (e.symm.trans h)]
     · rw [cD (p:=(p.1,y)) e,cD e,ih]
   · rw [if_neg h];by_cases e:p.1=j
     · rw [cH (p:=p) e,cH e,Em,if_neg (λz=>h (e.trans z))]
     · rw [cD (p:=p) e,cD e,ih]
theorem sM (k j:κ) (y:V):∀ kvs:List (κ×V),bZ kvs k=none->bZ (kvs++[(k,y)]) j=if j=k then some y else bZ kvs j
 | [],_=>by
   by_cases e:k=j
   · rw [if_pos e.symm]; exact cH (p:=(k,y)) e
   · rw [if_neg (λz=>e z.symm)]; exact cD (p:=(k,y)) e
 | p::r,hn=>by
   rw [List.cons_append];have hk:¬ p.1=k:=λz=>by rw [cH z] at hn; cases hn
   rw [cD hk] at hn;have ih:=sM k j y r hn
   by_cases e:p.1=j
   · rw [cH e,cH e,if_neg (λz=>hk (e.trans z))]
   · rw [cD e,cD e,ih]
theorem bZA (kvs:List (κ×V)) (k j:κ) (y:V):bZ (dY kvs k y) j=if j=k then some y else bZ kvs j:=by
 unfold dY;by_cases a:(kvs.any λkv=>decide (kv.1=k))=true
 · rw [if_pos a,xI];rw [fL] at a;by_cases e:j=k
   · obtain ⟨x,hx⟩:=Fd.mp a;rw [if_pos e,e,hx,Em,if_pos rfl]
   · rw [if_neg e];cases bZ kvs j with
     | none=>rfl
     | some x=>rw [Em,if_neg e]
 · rw [if_neg a];refine sM k j y kvs ?_;rw [fL] at a;cases q:bZ kvs k with
   | none=>rfl
   | some x=>rw [q] at a; exact (a rfl).elim
theorem dB (kvs:List (κ×V)) (k:κ) (v:V):(dY kvs k v).length<=kvs.length+1:=by
 unfold dY;split
 · rw [Ab]; omega
 · rw [Aj,Bb,List.length_nil]; omega
theorem iT {kvs:List (κ×V)} {k:κ} (v:V) (h:bZ kvs k=none):dY kvs k v=kvs++[(k,v)]:=by
 unfold dY;rw [fL,h];exact if_neg (by decide)
theorem RelO.isSome_eq {o:Option V} {u:Option Value} (r:RelO o u):o.isSome=u.isSome:=by
 cases o with
 | none=>cases u with
   | none=>rfl
   | some _=>exact (show False from r).elim
 | some _=>cases u with
   | none=>exact (show False from r).elim
   | some _=>rfl
theorem RelO.getD {o:Option V} {u:Option Value} {d:V} {d':Value} (r:RelO o u) (rd:RelV d d'):RelV (o.getD d) (u.getD d'):=by
 cases o with
 | none=>cases u with
   | none=>exact rd
   | some _=>exact (show False from r).elim
 | some _=>cases u with
   | none=>exact (show False from r).elim
   | some _=>exact r
theorem KV.val {kvs:List (κ×V)} {vs:List (κ×Value)} (r:KV kvs vs) (k:κ):RelO (bZ kvs k) (valueAt vs k):=by
 unfold KV at r;induction r with
 | nil=>exact True.intro
 | @cons p q ps qs h t ih=>
   obtain ⟨h1,h2⟩:=h;by_cases e:p.1=k
   · have e':q.1=k:=h1.symm.trans e
     have b:valueAt (q::qs) k=some q.2:=by simp [valueAt,List.find?_cons,e']
     rw [cH e,b]; exact h2
   · have e':¬ q.1=k:=λz=>e (h1.trans z)
     have b:valueAt (q::qs) k=valueAt qs k:=by simp [valueAt,List.find?_cons,e']
     rw [cD e,b]; exact ih
theorem KV.any {kvs:List (κ×V)} {vs:List (κ×Value)} (r:KV kvs vs) (k:κ):(kvs.any λkv=>decide (kv.1=k))=vs.any λkv=>decide (kv.1=k):=by
 unfold KV at r;induction r with
 | nil=>rfl
 | cons h t ih=>rw [He,He,ih,h.1]
theorem KV.repl {kvs:List (κ×V)} {vs:List (κ×Value)} (r:KV kvs vs) (k:κ) {y:V} {u:Value} (ry:RelV y u) :
   KV (kvs.map λkv=>if kv.1=k then (kv.1,y) else kv) (vs.map λkv=>if kv.1=k then (kv.1,u) else kv):=by
 unfold KV at r ⊢;induction r with
 | nil=>exact .nil
 | @cons p q ps qs h t ih=>
   rw [Au,Au];refine .cons ?_ ih;obtain ⟨h1,h2⟩:=h;by_cases e:p.1=k
   · rw [if_pos e,if_pos (h1.symm.trans e)]; exact ⟨h1,ry⟩
   · rw [if_neg e,if_neg (λz=>e (h1.trans z))]; exact ⟨h1,h2⟩
theorem KV.put {kvs:List (κ×V)} {vs:List (κ×Value)} (r:KV kvs vs) (k:κ) {y:V} {u:Value} (ry:RelV y u):KV (dY kvs k y) (stored vs k u):=by
 unfold dY stored;rw [r.any k];by_cases e:(vs.any λkv=>decide (kv.1=k))=true
 · rw [if_pos e,if_pos e]; exact r.repl k ry
 · rw [if_neg e,if_neg e]; exact Paired.snoc r ⟨rfl,ry⟩
theorem KV.keys {kvs:List (κ×V)} {vs:List (κ×Value)} (r:KV kvs vs):kvs.map (·.1)=vs.map (·.1):=by
 unfold KV at r;induction r with
 | nil=>rfl
 | cons h t ih=>rw [Au,Au,ih,h.1]
theorem KV.length {kvs:List (κ×V)} {vs:List (κ×Value)} (r:KV kvs vs):kvs.length=vs.length:=Paired.length r
end
theorem pO {P:Program} {w:World} {k:Key} {u:Value} (r:RelV (kV k) u):(bE P w).is k u=true:=by
 cases k with
 | inl i=>obtain ⟨t,e⟩:=(show ∃ t,u=Value.int i t from r); subst e; exact yE P w i t
 | inr x=>obtain ⟨t,e⟩:=(show ∃ t,u=Value.str x t from r); subst e; exact xY P w x t
theorem sV {P:Program} {w:World}:∀ {ks:List Key} {us:List Value},Vals (ks.map kV) us->ItemsAre (bE P w) ks us
 | [],_,r=>by rw [Fx] at r; cases r; exact .nil
 | k::ks,_,r=>by
   rw [Au] at r;cases r with
   | cons h t=>exact .cons (pO h) (sV t)
abbrev KT (H:Hp):List (List Key×V)->List (List Key×Addr×Value)->Prop:=Paired λp q=>p.1=q.1/\H q.2.1=some (.tup (p.1.map kV))/\RelV p.2 q.2.2
theorem KT.val {H:Hp} {kvs:List (List Key×V)} {xs:List (List Key×Addr×Value)} (r:KT H kvs xs) (k:List Key):RelO (bZ kvs k) ((atKey xs k).map (·.2)):=by
 induction r with
 | nil=>exact True.intro
 | @cons p q ps qs h t ih=>
   obtain ⟨h1,_,h2⟩:=h;by_cases e:p.1=k
   · have e':q.1=k:=h1.symm.trans e
     have b:atKey (q::qs) k=some q.2:=by simp [atKey,List.find?_cons,e']
     rw [cH e,b]; exact h2
   · have e':¬ q.1=k:=λz=>e (h1.trans z)
     have b:atKey (q::qs) k=atKey qs k:=by simp [atKey,List.find?_cons,e']
     rw [cD e,b]; exact ih
theorem KT.repl {H:Hp} {kvs:List (List Key×V)} {xs:List (List Key×Addr×Value)} (r:KT H kvs xs) (k:List Key) {y:V} {u:Value} (ry:RelV y u) :
   KT H (kvs.map λkv=>if kv.1=k then (kv.1,y) else kv) (xs.map (putAt k u)):=by
 induction r with
 | nil=>exact .nil
 | @cons p q ps qs h t ih=>
   rw [Au,Au];refine .cons ?_ ih;obtain ⟨h1,h2,h3⟩:=h;unfold putAt;by_cases e:p.1=k
   · rw [if_pos e,if_pos (h1.symm.trans e)]; exact ⟨h1,h2,ry⟩
   · rw [if_neg e,if_neg (λz=>e (h1.trans z))]; exact ⟨h1,h2,h3⟩
theorem KT.put {H:Hp} {kvs:List (List Key×V)} {xs:List (List Key×Addr×Value)} (r:KT H kvs xs) (k:List Key) {b:Addr} {y:V} {u:Value} (hb:H b=some (.tup (k.map kV))) (ry:RelV y u) :
   KT H (dY kvs k y) (storedH xs k b u):=by
 have e:(kvs.any λkv=>decide (kv.1=k))=(atKey xs k).isSome:=by
   rw [fL,(r.val k).isSome_eq,Option.isSome_map]
 unfold dY storedH;rw [e];by_cases q:(atKey xs k).isSome=true
 · rw [if_pos q,if_pos q]; exact r.repl k ry
 · rw [if_neg q,if_neg q]; exact Paired.snoc r ⟨rfl,hb,ry⟩
theorem KT.keeps {H H':Hp} {kvs:List (List Key×V)} {xs:List (List Key×Addr×Value)} (r:KT H kvs xs) (ht:∀ b ys,H b=some (.tup ys)->H' b=some (.tup ys)):KT H' kvs xs :=
 Paired.mapP r λ_ _ z=>⟨z.1,ht _ _ z.2.1,z.2.2⟩
section
variable {P:Program} {w:World} {H:Hp} {h:Heap} {a:Addr}
theorem dQJ {u:HO} (ok:HOk P w H h) (e:Rd H a u):ObjOk P w H h a u:=e.ok ok
theorem iA {kvs:List (Key×V)} (ok:HOk P w H h) (e:Rd H a (.dK kvs)):kvs.length<=sizeLine/\(a == sysModules)=false/\∃ vs,KV kvs vs/\h.DictOf (bE P w) a vs :=
 show ObjOk P w H h a (.dK kvs) from dQJ ok e
theorem dQD {kvs:List (Key×V)} (ok:HOk P w H h) (e:H a=some (.dK kvs)):kvs.length<=sizeLine/\(a == sysModules)=false/\∃ vs,KV kvs vs/\h.DictOf (bE P w) a vs:=iA ok (.inl e)
theorem mC {ks:List Key} (ok:HOk P w H h) (e:H a=some (.tup (ks.map kV))):(tupleKind (bE P w)).is h ks a:=by
 obtain ⟨_,its,r,o,h1,h2,n,h3⟩:=(show ObjOk P w H h a (.tup (ks.map kV)) from ok a _ e);exact ⟨o,its.toArray,n,h1,h2,h3,by simpa using sV r⟩
theorem oP {kvs:List (List Key×V)} (ok:HOk P w H h) (e:Rd H a (.dT kvs)):kvs.length<=sizeLine/\(a == sysModules)=false/\
   ∃ xs,KT H kvs xs/\h.DictOfH (tupleKind (bE P w)) a xs:=by
 obtain ⟨z,y,xs,r,o,es,ep,h1,h2,h3,h4,h5⟩:=(show ObjOk P w H h a (.dT kvs) from dQJ ok e);refine ⟨z,y,xs,r,o,es,ep,h1,h2,h3,h4,λx hx=>?_,h5⟩;have all:∀ {l:List (List Key×V)} {m:List (List Key×Addr×Value)},KT H l m->∀ x∈m,(tupleKind (bE P w)).is h x.1 x.2.1:=by
   intro l m q;induction q with
   | nil=>intro x hx; exact nomatch hx
   | @cons p q ps qs hq t ih=>
     intro x hx;rcases Bd.mp hx with e | hx
     · subst e;exact mC ok (by rw [<-hq.1]; exact hq.2.1)
     · exact ih x hx
 exact all r x hx
theorem dQH {kvs:List (List Key×V)} (ok:HOk P w H h) (e:H a=some (.dT kvs)):kvs.length<=sizeLine/\(a == sysModules)=false/\
   ∃ xs,KT H kvs xs/\h.DictOfH (tupleKind (bE P w)) a xs:=oP ok (.inl e)
end
def oX (H:Hp) (a:Addr) (y:V) (r:Option V):Prop :=
 (∃ kvs k,Rd H a (.dK kvs)/\y=kV k/\r=bZ kvs k)\/∃ kvs k b,Rd H a (.dT kvs)/\y=.ref b/\H b=some (.tup (k.map kV))/\r=bZ kvs k
def dZ1 (H:Hp) (a:Addr) (y v:V) (H':Hp):Prop :=
 (∃ kvs k,H a=some (.dK kvs)/\y=kV k/\kvs.length<sizeLine/\H'=upd H a (.dK (dY kvs k v)))\/
 ∃ kvs k b,H a=some (.dT kvs)/\y=.ref b/\H b=some (.tup (k.map kV))/\kvs.length<sizeLine/\H'=upd H a (.dT (dY kvs k v))
section
variable {X:Cx} {pins:Q2} {σ:St} {H:Hp} {s:Shared} {a:Addr} {y v:V} {u r:Value} {o:Option V} {A:Around} {E:Q0}
theorem Inv.big (I:Inv X pins σ H s):sysModules<s.heap.objs.size:=by
 have h:mainGlobals<s.heap.objs.size:=(I.mod.glob.keeps I.bk).lt
 exact Nat.lt_trans (by decide) h
theorem aJT {Q:Q0} (hu:A.units+1<cLine) (I:Inv X pins σ H s) (g:oX H a y (some v)) (ry:RelV y u) (h:∀ w' s',Inv X pins σ H s'->RelV v w'->Q w' s') :
   wpAny (model X.prog X.w) A (getItem (.ref a) u) Q E s:=by
 rcases g with ⟨kvs,k,e,ey,l⟩ | ⟨kvs,k,b,e,ey,eb,l⟩
 · subst ey;obtain ⟨z,hd,vs,rel,dd⟩:=iA I.hok e;obtain ⟨w',hw,rw'⟩:=RelO.some_of (v:=v) (o:=valueAt vs k) (by rw [l]; exact rel.val k)
   exact wpAny_getItem_of (pO ry) dd.mapOf hw (h w' _ (I.tok _) rw')
 · subst ey;cases (show u=Value.ref b from ry);obtain ⟨z,hd,xs,rel,dd⟩:=oP I.hok e;obtain ⟨w',hw,rw'⟩:=RelO.some_of (v:=v) (o:=(atKey xs k).map (·.2)) (by rw [l]; exact rel.val k)
   obtain ⟨p,hp,hp2⟩:=Option.map_eq_some_iff.mp hw;refine wpAny_getItem_heap (Eu hu) (mC I.hok eb) dd hp ?_;rw [hp2];exact h w' _ (I.tok _) rw'
theorem eQV {Q:Q0} (hu:A.units+1<cLine) (I:Inv X pins σ H s) (g:oX H a y o) (ry:RelV y u) (h:∀ s',Inv X pins σ H s'->Q (.bool o.isSome) s') :
   wpAny (model X.prog X.w) A (compareOp .In u (.ref a)) Q E s:=by
 rcases g with ⟨kvs,k,e,ey,l⟩ | ⟨kvs,k,b,e,ey,eb,l⟩
 · subst ey;obtain ⟨z,hd,vs,rel,dd⟩:=iA I.hok e;refine wpAny_in_of (pO ry) hd dd.mapOf ?_;rw [<-(rel.val k).isSome_eq,<-l];exact h _ (I.tok _)
 · subst ey;cases (show u=Value.ref b from ry);obtain ⟨z,hd,xs,rel,dd⟩:=oP I.hok e;refine wpAny_in_heap (Eu hu) (mC I.hok eb) hd dd ?_;have q:=(rel.val k).isSome_eq
   rw [Option.isSome_map] at q;rw [<-q,<-l];exact h _ (I.tok _)
theorem cXM {Q:Q0} (hu:A.units+1<cLine) (I:Inv X pins σ H s) (g:oX H a y o) (ry:RelV y u) (h:∀ s',Inv X pins σ H s'->Q (.bool (!o.isSome)) s') :
   wpAny (model X.prog X.w) A (compareOp .NotIn u (.ref a)) Q E s:=by
 rcases g with ⟨kvs,k,e,ey,l⟩ | ⟨kvs,k,b,e,ey,eb,l⟩
 · subst ey;obtain ⟨z,hd,vs,rel,dd⟩:=iA I.hok e;refine wpAny_notIn_of (pO ry) hd dd.mapOf ?_;rw [<-(rel.val k).isSome_eq,<-l];exact h _ (I.tok _)
 · subst ey;cases (show u=Value.ref b from ry);obtain ⟨z,hd,xs,rel,dd⟩:=oP I.hok e;refine wpAny_notIn_heap (Eu hu) (mC I.hok eb) hd dd ?_;have q:=(rel.val k).isSome_eq
   rw [Option.isSome_map] at q;rw [<-q,<-l];exact h _ (I.tok _)
theorem aXR {h':Heap} {t':Nat} {ob:HO} (I:Inv X pins σ H s) (mu:Mut (H a)) (hs:Heap.SameBut a s.heap h') (he:∃ q,h'.get? a=some q) (new:ObjOk X.prog X.w (upd H a ob) h' a ob) :
   Inv X pins σ (upd H a ob) { s with heap:=h',toks:=t' } :=
 I.write (x:=a) (e:=a) mu (.inl rfl) (λb q hb z=>(hs.2 b hb).trans z) he new
theorem bJK {P:Program} {w:World} {H':Hp} {h':Heap} {kvs:List (Key×V)} {vs:List (Key×Value)} (z:kvs.length<=sizeLine) (hd:(a == sysModules)=false) (rel:KV kvs vs) (dd:h'.DictOf (bE P w) a vs) :
   ObjOk P w H' h' a (.dK kvs):=⟨z,hd,vs,rel,dd⟩
theorem bXA {H':Hp} {Q:Unit->Shared->Prop} (hu:A.units+1<cLine) (I:Inv X pins σ H s) (g:dZ1 H a y v H') (ry:RelV y u) (rv:RelV v r) (h:∀ s',Inv X pins σ H' s'->Q () s') :
   wpAny (model X.prog X.w) A (setItem (.ref a) u r) Q E s:=by
 rcases g with ⟨kvs,k,e,ey,l,eH⟩ | ⟨kvs,k,b,e,ey,eb,l,eH⟩
 · subst ey eH;obtain ⟨z,hd,vs,rel,dd⟩:=dQD I.hok e;have hz:vs.length<=sizeLine:=by rw [<-rel.length]; exact z
   have hl:(dY kvs k v).length<=sizeLine:=by have:=dB kvs k v; omega
   refine wpAny_setItem_pairs (hsz:=hz) (pO ry) dd λh' dd' hs=>h _ ?_;have he:∃ q,h'.get? a=some q:=let ⟨q,_,_,hq,_⟩:=dd'; ⟨q,hq⟩
   exact aXR I (by rw [e]; exact True.intro) hs he (bJK hl hd (rel.put k rv) dd')
 · subst ey eH;cases (show u=Value.ref b from ry);obtain ⟨z,hd,xs,rel,dd⟩:=dQH I.hok e;have hz:xs.length<=sizeLine:=by rw [<-Paired.length rel]; exact z
   have hl:(dY kvs k v).length<=sizeLine:=by have:=dB kvs k v; omega
   refine wpAny_setItem_heap (hsz:=hz) (Eu hu) (mC I.hok eb) dd λh' dd' hs=>h _ ?_;obtain ⟨q,es,ep,hq,h2,h3,h4,_,h5⟩:=dd';refine aXR I (by rw [e]; exact True.intro) hs ⟨q,hq⟩ ⟨hl,hd,_,(rel.put k eb rv).keeps λc ys ec=>?_,q,es,ep,hq,h2,h3,h4,h5⟩
   rw [aK (eXM ec e (λz=>nomatch z))]
   exact ec
end
section
variable {X:Cx} {pins:Q2} {σ:St} {H:Hp} {s:Shared} {a:Addr} {kvs:List (Key×V)} {k:Key} {u:Value} {A:Around} {E:Q0}
end
def dJ0 (i:Expr):Prop:=∀ ov iv,subscripted i false ov iv=operate [ov,iv] (getItem ov iv)
theorem cZT {prog:Program} {w:World} {A:Around} {E:Q0} {s:Shared} {env:Env} {value slice:Expr} {pos:Pos} {T id:String} {Q:Q0}
   (hl:typeLookup (.type T) "__getitem__"=pure (some (.builtin id))) (hs:dJ0 slice)
   (h:wpAny (model prog w) A (eval value env) (λo s₁=>wpAny (model prog w) A (eval slice env) (λi s₂=>s₂.TypeIs o T/\wpAny (model prog w) A (getItem o i) Q E s₂) E s₁) E s) :
   wpAny (model prog w) A (eval (.Subscript value slice pos) env) Q E s:=by
 refine Subscript_ (Ce h (λo s₁ h₁=>Ce h₁ (λi s₂ h₂=>?_) λ_ _ x=>x) λ_ _ x=>x);obtain ⟨hT,h₂⟩:=h₂;unfold subscriptTail;refine Ad ?_;rw [getitemInPython_of_ne hT.not_modules];refine Ad (Ge hT hl ?_);have fin:wpAny (model prog w) A (subscripted slice false o i) (λr s₃=>wpAny (model prog w) A (letTemporaryGo value o r >>= λ_=>pure r) Q E s₃) E s₂:=by
   rw [hs o i];exact wpAny_operating (Ce h₂ (λr s₃ h₃=>Ad (wpAny_letTemporaryGo (Al h₃))) λ_ _ x=>x)
 first
   | exact Al (Ad fin)
   | exact Ad (Al (Ad fin))
   | exact Ad fin
theorem xF {X:Cx} {pins:Q2} {σ:St} {H:Hp} {s:Shared} {a:Addr} {y:V} {o:Option V} (I:Inv X pins σ H s) (g:oX H a y o):s.TypeIs (.ref a) "dict" := by
 rcases g with ⟨kvs,k,e,_,_⟩ | ⟨kvs,k,b,e,_,_,_⟩
 · obtain ⟨_,_,vs,_,dd⟩:=iA I.hok e;exact dd.typeIs
 · obtain ⟨_,_,xs,_,dd⟩:=oP I.hok e;exact dd.typeIs
def cJW (td ty:TE):TE:=λσ H Q=>td σ H λx H1=>ty σ H1 λy H2=>∃ a v,x=.ref a/\oX H2 a y (some v)/\Q v H2
def cJ8 (td ty tv:TE):TS:=λD σ H=>tv σ H λv H1=>td σ H1 λx H2=>ty σ H2 λy H3=>∃ a H4,x=.ref a/\dZ1 H3 a y v H4/\D.nx σ H4
section
variable {X:Cx} {o i e value:Expr} {pos pos' tpos:Pos} {td ty tv:TE}
theorem hV (hu:X.A.units+1<cLine) (ho:PE X o td) (hi:PE X i ty) (hs:dJ0 i):PE X (.Subscript o i pos) (cJW td ty):=by
 intro pins s σ H Q I h;refine cZT PySem.F.slot_dict_getitem.lookup hs (thn (ho pins s σ H _ I h) λu s1 ⟨x,H1,I1,rx,q1⟩=>thn (hi pins s1 σ H1 _ I1 q1) λiv s2 ⟨y,H2,I2,ry,a,v,ex,g,q2⟩=>?_);subst ex;obtain rfl:u=Value.ref a:=rx;exact ⟨xF I2 g,aJT hu I2 g ry λw' s3 I3 rw'=>⟨v,H2,I3,rw',q2⟩⟩
theorem dR (hu:X.A.units+1<cLine) (ho:PE X o td) (hi:PE X i ty) (hv:PE X value tv) (hs:swapsWith value (some (.Subscript o i pos')) pos.line X.env=pure false) :
   PS X (.Assign [.Subscript o i pos'] value pos) (cJ8 td ty tv):=by
 intro pins s σ H D I h;refine wpAny_Assign_Subscript (thn (hv pins s σ H _ I h) λr s1 ⟨v,H1,I1,rv,q1⟩=>thn (ho pins s1 σ H1 _ I1 q1) λu s2 ⟨x,H2,I2,rx,q2⟩=>thn (hi pins s2 σ H2 _ I2 q2) λiv s3 ⟨y,H3,I3,ry,a,H4,ex,g,q3⟩=>?_) hs;subst ex;obtain rfl:u=Value.ref a:=rx;exact bXA hu I3 g ry rv λs4 I4=>⟨σ,H4,I4,q3⟩
end
theorem bZH {P:Program} {w:World} {H:Hp} (h:Heap) (hb:sysModules<h.objs.size):ObjOk P w H (h.push { cls:=.type "dict",data:=.dict #[] }) h.objs.size (.dK []) :=
 ⟨Bw _,Eo.mpr (Ne.symm (Bi hb)),[],.nil,Heap.DictOf.new h⟩
theorem cQK {P:Program} {w:World} {H:Hp} (h:Heap) (hb:sysModules<h.objs.size):ObjOk P w H (h.push { cls:=.type "dict",data:=.dict #[] }) h.objs.size (.dT []) :=
 ⟨Bw _,Eo.mpr (Ne.symm (Bi hb)),[],.nil,_,#[],0,Ax _ rfl,⟨rfl,rfl,rfl⟩,rfl,rfl,List.nodup_nil⟩
def bJW:TE:=λ_ H Q=>∀ p,H p=none->Q (.ref p) (upd H p (.dK []))
def bX4:TE:=λ_ H Q=>∀ p,H p=none->Q (.ref p) (upd H p (.dT []))
section
variable {X:Cx} {pos:Pos}
theorem pI:PE X (.Dict [] [] pos) bJW:=λpins s σ H Q I h=>
 wpAny_Dict_empty ⟨.ref s.heap.objs.size,_,I.laid (a:=s.heap.objs.size) (o:=.dK []) (t':=s.toks) (λ_ _ q=>Af _ q) (Ah _) (bZH s.heap I.big),rfl,h _ (I.hok.fresh (Ah _))⟩
theorem qP:PE X (.Dict [] [] pos) bX4:=λpins s σ H Q I h=>
 wpAny_Dict_empty ⟨.ref s.heap.objs.size,_,I.laid (a:=s.heap.objs.size) (o:=.dT []) (t':=s.toks) (λ_ _ q=>Af _ q) (Ah _) (cQK s.heap I.big),rfl,h _ (I.hok.fresh (Ah _))⟩
end
def IsD (H:Hp) (a:Addr):Prop:=(∃ kvs,Rd H a (.dK kvs))\/∃ kvs,Rd H a (.dT kvs)
theorem dZ2 {X:Cx} {pins:Q2} {σ:St} {H:Hp} {s:Shared} {a:Addr} (I:Inv X pins σ H s) (d:IsD H a) :
   s.TypeIs (.ref a) "dict"/\(∀ b,Value.ref a=.ref b->∃ ob,s.heap.get? b=some ob/\ob.dict=none)/\(a == sysModules)=false:=by
 rcases d with ⟨kvs,e⟩ | ⟨kvs,e⟩
 · obtain ⟨_,hd,vs,_,dd⟩:=iA I.hok e;refine ⟨dd.typeIs,λb q=>?_,hd⟩;cases q;obtain ⟨ob,_,_,h1,h2,_⟩:=dd;exact ⟨ob,h1,h2.2.1⟩
 · obtain ⟨_,hd,xs,_,dd⟩:=oP I.hok e;refine ⟨dd.typeIs,λb q=>?_,hd⟩;cases q;obtain ⟨ob,_,_,h1,h2,_⟩:=dd;exact ⟨ob,h1,h2.2.1⟩
section
variable {X:Cx} {pins:Q2} {σ:St} {H:Hp} {s:Shared} {a:Addr} {y d:V} {u r:Value} {o:Option V} {A:Around} {E:Q0}
theorem dZK {Q:Q0} (hu:A.units+1<cLine) (I:Inv X pins σ H s) (g:oX H a y o) (ry:RelV y u) (h:∀ w' s',Inv X pins σ H s'->RelV (o.getD .non) w'->Q w' s') :
   wpAny (model X.prog X.w) A (call (.builtin "dict.get") [.ref a,u]) Q E s:=by
 rcases g with ⟨kvs,k,e,ey,l⟩ | ⟨kvs,k,b,e,ey,eb,l⟩
 · subst ey;obtain ⟨z,hd,vs,rel,dd⟩:=iA I.hok e;refine Fg Bt dd.typeIs Fh (PySem.F.args_dict_get_2 _ _) (meets_dict_get (bE X.prog X.w) a (pO ry) hd) ⟨_,dd.mapOf,h _ _ (I.tok _) ?_⟩;rw [l];exact (rel.val k).getD rfl
 · subst ey;cases (show u=Value.ref b from ry);obtain ⟨z,hd,xs,rel,dd⟩:=oP I.hok e;refine Fg Bt dd.typeIs Fh (PySem.F.args_dict_get_2 _ _) (meetsH_dict_get (tupleKind (bE X.prog X.w)) a b hd) ⟨Eu hu,k,xs,mC I.hok eb,dd,h _ _ (I.tok _) ?_⟩;rw [l];exact (rel.val k).getD rfl
theorem dZY {Q:Q0} (hu:A.units+1<cLine) (I:Inv X pins σ H s) (g:oX H a y o) (ry:RelV y u) (rd:RelV d r) (h:∀ w' s',Inv X pins σ H s'->RelV (o.getD d) w'->Q w' s') :
   wpAny (model X.prog X.w) A (call (.builtin "dict.get") [.ref a,u,r]) Q E s:=by
 rcases g with ⟨kvs,k,e,ey,l⟩ | ⟨kvs,k,b,e,ey,eb,l⟩
 · subst ey;obtain ⟨z,hd,vs,rel,dd⟩:=iA I.hok e;refine Fg Bt dd.typeIs Fh (PySem.F.args_dict_get_3 _ _ _) (meets_dict_get_default (bE X.prog X.w) a (pO ry) hd r) ⟨_,dd.mapOf,h _ _ (I.tok _) ?_⟩;rw [l];exact (rel.val k).getD rd
 · subst ey;cases (show u=Value.ref b from ry);obtain ⟨z,hd,xs,rel,dd⟩:=oP I.hok e;refine Fg Bt dd.typeIs Fh (PySem.F.args_dict_get_3 _ _ _) (meetsH_dict_get_default (tupleKind (bE X.prog X.w)) a b hd r) ⟨Eu hu,k,xs,mC I.hok eb,dd,h _ _ (I.tok _) ?_⟩;rw [l];exact (rel.val k).getD rd
end
section
variable {X:Cx} {o e f:Expr} {apos cpos:Pos} {td ty tx:TE}
end
section
variable {X:Cx} {pins:Q2} {σ:St} {H:Hp} {s:Shared} {a:Addr} {kvs:List (Key×V)} {A:Around} {E:Q0}
theorem cQW {Q:Q0} (I:Inv X pins σ H s) (e:Rd H a (.dK kvs)) (h:∀ p s',H p=none->Inv X pins σ (upd H p (.dK kvs)) s'->Q (.ref p) s'):wpAny (model X.prog X.w) A (call (.type "dict") [.ref a]) Q E s:=by
 obtain ⟨z,hd,vs,rel,dd⟩:=iA I.hok e;refine kt_call_dict hd dd (by rw [<-rel.length]; exact z) λh' dd' hs=>?_
 refine h _ _ (I.hok.fresh (Ah _)) (I.laid (a:=s.heap.objs.size) (o:=.dK kvs) (t':=s.toks) (λb q hq=>?_) (Ah _) (bJK z (Eo.mpr (Ne.symm (Bi I.big))) rel dd'));exact (hs.2 b (Bi (Ar hq))).trans (Af _ hq)
end
section
variable {X:Cx} {pins:Q2} {σ:St} {H:Hp} {s:Shared} {a:Addr} {y:V} {u:Value} {A:Around} {E:Q0}
end
end L2
set_option maxHeartbeats 4000000
namespace L2
open PySem PySem.Spec PyProof.Rows
section
variable {X:Cx} {pins:Q2} {σ:St} {H:Hp} {s:Shared}
theorem Inv.re {H':Hp} (I:Inv X pins σ H s) (hn:∀ b,H b=none->H' b=none) (tups:∀ b xs,X.H₀ b=some (.tup xs)->H' b=some (.tup xs)) (frzs:∀ b o u,X.H₀ b=some (.frz o u)->H' b=some (.frz o u))
   (tbls:∀ b ps,X.H₀ b=some (.tbl ps)->∃ more,H' b=some (.tbl (ps++more))) (hok:HOk X.prog X.w H' s.heap):Inv X pins σ H' s :=
 ⟨I.ok,I.os,I.bare,⟨I.base.keep,I.base.slot,λb o e n hx=>hn b (I.base.free b o e n hx),I.base.there,tups,frzs,tbls⟩,I.loc,I.cell,hn _ I.free,λx c e=>hn c (I.freeC x c e),λp hp=>by
   obtain ⟨a,b,c,d,e⟩:=I.pin p hp;exact ⟨a,hn _ b,c,d,e⟩,hok,I.len⟩
def dJZ:HO->Bool
 | .dK _=>true
 | .dT _=>true
 | _=>false
theorem Inv.freeze {a:Addr} {u:HO} {o:Obj} (I:Inv X pins σ H s) (ha:H a=some u) (hu:dJZ u=true) (ho:s.heap.get? a=some o):Inv X pins σ (upd H a (.frz o u)) s:=by
 have ne:∀ c v,H c=some v->dJZ v=false->c≠a:=λc v q n z=>by rw [z,ha] at q; cases q; rw [n] at hu; cases hu
 have own:∀ c y,H c=some (.own y)->upd H a (.frz o u) c=some (.own y):=λc y q=>by rw [aK (ne c _ q rfl)]; exact q
 have tup:∀ c xs,H c=some (.tup xs)->upd H a (.frz o u) c=some (.tup xs):=λc xs q=>by rw [aK (ne c _ q rfl)]; exact q
 refine I.re (λb q=>by rw [aK (λz=>by rw [z,ha] at q; cases q)]; exact q) (λb xs q=>tup b xs (I.base.tups b xs q)) (λb o' v q=>?_) (λb ps q=>?_) (λb v q=>?_)
 · have:=I.base.frzs b o' v q
   rw [aK (ne b _ this rfl)];exact this
 · obtain ⟨m,e⟩:=I.base.tbls b ps q;exact ⟨m,by rw [aK (ne b _ e rfl)]; exact e⟩
 · by_cases hb:b=a
   · subst hb;rw [aD] at q;cases q;exact (show s.heap.get? b=some o/\ObjOk X.prog X.w (upd H b (.frz o u)) s.heap b u from ⟨ho,(I.hok b _ ha).stay (λ_ _ _ q=>q) (λc=>own c b) tup⟩)
   · rw [aK hb] at q;exact (I.hok b v q).stay (λ_ _ _ q=>q) (λc=>own c b) tup
def unf (Hs H:Hp):Hp:=λb=>match H b with
 | some (.frz o u)=>(match Hs b with | some (.frz _ _)=>some (.frz o u) | _=>some u)
 | x=>x
theorem fN {Hs H:Hp} {b:Addr} {u:HO} (h:H b=some u) (n:∀ o v,u≠.frz o v):unf Hs H b=some u:=by
 unfold unf;rw [h];cases u <;> first | rfl | exact absurd rfl (n _ _)
theorem yP {Hs H:Hp} {b:Addr} (h:H b=none):unf Hs H b=none:=by unfold unf; rw [h]
theorem vM {Hs H:Hp} {b:Addr} {o:Obj} {u:HO} (h:H b=some (.frz o u)) (n:∀ o v,Hs b≠some (.frz o v)):unf Hs H b=some u:=by
 unfold unf;rw [h];dsimp only;split
 · rename_i e
   exact absurd e (n _ _)
 · rfl
theorem mL {Hs H:Hp} {b:Addr} {o o':Obj} {u u':HO} (h:H b=some (.frz o u)) (n:Hs b=some (.frz o' u')):unf Hs H b=some (.frz o u):=by
 unfold unf;rw [h];dsimp only;rw [n]
theorem Inv.unfreeze {Hs:Hp} (I:Inv X pins σ H s) (h0:∀ b o u,X.H₀ b=some (.frz o u)->Hs b=some (.frz o u)):Inv X pins σ (unf Hs H) s:=by
 have own:∀ c y,H c=some (.own y)->unf Hs H c=some (.own y):=λc y q=>fN q λ_ _ z=>by cases z
 have tup:∀ c xs,H c=some (.tup xs)->unf Hs H c=some (.tup xs):=λc xs q=>fN q λ_ _ z=>by cases z
 refine I.re (λb q=>yP q) (λb xs q=>tup b xs (I.base.tups b xs q)) (λb o u q=>mL (I.base.frzs b o u q) (h0 b o u q)) (λb ps q=>?_) (λb u q=>?_)
 · obtain ⟨m,e⟩:=I.base.tbls b ps q;exact ⟨m,fN e λ_ _ z=>by cases z⟩
 · cases e:H b with
   | none=>rw [yP e] at q; cases q
   | some v=>
     have ok:=I.hok b v e
     by_cases hf:∃ o v',v=.frz o v'
     · obtain ⟨o,v',rfl⟩:=hf;have ok2:s.heap.get? b=some o/\ObjOk X.prog X.w H s.heap b v':=ok
       by_cases hs:∃ o' u',Hs b=some (.frz o' u')
       · obtain ⟨o',u',hs⟩:=hs;rw [mL e hs] at q;cases q;exact ok.stay (λ_ _ _ q=>q) (λc=>own c b) tup
       · rw [vM e λo v z=>hs ⟨o,v,z⟩] at q;cases q;exact ok2.2.stay (λ_ _ _ q=>q) (λc=>own c b) tup
     · rw [fN e λo v' z=>hf ⟨o,v',z⟩] at q;cases q;exact ok.stay (λ_ _ _ q=>q) (λc=>own c b) tup
def bZS (Hs:Hp) (D:Ends):Ends:=⟨λσ H=>D.nx σ (unf Hs H),λv H=>D.rt v (unf Hs H),λσ H=>D.bk σ (unf Hs H),λσ H=>D.ct σ (unf Hs H)⟩
end
section
variable {X:Cx} {e:Expr} {st:Stmt}
def eQT (t:TE):TE:=λσ H Q=>t σ H λv H'=>Q v (unf H H')
def dQF (t:TS):TS:=λD σ H=>t (bZS H D) σ H
theorem bZ6 {t:TE} (h:PE X e t):PE X e (eQT t):=λpins s σ H Q I q=>thn (h pins s σ H _ I q) λv s' ⟨x,H',I',r,q'⟩=>⟨x,unf H H',I'.unfreeze λb o u e=>I.base.frzs b o u e,r,q'⟩
theorem zS {t:TS} (h:PS X st t):PS X st (dQF t):=λpins s σ H D I q=>thn (h pins s σ H _ I q) λf s' q'=>by
 cases f with
 | next=>obtain ⟨σ',H',I',r⟩:=q'; exact ⟨σ',unf H H',I'.unfreeze λb o u e=>I.base.frzs b o u e,r⟩
 | brk=>obtain ⟨σ',H',I',r⟩:=q'; exact ⟨σ',unf H H',I'.unfreeze λb o u e=>I.base.frzs b o u e,r⟩
 | cont=>obtain ⟨σ',H',I',r⟩:=q'; exact ⟨σ',unf H H',I'.unfreeze λb o u e=>I.base.frzs b o u e,r⟩
 | ret u=>obtain ⟨v,σ',H',I',rv,r⟩:=q'; exact ⟨v,σ',unf H H',I'.unfreeze λb o u e=>I.base.frzs b o u e,rv,r⟩
theorem dJ9 {t:TE} {σ:St} {H:Hp} {Q:VK} (h:t σ H λv H'=>Q v (unf H H')):eQT t σ H Q:=h
theorem dJG {t:TS} {D:Ends} {σ:St} {H:Hp} (h:t (bZS H D) σ H):dQF t D σ H:=h
end
theorem qU {Hs H:Hp} {a:Addr} {o:Obj} {u:HO} (ha:Hs a=some u) (hu:∀ o v,u≠.frz o v) (h:Same (upd Hs a (.frz o u)) H):Same Hs (unf Hs H):=λb v q=>by
 by_cases e:b=a
 · subst e;rw [ha] at q;cases q;exact vM (h _ _ aD) λo v z=>by rw [ha] at z; cases z; exact hu _ _ rfl
 · have:=h b v (by rw [aK e]; exact q)
   by_cases hf:∃ o v',v=.frz o v'
   · obtain ⟨o',v',rfl⟩:=hf;exact mL this q
   · exact fN this λo v' z=>hf ⟨o,v',z⟩
theorem bQI {Hs H:Hp} (h:Same Hs H):Same Hs (unf Hs H):=λb v q=>by
 have:=h b v q
 by_cases hf:∃ o v',v=.frz o v'
 · obtain ⟨o',v',rfl⟩:=hf;exact mL this q
 · exact fN this λo v' z=>hf ⟨o,v',z⟩
theorem qL {α β:Type} {R:α->β->Prop} {xs:List α} {ys:List β} (r:Paired R xs ys):∀ {i:Nat} {x:α},xs[i]?=some x->∃ y,ys[i]?=some y/\R x y:=by
 induction r with
 | nil=>intro i x h; cases h
 | cons h t ih=>
   intro i x hx;cases i with
   | zero=>cases hx; exact ⟨_,rfl,h⟩
   | succ i=>exact ih (i:=i) hx
theorem cQT {P:Program} {w:World} {k:Key} {u:Value} (h:(bE P w).is k u=true):RelV (kV k) u:=by
 rcases bX h with ⟨i,t,rfl,rfl⟩ | ⟨x,t,rfl,rfl⟩
 · exact ⟨t,rfl⟩
 · exact ⟨t,rfl⟩
def Itd (a:Addr) (o:Obj) (kvs:List (Key×V)):It:=⟨λi H=>H a=some (.frz o (.dK kvs))/\i<kvs.length,λi H x H'=>H'=H/\∃ kv,kvs[i]?=some kv/\x=kV kv.1,λi H=>H a=some (.frz o (.dK kvs))/\kvs.length=i⟩
theorem aQW {X:Cx} {pins:Q2} {σ:St} {H:Hp} {s:Shared} {a:Addr} {o:Obj} {kvs:List (Key×V)} {ep:Nat} (I:Inv X pins σ H s) (ha:H a=some (.frz o (.dK kvs))) (hep:∃ es,o.data=.dict es ep) :
   kvs.length<=sizeLine/\(a == sysModules)=false/\∃ vs,KV kvs vs/\s.heap.DictAt (bE X.prog X.w) a vs ep:=by
 have ok:s.heap.get? a=some o/\(kvs.length<=sizeLine/\(a == sysModules)=false/\∃ vs,KV kvs vs/\s.heap.DictOf (bE X.prog X.w) a vs):=I.hok a _ ha
 obtain ⟨e,z,hd,vs,rel,o',es',ep',ho',hx,hdat,r⟩:=ok;rw [e] at ho';cases ho';obtain ⟨es,hes⟩:=hep;have q:=hdat
 rw [hes] at q;cases q;exact ⟨z,hd,vs,rel,o,_,e,hx,hdat,r⟩
theorem bQS {P:Program} {w:World} {K:PySem.W.Frag} {tg:Expr} (a it:Addr) (o:Obj) (kvs:List (Key×V)) (ep:Nat) (hep:∃ es,o.data=.dict es ep):Turn P w K tg (Itd a o kvs) [it] it (λi h=>h.IsKeyIter it a i kvs.length ep) where
 mem:=by simp
 obj:=λi h st b hb=>by
   have e:b=it:=by simpa using hb
   subst e;obtain ⟨o,e,c,d⟩:=st;exact ⟨o,e,λv z=>by rw [d] at z; cases z⟩
 keep:=λi h h' st k=>let ⟨o,ho,r⟩:=st; ⟨o,k it (by simp) o ho,r⟩
 item:=by
   intro X hP hw hK hc i pins s σ H E I hf st hg;subst hP hw hK;obtain ⟨ha,hi⟩:=hg;obtain ⟨z,hd,vs,rel,dd⟩:=aQW I ha hep;have hlv:=rel.length
   obtain ⟨f0,f1,f2,f3,f4,f5⟩:=hf it (by simp)
   obtain ⟨⟨k,v⟩,hx,hk1,_⟩:=qL rel (Aa hi);refine wpAny_pyNext_dict_item (knd:=bE X.prog X.w) (by rw [<-hlv]; exact st) dd hx λkey h' hk st' sb=>?_
   have I1:Inv X pins σ H { s with heap:=h' }:=I.turned (t':=s.toks) (λb o hb e=>(sb.2 b hb).trans e) f0 f1 f3 f4 f5
   obtain ⟨oi,e,c,d⟩:=id st';refine ⟨key,rfl,qI (s:={ s with heap:=h' }) e c d (by decide) ⟨kV k,H,I1,cQT hk,⟨rfl,kvs[i],Aa hi,by rw [hk1]⟩,?_,λb hb=>(hf b hb).1⟩⟩
   rw [hlv];exact st'
 done:=by
   intro X hP hw hK hc i pins s σ H E I hf st hg;subst hP hw hK;obtain ⟨ha,hi⟩:=hg;obtain ⟨z,hd,vs,rel,dd⟩:=aQW I ha hep;have hlv:=rel.length
   obtain ⟨f0,f1,f2,f3,f4,f5⟩:=hf it (by simp)
   exact wpAny_pyNext_dict_end (knd:=bE X.prog X.w) (I.ok.hd hc) (by rw [<-hlv]; exact st) dd (Fn (by omega)) λh' eb=>⟨rfl,I.turned (t':=s.toks) (λb o hb e=>eb b o hb e) f0 f1 f3 f4 f5⟩
 self:=λ_ _ _ _ _ st h=>wpAny_pyIter_keyiter st h
section
variable {X:Cx} {tg:Expr}
theorem bZQ {pins:Q2} {σ:St} {H:Hp} {s:Shared} {a:Addr} {kvs:List (Key×V)} (I:Inv X pins σ H s) (ha:H a=some (.dK kvs)):∃ o es ep,s.heap.get? a=some o/\o.data=.dict es ep:=by
 obtain ⟨_,_,vs,_,o,es,ep,ho,_,hd,_⟩:=dQD I.hok ha;exact ⟨o,es,ep,ho,hd⟩
theorem cX5 {pins:Q2} {σ:St} {H:Hp} {s:Shared} {a:Addr} {o:Obj} {kvs:List (Key×V)} (I:Inv X pins σ H s) (ha:H a=some (.frz o (.dK kvs))):∃ ep,∃ es,o.data=.dict es ep:=by
 have ok:s.heap.get? a=some o/\(kvs.length<=sizeLine/\(a == sysModules)=false/\∃ vs,KV kvs vs/\s.heap.DictOf (bE X.prog X.w) a vs):=I.hok a _ ha
 obtain ⟨e,_,_,vs,_,o',es,ep,ho,_,hd,_⟩:=ok;rw [e] at ho;cases ho;exact ⟨ep,es,hd⟩
def vL (H:Hp) (a:Addr) (R:Obj->List (Key×V)->Hp->Prop):Prop:=(∃ kvs,H a=some (.dK kvs)/\∀ o,R o kvs (upd H a (.frz o (.dK kvs))))\/∃ o kvs,H a=some (.frz o (.dK kvs))/\R o kvs H
theorem walk_at {pins:Q2} {σ:St} {H:Hp} {s:Shared} {a:Addr} {R:Obj->List (Key×V)->Hp->Prop} (I:Inv X pins σ H s) (h:vL H a R) :
   ∃ o kvs H' ep,Inv X pins σ H' s/\H' a=some (.frz o (.dK kvs))/\(∃ es,o.data=.dict es ep)/\R o kvs H':=by
 rcases h with ⟨kvs,ha,q⟩ | ⟨o,kvs,ha,q⟩
 · obtain ⟨o,es,ep,ho,hd⟩:=bZQ I ha;exact ⟨o,kvs,_,ep,I.freeze ha rfl ho,aD,⟨es,hd⟩,q o⟩
 · obtain ⟨ep,es,hd⟩:=cX5 I ha;exact ⟨o,kvs,H,ep,I,ha,⟨es,hd⟩,q⟩
def dQI (tl:TE):TI:=λσ H R=>tl σ H (hU λa H1=>vL H1 a λo kvs H2=>R (Itd a o kvs) H2)
theorem cXP {l:Expr} {tl:TE} (hl:PE X l tl):PI X tg l (dQI tl):=by
 intro pins s σ H R I h;refine thn (hl pins s σ H _ I h) λv s1 ⟨x,H1,I1,r1,q1⟩=>?_;unfold hU at q1;split at q1
 · cases r1;rename_i a0 _
   obtain ⟨o,kvs,H2,ep,I2,ha,hep,q⟩:=walk_at I1 q1;obtain ⟨z,hd,vs,rel,dd⟩:=aQW I2 ha hep;refine wpAny_pyIter_dict (knd:=bE X.prog X.w) hd dd ?_;refine ⟨s1.heap.objs.size,[s1.heap.objs.size],_,_,H2,rfl,I2.kept (t':=s1.toks) λb o e=>Af _ e,bQS a0 _ o kvs ep hep,⟨_,Ax _ rfl,rfl,by rw [rel.length]; rfl⟩,λb hb=>?_,q⟩
   have e:b=s1.heap.objs.size:=by simpa using hb
   subst e;exact I2.fpOk (Ah _) (I2.hok.fresh (Ah _))
 · exact q1.elim
def isD (H:Hp) (p:Addr):Bool:=match H p with
 | some (.dK _)=>true
 | some (.dT _)=>true
 | some (.frz _ (.dK _))=>true
 | some (.frz _ (.dT _))=>true
 | _=>false
theorem dZN {H:Hp} {p:Addr} (h:isD H p=true):IsD H p:=by
 unfold isD at h;split at h
 · exact .inl ⟨_,.inl (by assumption)⟩
 · exact .inr ⟨_,.inl (by assumption)⟩
 · exact .inl ⟨_,.inr ⟨_,by assumption⟩⟩
 · exact .inr ⟨_,.inr ⟨_,by assumption⟩⟩
 · cases h
theorem nI {H:Hp} {p:Addr} {kvs:List (Key×V)} (h:H p=some (.dK kvs)):isD H p=true:=by unfold isD; rw [h]
theorem bJG {H:Hp} {p:Addr} {o:Obj} {kvs:List (Key×V)} (h:H p=some (.frz o (.dK kvs))):isD H p=true:=by unfold isD; rw [h]
end
section
variable {a:Addr} {o:Obj} {kvs:List (Key×V)} {g:TG} {tb:TS} {D:Ends} {σ:St} {H:Hp} {R:It->Hp->Prop} {tl:TE}
theorem cQ5 (h:tl σ H (hU λa H1=>vL H1 a λo kvs H2=>R (Itd a o kvs) H2)):dQI tl σ H R:=h
theorem dQ6 {Rw:Obj->List (Key×V)->Hp->Prop} (e:H a=some (.dK kvs)) (h:∀ o,Rw o kvs (upd H a (.frz o (.dK kvs)))):vL H a Rw:=.inl ⟨kvs,e,h⟩
end
section
variable {X:Cx} {o e:Expr} {es:List Expr} {to:TE} {t:TA} {name:Str} {apos cpos:Pos} {id:String} {r:V->List V->Hp->VK->Prop}
def cQC (r:V->List V->Hp->VK->Prop) (to:TE) (t:TA):TE:=λσ H Q=>to σ H (hU λp H1=>isD H1 p=true/\t σ H1 λxs H2=>r (.ref p) xs H2 Q)
theorem fJ (slot:Slot "dict" name id) (hty:typeOf (.builtin id)=pure (.type "method_descriptor")) (hm:MtR X id r) (ho:PE X o to) (ha:PA X (e::es) t)
   (hbase:attributeBase o name X.env (eval o X.env)=eval o X.env:=by rfl)
   (hfew:((backTo cpos (starEach (e::es) X.env)).all (λx=>!x.1) && (backToKw cpos (keywordEach [] X.env)).all (λx=>x.1.isSome)
     && decide ((e::es).length+([]:List Keyword).length+(if ([]:List Keyword).isEmpty then 0 else 1)<30))=true:=by rfl)
   (hline:(apos.endLine == cpos.line)=true:=by rfl) (hs:starEach (e::es) X.env=(false,eval e X.env)::starEach es X.env:=by rfl) (hplain:(backTo cpos (starEach es X.env)).any (·.1)=false:=by rfl) :
   PE X (.Call (.Attribute o name apos) (e::es) [] cpos) (cQC r to t):=by
 intro pins s σ H Q I h;refine wpAny_Call_method_late hbase hfew hline rfl (thn (ho pins s σ H _ I h) λv s1 ⟨x,H1,I1,r1,q⟩=>?_);unfold hU at q;split at q
 · obtain ⟨hd,q1⟩:=q;obtain ⟨h1,h2,_⟩:=dZ2 I1 (dZN hd);cases _root_.id r1;refine ⟨"dict",_,PySem.F.plainAttrs_dict,slot,hty,h1,h2,?_⟩;have hA:=ha cpos pins s1 σ H1 _ I1 q1
   rw [hs] at hA ⊢;refine Gq (by show (false || (backTo cpos (starEach es X.env)).any (·.1))=false; rw [hplain] <;> rfl) (Calls.evalArgs_plain ?_)
   exact thn hA λus s2 ⟨vs,H2,I2,r2,q2⟩=>hm pins s2 σ H2 _ vs _ us Q I2 r1 r2 q2
 · exact q.elim
def dJ7:V->List V->Hp->VK->Prop:=λx vs H Q=>∃ a y z o,x=.ref a/\vs=[y,z]/\oX H a y o/\Q (o.getD z) H
theorem qT (hu:X.A.units+1<cLine):MtR X "dict.get" dJ7:=by
 intro pins s σ H x vs v us Q I rx rv h;obtain ⟨a,y,z,ov,rfl,rfl,g,q⟩:=h;cases rx;obtain ⟨u,w',rfl,ru,rw'⟩:=tR rv;exact dZY hu I g ru rw' λw1 s1 I1 r1=>⟨_,H,I1,r1,q⟩
def aXX:List V->Hp->VK->Prop:=λxs H Q=>∃ a kvs,xs=[.ref a]/\Rd H a (.dK kvs)/\∀ p,H p=none->Q (.ref p) (upd H p (.dK kvs))
theorem xB:CallR X (.type "dict") aXX:=by
 intro pins s σ H xs us Q I r h;obtain ⟨a,kvs,rfl,ha,q⟩:=h;obtain ⟨u,rfl,ru⟩:=fF r;cases ru;exact cQW I ha λp s1 hp I1=>⟨.ref p,_,I1,rfl,q p hp⟩
def dQX (x y:V) (H:Hp) (Q:VK):Prop:=∃ a v,x=.ref a/\oX H a y (some v)/\Q v H
def bX8 (D:Ends) (σ:St) (x y v:V) (H:Hp):Prop:=∃ a H4,x=.ref a/\dZ1 H a y v H4/\D.nx σ H4
end
section
variable {σ:St} {H:Hp} {Q:VK} {D:Ends} {a:Addr} {kvs:List (Key×V)} {z:Str} {v w:V} {to td ty tv:TE} {t:TA} {r:V->List V->Hp->VK->Prop}
theorem cXZ (h:to σ H (hU λp H1=>isD H1 p=true/\t σ H1 λxs H2=>r (.ref p) xs H2 Q)):cQC r to t σ H Q:=h
theorem eXW {P:Prop} (e:isD H a=true) (h:P):isD H a=true/\P:=⟨e,h⟩
theorem pL (e:Rd H a (.dK kvs)) (h:Q ((bZ kvs (Sum.inr z)).getD w) H):dJ7 (.ref a) [.str z,w] H Q:=⟨a,.str z,w,_,rfl,rfl,.inl ⟨kvs,.inr z,e,rfl,rfl⟩,h⟩
theorem wX (e:Rd H a (.dK kvs)) (h:∀ p,H p=none->Q (.ref p) (upd H p (.dK kvs))):aXX [.ref a] H Q:=⟨a,kvs,rfl,e,h⟩
theorem dQP (h:∀ p,H p=none->Q (.ref p) (upd H p (.dK []))):bJW σ H Q:=h
theorem eXZ (h:td σ H λx H1=>ty σ H1 λy H2=>dQX x y H2 Q):cJW td ty σ H Q:=h
theorem qG (e:Rd H a (.dK kvs)) (l:bZ kvs (Sum.inr z)=some v) (h:Q v H):dQX (.ref a) (.str z) H Q:=⟨a,v,rfl,.inl ⟨kvs,.inr z,e,rfl,l.symm⟩,h⟩
theorem dJM (h:tv σ H λv H1=>td σ H1 λx H2=>ty σ H2 λy H3=>bX8 D σ x y v H3):cJ8 td ty tv D σ H:=h
theorem gA (e:H a=some (.dK kvs)) (l:kvs.length<sizeLine) (h:D.nx σ (upd H a (.dK (dY kvs (Sum.inr z) v)))):bX8 D σ (.ref a) (.str z) v H:=⟨a,_,rfl,.inl ⟨kvs,.inr z,e,rfl,l,rfl⟩,h⟩
end
end L2
set_option maxHeartbeats 4000000
namespace L2
open PySem PySem.Spec PyProof.Rows
open PySem.AutoSeq1 (wpAny_loadPart')
open PySem.MeetsSeq PySem.MeetsSeq2 PySem.MeetsSeq3
def EqW (P:Program) (w:World) (A:Around) (s:Shared) (u v:Value):Prop:=∀ (E:Value->Shared->Prop) (Q:Bool->Shared->Prop),Q true s->wpAny (model P w) A (eqBool u v) Q E s
theorem aJI {P:Program} {w:World} (l b:Addr) (xs ys:Array Value) (n n2:Nat) (dd dd2:Option Addr) (sl sl2:Array (Option Value)) (hsz:xs.size=ys.size) (k:Nat) :
   ∀ i:Nat,xs.size - i=k->MeetsIn P w (Builtin.«list.__eq__.loop» ⟨[.ref l,.ref b,rawInt i,rawInt 2],[]⟩)
     (λA R s=>s.heap.get? l=some ⟨.type "list",dd,.seq xs n,sl⟩/\s.heap.get? b=some ⟨.type "list",dd2,.seq ys n2,sl2⟩/\(∀ j (h1:j<xs.size) (h2:j<ys.size),EqW P w A.in1 s xs[j] ys[j])/\R (.ok (.ret (.bool true))) s):=by
 induction k with
 | zero=>
   intro i hk A R s h;obtain ⟨hp,g,d,tk,os⟩:=s;obtain ⟨ha,hq,he,h⟩:=h
   wp_walk using (Ay ha),(Ay hq)
   have n1:xs[((i:Nat):Int).toNat]?=none:=by simp; omega
   have n2':ys[((i:Nat):Int).toNat]?=none:=by simp; omega
   rw [n1,n2']
   wp_walk using (Ay ha),(Ay hq)
   show R (.ok (.ret (.bool (xs.size == ys.size)))) _
   rw [hsz,beq_self_eq_true];exact h
 | succ k ih=>
   intro i hk A R s h;obtain ⟨hp,g,d,tk,os⟩:=s;obtain ⟨ha,hq,he,h⟩:=h
   wp_walk using (Ay ha),(Ay hq)
   have l1:i<xs.size:=by omega
   have l2:i<ys.size:=by omega
   have n1:xs[((i:Nat):Int).toNat]?=some xs[i]:=by simp [l1]
   have n2':ys[((i:Nat):Int).toNat]?=some ys[i]:=by simp [l2]
   have hc:((i:Int)+1)=((i+1:Nat):Int):=by push_cast; rfl
   rw [n1,n2'];refine Ad (he i l1 l2 _ _ ?_)
   wp_walk
   rw [hc];refine ⟨Fm plain_eq_loop _,Dy entry_eq_loop ?_⟩;rw [Dp plain_eq_loop _];exact ih (i+1) (by omega) A R _ ⟨ha,hq,he,h⟩
theorem bQ7 {P:Program} {w:World} (l b:Addr) (xs ys:Array Value) (n n2:Nat) (dd dd2:Option Addr) (sl sl2:Array (Option Value)) (hsz:xs.size=ys.size) (k:Nat) :
   ∀ i:Nat,xs.size - i=k->MeetsIn P w (Builtin.«list.__eq__.loop» ⟨[.ref l,.ref b,rawInt i,rawInt 3],[]⟩)
     (λA R s=>s.heap.get? l=some ⟨.type "list",dd,.seq xs n,sl⟩/\s.heap.get? b=some ⟨.type "list",dd2,.seq ys n2,sl2⟩/\(∀ j (h1:j<xs.size) (h2:j<ys.size),EqW P w A.in1 s xs[j] ys[j])/\R (.ok (.ret (.bool false))) s):=by
 induction k with
 | zero=>
   intro i hk A R s h;obtain ⟨hp,g,d,tk,os⟩:=s;obtain ⟨ha,hq,he,h⟩:=h
   wp_walk using (Ay ha),(Ay hq)
   have n1:xs[((i:Nat):Int).toNat]?=none:=by simp; omega
   have n2':ys[((i:Nat):Int).toNat]?=none:=by simp; omega
   rw [n1,n2']
   wp_walk using (Ay ha),(Ay hq)
   show R (.ok (.ret (.bool (xs.size != ys.size)))) _
   rw [hsz,bne_self_eq_false];exact h
 | succ k ih=>
   intro i hk A R s h;obtain ⟨hp,g,d,tk,os⟩:=s;obtain ⟨ha,hq,he,h⟩:=h
   wp_walk using (Ay ha),(Ay hq)
   have l1:i<xs.size:=by omega
   have l2:i<ys.size:=by omega
   have n1:xs[((i:Nat):Int).toNat]?=some xs[i]:=by simp [l1]
   have n2':ys[((i:Nat):Int).toNat]?=some ys[i]:=by simp [l2]
   have hc:((i:Int)+1)=((i+1:Nat):Int):=by push_cast; rfl
   rw [n1,n2'];refine Ad (he i l1 l2 _ _ ?_)
   wp_walk
   rw [hc];refine ⟨Fm plain_eq_loop _,Dy entry_eq_loop ?_⟩;rw [Dp plain_eq_loop _];exact ih (i+1) (by omega) A R _ ⟨ha,hq,he,h⟩
section
variable {P:Program} {w:World} {A:Around} {E:Q0} {s:Shared} {l b:Addr} {xs ys:Array Value}
theorem aQ4 {Q:Q0} (hl:s.heap.IsList l xs) (hb:s.heap.IsList b ys) (hsz:xs.size=ys.size) (hu:A.units<cLine) (he:∀ j (h1:j<xs.size) (h2:j<ys.size),EqW P w A.in1 s xs[j] ys[j]) (h:Q (.bool true) s) :
   wpAny (model P w) A (richCompare .Eq (.ref l) (.ref b)) Q E s:=by
 obtain ⟨⟨cls,dd,data,sl⟩,ho,hc,n,hd⟩:=id hl;obtain ⟨⟨cls2,dd2,data2,sl2⟩,ho2,hc2,n2,hd2⟩:=id hb;obtain rfl:cls=.type "list" := hc;obtain rfl:data=.seq xs n:=hd;obtain rfl:cls2=.type "list" := hc2;obtain rfl:data2=.seq ys n2:=hd2;have g:MeetsIn P w (Builtin.«list.__eq__» ⟨[.ref l,.ref b],[]⟩) (λA R s=>s.heap.get? l=some ⟨.type "list",dd,.seq xs n,sl⟩/\s.heap.get? b=some ⟨.type "list",dd2,.seq ys n2,sl2⟩/\(∀ j (h1:j<xs.size) (h2:j<ys.size),EqW P w A.in1 s xs[j] ys[j])/\R (.ok (.ret (.bool true))) s):=by
   intro A R s h;obtain ⟨hp,g,d,tk,os⟩:=s;obtain ⟨ha,hq,he,h⟩:=h;have f3:=Gv
   have hne:¬ (xs.size != ys.size)=true:=by simp [hsz]
   wp_walk using (Ay ha),(Ay hq)
   refine ⟨Fm plain_eq_loop _,Dy entry_eq_loop ?_⟩;rw [Dp plain_eq_loop _];exact aJI l b xs ys n n2 dd dd2 sl sl2 hsz _ 0 rfl A R _ ⟨ha,hq,he,h⟩
 exact Dt (op:=.Eq) ⟨_,ho,rfl⟩ ⟨_,ho2,rfl⟩ PySem.F.slot_list_eq (Fg PySem.F.slot_list_eq ⟨_,ho,rfl⟩ PySem.F.entry_list_eq (PySem.F.args_list_eq_2 _ _) g ⟨ho,ho2,he,show Value.bool true≠Value.notImplemented/\Q (.bool true) s from ⟨(λx=>nomatch x),h⟩⟩) hu
theorem bJT {Q:Q0} (hl:s.heap.IsList l xs) (hb:s.heap.IsList b ys) (hsz:xs.size=ys.size) (hu:A.units<cLine) (he:∀ j (h1:j<xs.size) (h2:j<ys.size),EqW P w A.in1 s xs[j] ys[j]) (h:Q (.bool false) s) :
   wpAny (model P w) A (richCompare .NotEq (.ref l) (.ref b)) Q E s:=by
 obtain ⟨⟨cls,dd,data,sl⟩,ho,hc,n,hd⟩:=id hl;obtain ⟨⟨cls2,dd2,data2,sl2⟩,ho2,hc2,n2,hd2⟩:=id hb;obtain rfl:cls=.type "list" := hc;obtain rfl:data=.seq xs n:=hd;obtain rfl:cls2=.type "list" := hc2;obtain rfl:data2=.seq ys n2:=hd2;have g:MeetsIn P w (Builtin.«list.__ne__» ⟨[.ref l,.ref b],[]⟩) (λA R s=>s.heap.get? l=some ⟨.type "list",dd,.seq xs n,sl⟩/\s.heap.get? b=some ⟨.type "list",dd2,.seq ys n2,sl2⟩/\(∀ j (h1:j<xs.size) (h2:j<ys.size),EqW P w A.in1 s xs[j] ys[j])/\R (.ok (.ret (.bool false))) s):=by
   intro A R s h;obtain ⟨hp,g,d,tk,os⟩:=s;obtain ⟨ha,hq,he,h⟩:=h;have f3:=Gv
   have hne:¬ (xs.size != ys.size)=true:=by simp [hsz]
   wp_walk using (Ay ha),(Ay hq)
   refine ⟨Fm plain_eq_loop _,Dy entry_eq_loop ?_⟩;rw [Dp plain_eq_loop _];exact bQ7 l b xs ys n n2 dd dd2 sl sl2 hsz _ 0 rfl A R _ ⟨ha,hq,he,h⟩
 exact Dt (op:=.NotEq) ⟨_,ho,rfl⟩ ⟨_,ho2,rfl⟩ PySem.F.slot_list_ne (Fg PySem.F.slot_list_ne ⟨_,ho,rfl⟩ PySem.F.entry_list_ne (PySem.F.args_list_ne_2 _ _) g ⟨ho,ho2,he,show Value.bool false≠Value.notImplemented/\Q (.bool false) s from ⟨(λx=>nomatch x),h⟩⟩) hu
theorem EqW.same (u:Value):EqW P w A s u u:=λE Q hq=>SeqAt.EqAt.same u P w E Q hq
theorem EqW.refs (hne:l≠b) (h:∀ (E:Q0) (Q:Q0),Q (.bool true) s->wpAny (model P w) A (richCompare .Eq (.ref l) (.ref b)) Q E s):EqW P w A s (.ref l) (.ref b):=λE Q hq=>by
 unfold eqBool;refine Bx (wpAny_ite_split (λhab=>absurd (by have:=eq_of_beq hab; injection this) hne) (λ_=>?_))
 exact Ad (h E _ (Ek hq))
end
def DEq (kvs kws:List (Key×V)):Prop:=kvs.length=kws.length/\∀ kv∈kvs,cA kv.2=true/\bZ kws kv.1=some kv.2
theorem aXP {A:Around} {s:Shared} {kws:List (Key×V)} {ws:List (Key×Value)} (rw':KV kws ws) {kvs:List (Key×V)} {vs:List (Key×Value)} (r:KV kvs vs) (h:∀ kv∈kvs,cA kv.2=true/\bZ kws kv.1=some kv.2):PySem.W.KeqHits A s ws vs true:=by
 unfold KV at r;induction r with
 | nil=>exact .nil
 | @cons kv vv _ _ hk t ih=>
   obtain ⟨k,v⟩:=kv;obtain ⟨k',u⟩:=vv;obtain ⟨e,ru⟩:=hk;cases e;obtain ⟨f,hv⟩:=h (k,v) (As ..);have ro:=rw'.val k
   rw [hv] at ro;cases ey:valueAt ws k with
   | none=>rw [ey] at ro; exact (show False from ro).elim
   | some y=>
     rw [ey] at ro;have eq:=jL (A:=A) (s:=s) ru (show RelV v y from ro) f f
     rw [gS f] at eq;exact .hit (e:=true) (b:=true) ey eq (ih λkv hkv=>h kv (Ao _ hkv))
theorem aZB {X:Cx} {pins:Q2} {σ:St} {H:Hp} {s:Shared} (I:Inv X pins σ H s) {A:Around} {p q:Addr} {kvs kws:List (Key×V)} (hp:Rd H p (.dK kvs)) (hq:Rd H q (.dK kws)) (d:DEq kvs kws) (hu:A.units<cLine) (E:Q0) (Q:Q0) :
   (Q (.bool true) s->wpAny (model X.prog X.w) A (richCompare .Eq (.ref p) (.ref q)) Q E s)/\(Q (.bool false) s->wpAny (model X.prog X.w) A (richCompare .NotEq (.ref p) (.ref q)) Q E s):=by
 obtain ⟨z1,d1,vs,r1,dd1⟩:=iA I.hok hp;obtain ⟨z2,d2,ws,r2,dd2⟩:=iA I.hok hq;have hl:(vs.length == ws.length)=true:=beq_iff_eq.mpr (by rw [<-r1.length,<-r2.length]; exact d.1)
 refine ⟨λh=>PySem.W.keq_eq (r:=true) d1 d2 dd1 dd2 hu (λ_=>aXP r2 r1 d.2) (by rw [hl]; exact h),λh=>PySem.W.keq_ne (r:=true) d1 d2 dd1 dd2 hu (λ_=>aXP r2 r1 d.2) (by rw [hl]; exact h)⟩
def Alw (H:Hp):Nat->V->V->Prop
 | 0,x,y=>x=y/\cA x=true
 | n+1,x,y=>(x=y/\cA x=true)\/∃ p q,x=.ref p/\y=.ref q/\((∃ xs ys,rdL H p=some xs/\rdL H q=some ys/\xs.length=ys.length/\∀ (j:Nat) x' y',xs[j]?=some x'->ys[j]?=some y'->Alw H n x' y')\/∃ kvs kws,Rd H p (.dK kvs)/\Rd H q (.dK kws)/\DEq kvs kws)
theorem Alw.flat {H:Hp} {n:Nat} {x:V} (h:cA x=true):Alw H n x x:=by
 cases n with
 | zero=>exact ⟨rfl,h⟩
 | succ n=>exact .inl ⟨rfl,h⟩
theorem Alw.lst {H:Hp} {n:Nat} {p q:Addr} {xs ys:List V} (hp:rdL H p=some xs) (hq:rdL H q=some ys) (hl:xs.length=ys.length) (h:∀ (j:Nat) x y,xs[j]?=some x->ys[j]?=some y->Alw H n x y):Alw H (n+1) (.ref p) (.ref q):=.inr ⟨p,q,rfl,rfl,.inl ⟨xs,ys,hp,hq,hl,h⟩⟩
theorem Alw.dic {H:Hp} {n:Nat} {p q:Addr} {kvs kws:List (Key×V)} (hp:Rd H p (.dK kvs)) (hq:Rd H q (.dK kws)) (d:DEq kvs kws):Alw H (n+1) (.ref p) (.ref q):=.inr ⟨p,q,rfl,rfl,.inr ⟨kvs,kws,hp,hq,d⟩⟩
theorem Alw.flats {H:Hp} {n:Nat} {xs:List V} (f:xs.all cA=true):∀ (j:Nat) x y,xs[j]?=some x->xs[j]?=some y->Alw H n x y:=λj x y hx hy=>by
 rw [hx] at hy;cases hy;exact .flat (Cq.mp f x (Ai hx))
theorem aQS {X:Cx} {pins:Q2} {σ:St} {H:Hp} {s:Shared} (I:Inv X pins σ H s) {n:Nat} {A:Around} (ih:∀ x y u v,Alw H n x y->RelV x u->RelV y v->EqW X.prog X.w A.in1 s u v) {p q:Addr} (h:Alw H (n+1) (.ref p) (.ref q)) (hu:A.units<cLine) (E:Q0) (Q:Q0) :
   (Q (.bool true) s->wpAny (model X.prog X.w) A (richCompare .Eq (.ref p) (.ref q)) Q E s)/\(Q (.bool false) s->wpAny (model X.prog X.w) A (richCompare .NotEq (.ref p) (.ref q)) Q E s):=by
 rcases h with ⟨_,f⟩ | ⟨p',q',e1,e2,hpq⟩
 · cases f
 · cases e1;cases e2;rcases hpq with ⟨xs,ys,hp,hq,hl,h⟩ | ⟨kvs,kws,hp,hq,d⟩
   · obtain ⟨its,r1,l1,_⟩:=I.list (aR hp);obtain ⟨its2,r2,l2,_⟩:=I.list (aR hq);have e1:=r1.length
     have e2:=r2.length
     have he:∀ j (h1:j<its.toArray.size) (h2:j<its2.toArray.size),EqW X.prog X.w A.in1 s its.toArray[j] its2.toArray[j]:=λj h1 h2=>by
       have h1':j<its.length:=by simpa using h1
       have h2':j<its2.length:=by simpa using h2
       obtain ⟨u',hu',ru'⟩:=r1.get (Aa (show j<xs.length by omega))
       obtain ⟨v',hv',rv'⟩:=r2.get (Aa (show j<ys.length by omega))
       rw [Aa h1'] at hu';rw [Aa h2'] at hv';cases hu';cases hv'
       simpa using ih _ _ _ _ (h j _ _ (List.getElem?_eq_getElem _) (List.getElem?_eq_getElem _)) ru' rv'
     have hs:its.toArray.size=its2.toArray.size:=by simp only [List.size_toArray]; omega
     exact ⟨λq=>aQ4 l1.isList l2.isList hs hu he q,λq=>bJT l1.isList l2.isList hs hu he q⟩
   · exact aZB I hp hq d hu E Q
theorem bZZ {X:Cx} {pins:Q2} {σ:St} {H:Hp} {s:Shared} (I:Inv X pins σ H s):∀ (n:Nat) (A:Around) (x y:V) (u v:Value),Alw H n x y->RelV x u->RelV y v->A.units+n<cLine->EqW X.prog X.w A s u v:=by
 intro n;induction n with
 | zero=>
   intro A x y u v h ru rv hu;obtain ⟨rfl,f⟩:=h;have:=jL (A:=A) (s:=s) ru rv f f
   rw [gS f] at this;exact λE Q hq=>this X.prog X.w E Q hq
 | succ n ih=>
   intro A x y u v h ru rv hu;rcases id h with ⟨rfl,f⟩ | ⟨p,q,rfl,rfl,hpq⟩
   · have:=jL (A:=A) (s:=s) ru rv f f
     rw [gS f] at this;exact λE Q hq=>this X.prog X.w E Q hq
   · cases ru;cases rv;by_cases e:p=q
     · subst e;exact .same _
     exact .refs e λE Q hq=>(aQS I (λx y u v hx hu' hv'=>ih A.in1 x y u v hx hu' hv' (by show A.units+1+n<cLine; omega)) h (by omega) E Q).1 hq
section
variable {X:Cx}
def dXL (neg:Bool):R2:=λx y H Q=>∃ n p q,n<=50/\x=.ref p/\y=.ref q/\Alw H (n+1) x y/\Q (.bl (!neg)) H
theorem eZS (hu:X.A.units+64<cLine):OpR X (compareOp .Eq) (dXL false):=by
 intro pins s σ H x y v u Q I rx ry h;obtain ⟨n,p,q,hn,rfl,rfl,al,k⟩:=h;cases rx;cases ry;exact (aQS I (λx y u v hx hu' hv'=>bZZ I n X.A.in1 x y u v hx hu' hv' (by show X.A.units+1+n<cLine; omega)) al (by omega) _ _).1 ⟨.bl true,H,I,rfl,k⟩
theorem cJK (hu:X.A.units+64<cLine):OpR X (compareOp .NotEq) (dXL true):=by
 intro pins s σ H x y v u Q I rx ry h;obtain ⟨n,p,q,hn,rfl,rfl,al,k⟩:=h;cases rx;cases ry;exact (aQS I (λx y u v hx hu' hv'=>bZZ I n X.A.in1 x y u v hx hu' hv' (by show X.A.units+1+n<cLine; omega)) al (by omega) _ _).2 ⟨.bl false,H,I,rfl,k⟩
theorem dQB {neg:Bool} {p q:Addr} {H:Hp} {Q:VK} (n:Nat) (al:Alw H (n+1) (.ref p) (.ref q)) (h:Q (.bl (!neg)) H) (hn:n<=50:=by omega):dXL neg (.ref p) (.ref q) H Q:=⟨n,p,q,hn,rfl,rfl,al,h⟩
end
section
variable {X:Cx} {e:Expr} {te:TE} {p2 pos pu pc:Pos} {j:Nat}
end
theorem Room.u1 {k:Nat} {A:Around} (r:Room k A):A.units+1<cLine:=by have:=r.un; omega
section
variable {X:Cx} {pu pc:Pos} {j:Nat}
end
end L2
set_option maxHeartbeats 4000000
namespace L2
open PySem PySem.Spec PyProof.Rows
open PySem.AutoSeq1 (wpAny_loadPart')
section
variable {prog:Program} {w:World} {A:Around} {E:Q0} {s:Shared}
end
section
variable {X:Cx}
def bZF:List V->Hp->VK->Prop:=λxs H Q=>∃ (a:Addr) (kvs:List (Key×V)),xs=[.ref a]/\Rd H a (.dK kvs)/\∀ r,H r=none->Q (.ref r) (upd H r (.lst (kvs.map λkv=>kV kv.1)))
theorem aZM:∀ {xs:List V} {us:List Value},us.length=xs.length->(∀ (j:Nat) x u,xs[j]?=some x->us[j]?=some u->RelV x u)->Vals xs us
 | [],[],_,_=>.nil
 | x::r,u::t,hl,h=>.cons (h 0 x u rfl rfl) (aZM (by simpa using hl) λj x' u' a b=>h (j+1) x' u' (by simpa using a) (by simpa using b))
 | [],_::_,hl,_=>absurd hl (by simp)
 | _::_,[],hl,_=>absurd hl (by simp)
theorem cXI (hc:X.calm=true):CallR X (.type "list") bZF:=by
 intro pins s σ H xs us Q I r h;obtain ⟨a,kvs,rfl,ha,q⟩:=h;obtain ⟨u,rfl,ru⟩:=fF r;cases ru;obtain ⟨z,hd,vs,rel,dd⟩:=iA I.hok ha;obtain ⟨ep,hat⟩:=dd.dictAt;have hlv:=rel.length
 refine PySem.W.kdl_call (A:=X.A) (PySem.W.kdl_dict (knd:=bE X.prog X.w) (kvs:=vs) (ep:=ep) hd) (I.ok.hd hc) hat (by omega) λh' tk acc c hk hD hacc=>?_
 refine ⟨.ref s.heap.objs.size,_,I.laid (a:=s.heap.objs.size) (o:=.lst (kvs.map λkv=>kV kv.1)) (t':=tk) hk (Ah _) ⟨by rw [Ab]; exact z,acc.toList,c,?_,by rw [hD]⟩,rfl,q _ (I.hok.fresh (Ah _))⟩
 refine aZM (by rw [Ab,Dg,hacc.1]; omega) λj x u hx hu=>?_
 obtain ⟨k,y,e1,e2⟩:=hacc.2 j u (by rw [<-Cu]; exact hu)
 have hk2:(kvs.map (·.1))[j]?=some k:=by rw [rel.keys,Ag,e1]; rfl
 rw [Ag] at hx hk2;cases e3:kvs[j]? with
 | none=>rw [e3] at hx; cases hx
 | some kv=>
   rw [e3] at hx hk2;cases hx;cases hk2;exact cQT e2
theorem cXB {a:Addr} {kvs:List (Key×V)} {H:Hp} {Q:VK} (ha:Rd H a (.dK kvs)) (h:∀ r,H r=none->Q (.ref r) (upd H r (.lst (kvs.map λkv=>kV kv.1)))):bZF [.ref a] H Q:=⟨a,kvs,rfl,ha,h⟩
end
end L2
set_option maxHeartbeats 4000000
namespace L2
open PySem PySem.Spec PyProof.Rows PySem.W
section
variable {prog:Program} {w:World} {A:Around} {E:Q0} {s:Shared} {K:Frag} {x D:Addr} {ox:Obj} {od:Option Obj}
theorem cZ2 {name:Str} {v:Value} {expr:Bool} {Q:Q0} (Z:ExK K D) (X:K.In s.heap) (I:InstAt s.heap x ox D od) (hf:findObj K D od name=some (.value v)) (hh:handedIn v=true) (h:Q v { s with toks:=s.toks+1 }) :
   wpAny (model prog w) A (getAttr (.ref x) name expr) Q E s:=by
 obtain ⟨hp,g,d,t,os⟩:=s;have L0:=I.type (M:=model prog w)
 have L1:=looks_findIn (M:=model prog w) X Z.ga
 have L2:=looks_findIn (M:=model prog w) X Z.gh
 have L3:=looks_find (M:=model prog w) X I hf
 unfold getAttr getAttrBy;refine Ad (wpAny_mkText (Bx (Ad (L0.at (Ad (L1.at ?_))))));have ne:(Value.builtin "BaseException.__getattribute__" == Value.builtin "object.__getattribute__")=false:=by decide +kernel
 have fb:=F.excAttr_ValueError.ga.bind (.ref x)
 dsimp only;rw [ne,Bool.and_false,if_neg Aq];unfold getAttrByItsOwn hookBefore;rw [if_pos (show onTheHeap (Value.ref D)=true from rfl)];refine Ad (L2.at (Ad (wpAny_attempt (Bx ?_))));unfold callGetattribute boundAndCalled;rw [if_neg (by rw [show onTheHeap (Value.builtin "BaseException.__getattribute__")=false from rfl,Bool.and_false]; exact Aq)]
 refine Ad (wpAny_of_eq fb ?_);refine Gf (Eh F.excAttr_ValueError.ga.plain F.entry_bexc_ga (aJS Z X I ?_));unfold Builtin.«object.__getattribute__»;refine Ad (Al (Ad (Al (Ad (L0.at (Ad (L3.at ?_)))))));refine Al ?_;exact handed_on hh h
theorem bZW {e t0:Addr} {oe:Obj} {vs:Array Value} {rest:List Value} {Q:Q0} (Z:ExK K D) (X:K.In s.heap) (I:InstAt s.heap e oe D od) (hb:PySem.W.subIn K (.ref D) (.type "ValueError")=some true) (hd:oe.data=.fields vs) (h0:vs[0]?=some (.ref t0)) (hr:rest.length<=sizeLine)
   (h:Q .none { s with heap:=(s.heap.push { cls:=.type "tuple",data:=.seq rest.toArray }).update e (Obj.mapFields (·.setIfInBounds 0 (.ref s.heap.objs.size))) }) :
   wpAny (model prog w) A (call (.builtin "ValueError.__init__") (.ref e::rest)) Q E s:=by
 have he:=I.at_
 obtain ⟨cd,hc,_⟩:=any_some Z.cls;have FB:=Fu
 have L0:=I.type (M:=model prog w)
 have L1:=looks_subIn (M:=model prog w) X hb
 refine Gf (Eh FB.init.plain FB.initEntry ?_);have ck:∀ (Q:Unit->Shared->Prop) (E:Q0) (B:Around),Q () s->wpAny (model prog w) B (checkBuiltinCall "ValueError.__init__" ⟨.ref e::rest,[]⟩) Q E s:=λQ E B hq=>by
   simp only [checkBuiltinCall,FB.initKind,FB.initSplit,FB.initRow];refine Ad ((L0.andThen L1).at ?_);have hst:=FB.noStar
   have sg:∀ (a b:String) (n:Nat),Bind.check ⟨.positional, "*", "ValueError",.self,[⟨"args",.varPos,false⟩]⟩ a b n (List.map (λx=>x.fst) ({ pos:=Value.ref e::rest }:Args).kw)=pure ():=λa b n=>check_star_args _ _ _ _ _ _
   repeat (first | wp_step)
   rw [I.cls];refine Ad ((looks_clsIn X hc).at (Al ?_));repeat (first | wp_step)
   refine wpAny_onRaise ?_;rw [sg];exact Al hq
 refine ck _ _ _ ?_;have hs0:0<vs.size:=(Cy.mp h0).1
 have hg:=Af (h:=s.heap) { cls:=.type "tuple",data:=.seq rest.toArray } he
 unfold Builtin.«BaseException.__init__» newTuple Builtin.BaseException.bexcPut;dsimp only;rw [if_neg (by simp)]
 refine Ad (Gr (Ad (Ad (Ft hg hd h0 (Ad (wpAny_setField hg hd hs0 (wpAny_letGo (Al h))))))) (by show rest.toArray.size<=sizeLine; rw [Bf]; exact hr))
def aQ1 (K:Frag) (D:Addr):Option (List Value):=(clsIn K D).map (·.mro)
theorem wH {T dx:Addr} {name:Str} {v:Value} {h1:Heap} {m:Q4} {ns:List Str} {Q:Unit->Shared->Prop} (Z:ExK K D) (X:K.In s.heap) (I:InstAt s.heap x ox D od)
   (hs:findIn K (.ref D) "__setattr__"=some (some (.builtin "object.__setattr__"))) (hm:aQ1 K D=some [.ref D,.ref T,.type "ValueError",.type "Exception",.type "BaseException",.type "object"]) (hna:findIn K (.ref D) name=some none)
   (hi:∀ (B:Around) (Q':Option Addr->Shared->Prop) (E':Q0),Q' (some dx) { s with heap:=h1,toks:=s.toks+1 }->wpAny (model prog w) B (instanceDict x true) Q' E' { s with toks:=s.toks+1 })
   (hn:h1.Ns1 dx m) (hw:Within m ns) (hz:ns.length<sizeLine)
   (h:∀ h' tk',h'.Ns1 dx (λy=>if y=name then some v else m y)->Heap.SameBut dx h1 h'->Q () { s with heap:=h',toks:=tk' }) :
   wpAny (model prog w) A (setAttr (.ref x) name v) Q E s:=by
 obtain ⟨cd,hc,hd'⟩:=any_some Z.cls;have hmr:cd.mro=[.ref D,.ref T,.type "ValueError",.type "Exception",.type "BaseException",.type "object"]:=by
   unfold aQ1 at hm;rw [hc] at hm;exact Bo hm
 have SF:=PySem.F.store_ValueError
 have sub:Looks (model prog w) s.heap (isInstance (.ref x) (.type "object")) true:=I.type.andThen (looks_mroIn X Z.mo)
 have hmm:Looks (model prog w) s.heap (mroOf (.ref D)) cd.mro:=(looks_clsIn X hc).andThen .now
 have hx:=I.at_
 refine set_plain X I hs ?_;refine Eh SF.slot.plain SF.entry (@check_slot (model prog w) _ _ { s with toks:=s.toks+1 } "object.__setattr__" "object" "__setattr__" (.ref x) [.str name s.toks,v] [] _ SF.kind SF.split sub (SF.args (.ref x) (.str name s.toks) v) ?_)
 rw [osa_eq,refuse_eq];refine Ad (Ad (I.type.here (s:={ s with toks:=s.toks+1 }) (Ad (hmm.here (s:={ s with toks:=s.toks+1 }) ?_))))
 rw [hmr,refuseLoop_ref,refuseLoop_ref,SF.passes];refine Al (Ad (I.type.here (s:={ s with toks:=s.toks+1 }) (Ad ((looks_findIn X hna).here (s:={ s with toks:=s.toks+1 }) (Ad (Al ?_))))))
 show wpAny (model prog w) A.in1 (Builtin.ObjectAttr.storeInOwnDict (Value.ref x) (Value.ref D) (Value.str name s.toks) name v false) _ _ _
 unfold Builtin.ObjectAttr.storeInOwnDict;refine Ad (Al ?_);rw [if_neg (show ¬ ((Value.ref D == Value.type "module")=true) by simp)]
 unfold Builtin.ObjectAttr.ownDictForStores;refine Ad (hi _ _ _ ?_);show wpAny (model prog w) A.in1 (Builtin.ObjectAttr.storeInDict dx (Value.str name s.toks) name v) _ _ _
 unfold Builtin.ObjectAttr.storeInDict Builtin.ObjectAttr.newKeyGuard;refine Ad (Al (Ad (wpAny_nsSet1 hn λh' hn' sb=>?_)));obtain ⟨oD,esD,epD,hoD,hdD,hcD⟩:=hn'.count (Within.cons name v hw);refine Ad (wpAny_lookBehind hoD (by rw [hdD]; exact pastItsLine_dict (Bc hcD (by rw [Bb]; omega))) ?_)
 exact Al (h h' _ hn' sb)
theorem bZ8 {T:Addr} {name:Str} {v:Value} {vs:Array Value} {Q:Unit->Shared->Prop} (Z:ExK K D) (X:K.In s.heap) (I:InstAt s.heap x ox D none) (hda:ox.data=.fields vs) (hdn:ox.dict=none)
   (hs:findIn K (.ref D) "__setattr__"=some (some (.builtin "object.__setattr__"))) (hm:aQ1 K D=some [.ref D,.ref T,.type "ValueError",.type "Exception",.type "BaseException",.type "object"]) (hna:findIn K (.ref D) name=some none)
   (h:∀ h' tk',h'.get? x=some { ox with dict:=some s.heap.objs.size }->h'.Ns1 s.heap.objs.size (λy=>if y=name then some v else none)->(∀ b o,b≠x->s.heap.get? b=some o->h'.get? b=some o)->Q () { s with heap:=h',toks:=tk' }) :
   wpAny (model prog w) A (setAttr (.ref x) name v) Q E s:=by
 obtain ⟨cd,hc,hd'⟩:=any_some Z.cls;have hx:=I.at_
 have hx1:(s.heap.push { cls:=.type "dict",data:=.dict #[] }).get? x=some ox:=Af _ hx
 have hxs:x≠s.heap.objs.size:=Bi (Ar hx)
 have hgd:((s.heap.push { cls:=.type "dict",data:=.dict #[] }).update x λo=>{ o with dict:=some s.heap.objs.size }).get? s.heap.objs.size=some { cls:=.type "dict",data:=.dict #[] } :=
   (Heap.get?_update_ne _ _ _ _ hxs.symm).trans (Heap.get?_push_at rfl rfl)
 have hnd:((s.heap.push { cls:=.type "dict",data:=.dict #[] }).update x λo=>{ o with dict:=some s.heap.objs.size }).Ns s.heap.objs.size (λ_=>none) :=
   ⟨_,#[],_,hgd,rfl,λe he=>absurd he (by simp),λ_=>rfl⟩
 have hxu:((s.heap.push { cls:=.type "dict",data:=.dict #[] }).update x λo=>{ o with dict:=some s.heap.objs.size }).get? x=some { ox with dict:=some s.heap.objs.size }:=by
   refine Heap.get?_update_self _ hx1 ?_;obtain ⟨a,b,c,d⟩:=ox;cases hda;rfl
 refine wH Z X I hs hm hna (λB Q' E' q=>?_) (Heap.Ns1.of_empty hnd) Within.nil (by rw [List.length_nil,sizeLine_eq]; omega) λh' tk' n sb=>h h' tk' ((sb.2 x hxs).trans hxu) n λb o hb e=>
   (sb.2 b (Bi (Ar e))).trans ((Heap.get?_update_ne _ _ _ _ hb).trans (Af _ e))
 unfold instanceDict;refine Ad (wpAny_loadPart hx ?_);rw [I.cls];refine Ad ((looks_clsIn X hc).here (s:={ s with toks:=s.toks+1 }) ?_)
 rw [hd',hdn,hda,if_neg (show ¬ ((!true)=true) by decide)]
 dsimp only;rw [if_neg (show ¬ ((!true || !typeHasDict (Value.ref D))=true) by simp [typeHasDict])]
 exact Ad (wpAny_alloc' (Ad (wpAny_update' hx1 (Al q))))
theorem bJM {T dx:Addr} {name:Str} {v:Value} {m:Q4} {ns:List Str} {odx:Obj} {Q:Unit->Shared->Prop} (Z:ExK K D) (X:K.In s.heap) (I:InstAt s.heap x ox D (some odx)) (hdn:ox.dict=some dx)
   (hs:findIn K (.ref D) "__setattr__"=some (some (.builtin "object.__setattr__"))) (hm:aQ1 K D=some [.ref D,.ref T,.type "ValueError",.type "Exception",.type "BaseException",.type "object"]) (hna:findIn K (.ref D) name=some none)
   (hn:s.heap.Ns1 dx m) (hw:Within m ns) (hz:ns.length<sizeLine)
   (h:∀ h' tk',h'.Ns1 dx (λy=>if y=name then some v else m y)->Heap.SameBut dx s.heap h'->Q () { s with heap:=h',toks:=tk' }) :
   wpAny (model prog w) A (setAttr (.ref x) name v) Q E s:=by
 obtain ⟨cd,hc,hd'⟩:=any_some Z.cls;refine wH Z X I hs hm hna (λB Q' E' q=>?_) hn hw hz h;unfold instanceDict;refine Ad (wpAny_loadPart I.at_ ?_);rw [I.cls];refine Ad ((looks_clsIn X hc).here (s:={ s with toks:=s.toks+1 }) ?_)
 rw [hd',hdn,if_neg (show ¬ ((!true)=true) by decide)]
 exact Al q
end
end L2
set_option maxHeartbeats 4000000
namespace L2
open PySem PySem.Spec PyProof.Rows PySem.W
def fM (ea C:Addr) (d:Option Addr):HO:=.ext λh=>∃ oe vs t0,h.get? ea=some oe/\oe.cls=.ref C/\oe.dict=d/\oe.data=.fields vs/\vs[1]?=some .none/\vs[0]?=some (.ref t0)/\vs[2]?=some .none
def xdO (dx:Addr) (fs:List (Str×V)):HO:=.ext λh=>∃ mA,h.Ns1 dx mA/\(∀ f,RelO (fs.lookup f) (mA f))/\Within mA (fs.map (·.1))
theorem uV {P:Program} {w:World} {H:Hp} {h:Heap} {ea C:Addr} {d:Option Addr} {oe:Obj} {vs:Array Value} {t0:Addr} (g:h.get? ea=some oe) (c:oe.cls=.ref C) (di:oe.dict=d) (da:oe.data=.fields vs) (h1:vs[1]?=some .none) (h0:vs[0]?=some (.ref t0)) (c2:vs[2]?=some .none) :
   ObjOk P w H h ea (fM ea C d):=⟨⟨oe,vs,t0,g,c,di,da,h1,h0,c2⟩,⟨oe,g⟩,λ_ _ ⟨o,ws,t,g,q⟩ k=>⟨o,ws,t,k o g,q⟩⟩
theorem bJI {P:Program} {w:World} {H:Hp} {h:Heap} {dx:Addr} {fs:List (Str×V)} {mA:Q4} (n:h.Ns1 dx mA) (r:∀ f,RelO (fs.lookup f) (mA f)) (wi:Within mA (fs.map (·.1))):ObjOk P w H h dx (xdO dx fs):=by
 refine ⟨⟨mA,n,r,wi⟩,?_,λ_ _ ⟨m,⟨o,es,ep,g,q⟩,r⟩ k=>⟨m,⟨o,es,ep,k o g,q⟩,r⟩⟩;obtain ⟨o,es,ep,g,_⟩:=n;exact ⟨o,g⟩
structure XcK (K:Frag) (C T:Addr):Prop where
 ex:ExK K C
 sa:findIn K (.ref C) "__setattr__"=some (some (.builtin "object.__setattr__"))
 mro:aQ1 K C=some [.ref C,.ref T,.type "ValueError",.type "Exception",.type "BaseException",.type "object"]
 vb:PySem.W.subIn K (.ref C) (.type "ValueError")=some true
def bXM (K:Frag) (C T:Addr):Bool:=(clsIn K C).any λc=>match c.mro with
 | [.ref a,.ref b,.type x,.type y,.type z,.type u]=>a == C && b == T && x == "ValueError" && y == "Exception" && z == "BaseException" && u == "object"
 | _=>false
theorem aZD {K:Frag} {C T:Addr} (h:bXM K C T=true):aQ1 K C=some [.ref C,.ref T,.type "ValueError",.type "Exception",.type "BaseException",.type "object"]:=by
 obtain ⟨c,hc,h⟩:=any_some h;unfold aQ1;rw [hc];split at h
 · rename_i hm
   simp only [Bool.and_eq_true,beq_iff_eq] at h;obtain ⟨⟨⟨⟨⟨rfl,rfl⟩,rfl⟩,rfl⟩,rfl⟩,rfl⟩:=h;exact Cw some hm
 · cases h
theorem kQ {P:Program} {w:World} {H:Hp} {h:Heap} {ea D:Addr} {d:Option Addr} {oe:Obj} {vs:Array Value} (hok:HOk P w H h) (g:h.get? ea=some oe) (hc:oe.cls=.ref D) (hdi:oe.dict=d) (hda:oe.data=.fields vs) (hd:∀ dx,d=some dx->∃ o,H dx=some o) :
   ∃ od,InstAt h ea oe D od:=by
 have no:notCls oe=true:=by
   obtain ⟨c,di,da,sl⟩:=oe;cases hda;rfl
 cases d with
 | none=>exact ⟨none,g,hc,no,by rw [hdi]; trivial⟩
 | some dx=>
   obtain ⟨o,z⟩:=hd dx rfl;obtain ⟨ob,g2⟩:=(hok dx o z).get;exact ⟨some ob,g,hc,no,by rw [hdi]; exact g2⟩
theorem dX1 {H:Hp} {a:Addr} {o:HO} (e:H a=some o):upd H a o=H:=by
 funext b
 unfold upd;split
 · rename_i z; rw [z,e]
 · rfl
def zP (K:Frag):List V->Hp->VK->Prop:=λvs H Q=>∃ ea rest C T d,vs=.ref ea::rest/\rest.length<=sizeLine/\H ea=some (fM ea C d)/\(∀ dx,d=some dx->∃ o,H dx=some o)/\XcK K C T/\Q .non H
def cQP (K:Frag) (t:TA):TE:=λσ H Q=>t σ H λvs H1=>zP K vs H1 Q
theorem cX6 {X:Cx}:CallR X (.builtin "ValueError.__init__") (zP X.K):=by
 intro pins s σ H xs us Q I r h;obtain ⟨ea,rest,C,T,d,rfl,hl,he,hd,Z,q⟩:=h;cases r with
 | @cons _ _ _ l2 r0 rr=>
   cases r0;obtain ⟨oe,vs,t0,g,hc,hdi,hda,h1,h0,c2⟩:=(I.hok ea _ he).1;obtain ⟨od,hI⟩:=kQ I.hok g hc hdi hda hd;refine bZW Z.ex I.kIn hI Z.vb hda h0 (by rw [<-rr.length]; exact hl) ?_
   have g2:=Af (h:=s.heap) { cls:=.type "tuple",data:=.seq l2.toArray } g
   have hs0:0<vs.size:=(Cy.mp h0).1
   have dm:=Obj.data_mapFields hda (·.setIfInBounds 0 (Value.ref s.heap.objs.size))
   refine ⟨.non,H,?_,rfl,q⟩;have I2:=I.write (x:=ea) (e:=ea) (o:=fM ea C d) (t':=s.toks) (by rw [he]; exact True.intro) (.inl rfl) (λb u hb z=>(Cm _ (Obj.mapFields (·.setIfInBounds 0 (Value.ref s.heap.objs.size))) (Ne.symm hb)).trans (Af _ z))
     ⟨_,Heap.get?_update_self _ g2 (Obj.isFreed_of_fields dm)⟩ (uV (Heap.get?_update_self _ g2 (Obj.isFreed_of_fields dm)) (by rw [Obj.cls_mapFields]; exact hc) (by rw [yZ]; exact hdi) dm (by rw [Array.getElem?_setIfInBounds]; simp [h1]) (t0:=s.heap.objs.size) (by simp [hs0]) ((Array.getElem?_setIfInBounds_ne (by decide)).trans c2))
   rw [dX1 he] at I2;exact I2
section
variable {X:Cx} {x:Str} {T:Addr} {mc:Value} {e:Expr} {es:List Expr} {t:TA} {np apos pos:Pos}
theorem yC {pl:Sem Bool} (hg:Gl X x) (hm:X.mg x=some (.ref T)) (h1:specialIn X.K (.ref T) "__getattribute__"=some (some (.builtin "type.__getattribute__"))) (h2:readsIn X.K T mc=true)
   (h3:findCls X.K (.ref T) mc "__init__"=some (.val (.builtin "ValueError.__init__"))) (ha:PA X (e::es) t) (hdb:(x == ("__debug__" : Str))=false:=by decide)
   (hst:starEach (e::es) X.env=(false,eval e X.env)::starEach es X.env:=by rfl) (hpl:(backTo pos (starEach es X.env)).any (·.1)=false:=by rfl)
   (ht:eval (.Call (.Attribute (.Name x np) "__init__" apos) (e::es) [] pos) X.env=(do
     let ov <-eval (.Name x np) X.env
     standAt apos.atName
     let (f,first) <-holding [ov] (getMethod ov "__init__" pl)
     callWith pos f first (backTo pos (starEach (e::es) X.env)) (backToKw pos (keywordEach [] X.env))):=by rfl) :
   PE X (.Call (.Attribute (.Name x np) "__init__" apos) (e::es) [] pos) (cQP X.K t):=by
 intro pins s σ H Q I h;refine PySem.W.methodCall_KW (pl:=pl) (gZ I hg hm ?_ hdb) ht;refine method_cls I.kIn h1 (cls_value I.kIn h2 h3 rfl ?_);exact PyProof.Rows.callWith_builtin1 (thn (ha pos pins _ σ H _ (I.tok _) h) λus s1 ⟨vs,H1,I1,r1,q1⟩=>cX6 pins s1 σ H1 vs us Q I1 r1 q1) hst hpl
end
theorem Inv.freAt {X:Cx} {pins:Q2} {σ:St} {H:Hp} {s:Shared} {a:Addr} (I:Inv X pins σ H s) (h:s.heap.objs.size<=a):Fre X pins a where
 s0:=Fs (Bc I.sz h)
 loc:=λz=>absurd (Bh I.lt h) (by rw [z]; exact Di _)
 cell:=λx c e z=>by
   obtain ⟨_,o,g,_⟩:=I.cell x c e;exact absurd (Bh (Ar g) h) (by rw [z]; exact Di _)
 pin:=λp hp z=>absurd (Bh (Ar (I.pin p hp).1) h) (by rw [z]; exact Di _)
def dQM (K:Frag) (ta tv:TE) (f:Str):TS:=λD σ H=>tv σ H λy H1=>ta σ H1 λx H2=>∃ ea C T,x=.ref ea/\XcK K C T/\findIn K (.ref C) f=some none/\
 ((H2 ea=some (fM ea C none)/\∀ dx,H2 dx=none->D.nx σ (upd (upd H2 ea (fM ea C (some dx))) dx (xdO dx [(f,y)])))\/
  (∃ dx fs,H2 ea=some (fM ea C (some dx))/\H2 dx=some (xdO dx fs)/\fs.length<100/\D.nx σ (upd H2 dx (xdO dx ((f,y)::fs)))))
theorem tY {f g:Str} {y:V} {fs:List (Str×V)}:List.lookup g ((f,y)::fs)=if g=f then some y else fs.lookup g:=by
 rw [Eb];by_cases z:g=f
 · rw [if_pos z,z]; simp
 · rw [if_neg z];have:(g == f)=false:=by simpa using z
   rw [this]
theorem vO {X:Cx} {o value:Expr} {f:Str} {pos pos':Pos} {ta tv:TE} (ha:PE X o ta) (hv:PE X value tv) (hs:swapsWith value (some (.Attribute o f pos')) pos.line X.env=pure false):PS X (.Assign [.Attribute o f pos'] value pos) (dQM X.K ta tv f):=by
 intro pins s σ H D I h;refine plainObj_wpAny_Assign_Attribute (thn (hv pins s σ H _ I h) λu s1 ⟨y,H1,I1,ry,q⟩=>thn (ha pins s1 σ H1 _ I1 q) λov s2 ⟨x,H2,I2,rx,ea,C,T,ex,Z,hn,q2⟩=>?_) hs;subst ex;obtain rfl:ov=Value.ref ea:=rx;rcases q2 with ⟨he,q3⟩ | ⟨dx,fs,he,hdx,hl,q3⟩
 · obtain ⟨oe,vs,t0,g,hc,hdi,hda,h1,h0,c2⟩:=(I2.hok ea _ he).1;obtain ⟨od,hI⟩:=kQ I2.hok g hc hdi hda (λ_ z=>nomatch z)
   have hod:od=none:=by
     have z:=hI.dict
     rw [hdi] at z;cases od with
     | none=>rfl
     | some o=>exact z.elim
   subst hod;refine bZ8 Z.ex I2.kIn hI hda hdi Z.sa Z.mro hn λh' tk' gx ns kp=>?_;have fr:=I2.freAt (Ah _)
   have hfree:H2 s2.heap.objs.size=none:=I2.hok.fresh (Ah _)
   have ne:s2.heap.objs.size≠ea:=λz=>by rw [z,he] at hfree; cases hfree
   have I3:=I2.write (x:=ea) (e:=ea) (o:=fM ea C (some s2.heap.objs.size)) (h':=h') (t':=tk') (by rw [he]; exact True.intro) (.inl rfl) kp ⟨_,gx⟩ (uV gx hc rfl hda h1 h0 c2)
   have I4:=I3.adopt (a:=s2.heap.objs.size) (o:=xdO s2.heap.objs.size [(f,y)]) fr (by rw [aK ne]; exact hfree) (bJI ns (λg=>by
     rw [tY];split
     · exact ry
     · exact True.intro) (λg hg=>by
     by_cases z:g=f
     · rw [z]; exact Aw.mpr rfl
     · exact absurd (show (if g=f then some u else none)=none by rw [if_neg z]) hg))
   exact ⟨σ,_,I4,q3 _ hfree⟩
 · obtain ⟨oe,vs,t0,g,hc,hdi,hda,h1,h0,c2⟩:=(I2.hok ea _ he).1;obtain ⟨mA,n,r,wi⟩:=(I2.hok dx _ hdx).1;obtain ⟨od,hI⟩:=kQ I2.hok g hc hdi hda (λz e=>by cases e; exact ⟨_,hdx⟩)
   have hod:∃ o,od=some o:=by
     have z:=hI.dict
     rw [hdi] at z;cases od with
     | none=>exact z.elim
     | some o=>exact ⟨o,rfl⟩
   obtain ⟨o,rfl⟩:=hod;refine bJM Z.ex I2.kIn hI hdi Z.sa Z.mro hn n wi (by rw [Ab,sizeLine_eq]; omega) λh' tk' ns sb=>?_
   have hd':∃ o,h'.get? dx=some o:=let ⟨o,_,_,e',_⟩:=ns; ⟨o,e'⟩
   have I3:=I2.write (x:=dx) (e:=dx) (o:=xdO dx ((f,y)::fs)) (h':=h') (t':=tk') (by rw [hdx]; exact True.intro) (.inl rfl) (λb q hb z=>(sb.2 b hb).trans z) hd' (bJI ns (λg=>by
     rw [tY];split
     · exact ry
     · exact r g) (λg hg=>by
     by_cases z:g=f
     · rw [z]; exact As
     · refine Ao _ (wi g λz2=>hg ?_);show (if g=f then some u else mA g)=none
       rw [if_neg z]; exact z2))
   exact ⟨σ,_,I3,q3⟩
def bJL (K:Frag) (ta:TE) (f:Str):TE:=λσ H Q=>ta σ H λx H1=>∃ ea C dx fs v,x=.ref ea/\(H1 ea=some (vC ea (.ref C) (some dx))\/H1 ea=some (fM ea C (some dx)))/\H1 dx=some (xdO dx fs)/\ExK K C/\findIn K (.ref C) f=some none/\fs.lookup f=some v/\Q v H1
theorem bJE {v:V} {u:Value} (r:RelV v u):handedIn u=true:=by
 cases v <;> first | (obtain ⟨_,rfl⟩:=(show ∃ t,u=_ from r); rfl) | (cases r; rfl)
theorem cQ6 {X:Cx} {e:Expr} {f:Str} {pos:Pos} {ta:TE} (he:PE X e ta) (hb:attributeBase e f X.env (eval e X.env)=eval e X.env):PE X (.Attribute e f pos) (bJL X.K ta f):=by
 intro pins s σ H Q I h;refine cXL hb (thn (he pins s σ H _ I h) λu s1 ⟨x,H1,I1,rx,ea,C,dx,fs,v,ex,e1,e2,Z,n,l,q⟩=>?_);subst ex;obtain rfl:u=Value.ref ea:=rx;obtain ⟨oe,vs,g,hc,hdi,hda⟩:∃ oe vs,s1.heap.get? ea=some oe/\oe.cls=.ref C/\oe.dict=some dx/\oe.data=.fields vs:=by
   rcases e1 with e1 | e1
   · exact (I1.hok ea _ e1).1
   · obtain ⟨oe,vs,t0,g,hc,hdi,hda,_⟩:=(I1.hok ea _ e1).1;exact ⟨oe,vs,g,hc,hdi,hda⟩
 obtain ⟨⟨mA,ns,r,wi⟩,_⟩:=I1.hok dx _ e2;obtain ⟨od,hI⟩:=kQ I1.hok g hc hdi hda (λz e=>by cases e; exact ⟨_,e2⟩)
 obtain ⟨o,go,lo⟩:=uF ns;have hod:od=some o:=by
   have z:=hI.dict
   rw [hdi] at z;cases od with
   | none=>exact z.elim
   | some o'=>
     have z:s1.heap.get? dx=some o':=z
     rw [go] at z;exact z.symm
 subst hod;have rl:=r f
 rw [l] at rl;cases hu:mA f with
 | none=>rw [hu] at rl; exact rl.elim
 | some u=>
   rw [hu] at rl;exact cZ2 Z I1.kIn hI (findObj_own Z.cls n rfl (by rw [lo,hu])) (bJE rl) ⟨v,H1,I1.tok _,rl,q⟩
end L2
set_option maxHeartbeats 4000000
namespace L2
open PySem PySem.Spec PyProof.Rows PySem.W
def uI (K:Frag) (C:Addr) (bmB:List Value) (newId:String):Bool :=
 match K.lookup C with
 | some ⟨.type t,_,.cls c,sl⟩=>t == "type" && !c.hasDel && nsOkIn K c.ns &&
   (match c.mro with | .ref C1::bm=>C1 == C && tailIn K bmB bm | _=>false) && (match sl.toList with | [_,_,_,_,some (.builtin n),_]=>n == newId | _=>false)
 | _=>false
theorem dZC {K:Frag} {h:Heap} {C:Addr} {bmB:List Value} {newId:String} (X:K.In h) (q:uI K C bmB newId=true) :
   ∃ bm N nm qn bs hd sn sub ab col dd k0 k1 k2 k3 k5,h.get? C=some (excClassObj nm qn C N bs bm hd sn sub ab col dd k0 k1 k2 k3 k5 newId)/\OwnTail h bmB bm:=by
 unfold uI at q;split at q
 · rename_i t dd c sl ho
   simp only [Bool.and_eq_true,beq_iff_eq,Bool.not_eq_true'] at q;obtain ⟨⟨⟨⟨rfl,q1⟩,q2⟩,q3⟩,q4⟩:=q;split at q3
   · rename_i C1 bm hm
     obtain ⟨rfl,q5⟩:C1=C/\tailIn K bmB bm=true:=by simpa only [Bool.and_eq_true,beq_iff_eq] using q3
     split at q4
     · rename_i k0 k1 k2 k3 n k5 hs
       obtain rfl:n=newId:=by simpa using q4
       obtain ⟨nm,bs,mro,ns,qn,hd,sn,sub,ab,col,del⟩:=c;dsimp only at hm q1 q2;subst hm q1;obtain ⟨l⟩:=sl;cases (show l=_ from hs);exact ⟨bm,ns,nm,qn,bs,hd,sn,sub,ab,col,dd,k0,k1,k2,k3,k5,X _ _ ho,tail_of_in X q5⟩
     · cases q4
   · cases q3
 · cases q
section
variable {prog:Program} {w:World} {A:Around} {E:Q0} {s:Shared} {K:Frag} {C f:Addr} {bmB:List Value} {B newId initId:String}
theorem bQT {rest:List Value} {Q:Fin->Shared->Prop} (FB:ExcBaseFacts B newId initId bmB) (X:K.In s.heap) (hx:uI K C bmB newId=true) (hi:findIn K (.ref C) "__init__"=some (some (.ref f))) (hf:typeIn K (.ref f)=some (.type "function")) (hr:rest.length<=sizeLine)
   (hq:∀ h' e,Heap.MadeExcOf s.heap h' e (.ref C) rest->wpAny (model prog w) A (call (.ref f) (.ref e::rest)) (λr s'=>r=.none/\Q (.done (.ret (.ref e))) s') E { s with heap:=h' }) :
   wpAny (model prog w) A (Builtin.«type.__call__» ⟨.ref C::rest,[]⟩) Q E s:=by
 obtain ⟨h,g,d,t,os⟩:=s;obtain ⟨bm,N,nm,qn,bs,hd,sn,sub,ab,col,dd,k0,k1,k2,k3,k5,hC,Tl⟩:=dZC X hx;repeat (first | with_reducible refine wpAny_madeBy_exc hC ?_ | with_reducible refine Fp hC ?_ | wp_step)
 refine codeAny_call_builtin_code (Gh _ FB.quiet) (wpAny_check_new_subT FB Tl hC (codeAny_exc_new_subT FB Tl hC ?_ hr));show wpAny _ _ _ _ _ _
 generalize hh1:(h.push { cls:=.type "tuple",data:=.seq rest.toArray }).push { cls:=.ref C,data:=.fields #[.ref h.objs.size,.none,.none,.none,.bool false,.none] }=h1;have kp:∀ b o,h.get? b=some o->h1.get? b=some o:=λb o e=>by rw [<-hh1]; exact Af _ (Af _ e)
 have dM:h1.get? (h.objs.size+1)=some { cls:=.ref C,data:=.fields #[.ref h.objs.size,.none,.none,.none,.bool false,.none] }:=by rw [<-hh1]; heap_get
 have X1:=X.keeps kp
 have hC1:=kp _ _ hC
 have hcC:(Value.ref C::bm).contains (.ref C)=true:=by simp
 unfold isInstance;repeat (first | (with_reducible refine wpAny_isSubtype_exc hC1 ?_; rw [hcC]) | with_reducible refine Fp dM ?_ | wp_step)
 show wpAny _ _ (typeLookup (.ref C) _) _ _ _
 refine (looks_findIn X1 hi).here (s:=⟨h1,g,d,t,os⟩) (Bx (Ad ?_));unfold bindSpecial;refine Ad ((looks_typeIn X1 hf).here (s:=⟨h1,g,d,t,os⟩) ?_);rw [if_pos (by decide)]
 refine Al (Ad (Ce (hq h1 (h.objs.size+1) ⟨kp,Fs (Gj _),h.objs.size,dM,Fs (Ah _),?_⟩) (λr s' hr=>?_) λ_ _ z=>z))
 · rw [<-hh1];exact Af _ (Heap.get?_push_at rfl rfl)
 · obtain ⟨rfl,z⟩:=hr
   wp_walk
   exact z
theorem bZ7 {rest:List Value} {Q:Q0} (FB:ExcBaseFacts B newId initId bmB) (X:K.In s.heap) (hx:uI K C bmB newId=true) (hi:findIn K (.ref C) "__init__"=some (some (.ref f))) (hf:typeIn K (.ref f)=some (.type "function")) (hr:rest.length<=sizeLine)
   (hq:∀ h' e,Heap.MadeExcOf s.heap h' e (.ref C) rest->wpAny (model prog w) (A.under (.builtin "type.__call__" ⟨.ref C::rest,[]⟩)) (call (.ref f) (.ref e::rest)) (λr s'=>r=.none/\Q (.ref e) s') E { s with heap:=h' }) :
   wpAny (model prog w) A (call (.ref C) rest) Q E s:=by
 have X0:=X
 obtain ⟨h,g,d,t,os⟩:=s;obtain ⟨bm,N,nm,qn,bs,hd,sn,sub,ab,col,dd,k0,k1,k2,k3,k5,hC,Tl⟩:=dZC X hx;have c1:=tc_lookup
 have c2:=tc_bind (.ref C)
 have c3:(⟨h,g,d,t,os⟩:Shared).TypeIs (.ref C) "type" := ⟨_,hC,rfl⟩
 refine Gf (codeAny_of_tree ?_);show wpAny _ _ (callAny (.ref C) _) _ _ _
 repeat (any_goals (first | with_reducible refine Fp hC ?_ | assumption | wp_step))
 exact ⟨rfl,codeAny_call_builtin_at (Gh _ (by decide +kernel)) entry_typeCall (wpAny_check_type_call_sub hC (bQT FB X0 hx hi hf hr λh' e hm=>hq h' e hm))⟩
theorem bQK {env:Env} {x:Sem Value} {Q:Flow->Shared->Prop} (hh:A.handled=none)
   (h:wpAny (model prog w) A x (λv s1=>∃ e oe vs bm N nm qn bs hd sn sub ab col dd k0 k1 k2 k3 k5,v=.ref e/\s1.heap.get? C=some (excClassObj nm qn C N bs bm hd sn sub ab col dd k0 k1 k2 k3 k5 newId)/\bm.contains (.type "BaseException")=true/\
     s1.heap.get? e=some oe/\oe.cls=.ref C/\oe.data=.fields vs/\vs[1]?=some .none/\E (.ref e) s1) E s):wpAny (model prog w) A (raiseStmt env (some x) none) Q E s:=by
 unfold raiseStmt;refine Ad (Ce h (λv s1 q=>?_) λ_ _ z=>z);obtain ⟨e,oe,vs,bm,N,nm,qn,bs,hd,sn,sub,ab,col,dd,k0,k1,k2,k3,k5,rfl,hC,hb,he,hc,hda,h1,hE⟩:=q;obtain ⟨hp,g,d,tk,os⟩:=s1;obtain ⟨oc,odi,oda,osl⟩:=oe;dsimp only at hc hda;subst hc hda;have hcB:(Value.ref C::bm).contains (.type "BaseException")=true:=by rw [List.contains_cons,hb,Bool.or_true]
 repeat (first | with_reducible refine Fp hC ?_ | with_reducible refine Fp he ?_ | (with_reducible refine wpAny_isSubtype_exc hC ?_; rw [hcB]) | wp_step)
 rw [h1];refine Al ?_;rw [if_neg (show ¬ ((Value.none != Value.none)=true) by decide)]
 exact Al (wpAny_raiseNew_none hh hE)
end
def del (H:Hp) (a:Addr):Hp:=λb=>if b=a then none else H b
theorem dX {H:Hp} {a b:Addr} (h:b≠a):del H a b=H b:=if_neg h
theorem xD {H:Hp} {a:Addr}:del H a a=none:=if_pos rfl
section
variable {X:Cx} {pins:Q2} {σ:St} {H:Hp} {s:Shared}
theorem Inv.drop {ea:Addr} {φ:Heap->Prop} (I:Inv X pins σ H s) (e:H ea=some (.ext φ)):Inv X pins σ (del H ea) s:=by
 have ne:∀ b u,H b=some u->(∀ ψ,u≠.ext ψ)->b≠ea:=λb u q n z=>by
   rw [z,e] at q;cases q;exact n φ rfl
 refine I.re (λb n=>?_) (λb xs q=>?_) (λb o u q=>?_) (λb ps q=>?_) λb o q=>?_
 · unfold del;split
   · rfl
   · exact n
 · have q1:=I.base.tups b xs q
   rw [dX (ne b _ q1 λ_ z=>nomatch z)]
   exact q1
 · have q1:=I.base.frzs b o u q
   rw [dX (ne b _ q1 λ_ z=>nomatch z)]
   exact q1
 · obtain ⟨m,q1⟩:=I.base.tbls b ps q;exact ⟨m,by rw [dX (ne b _ q1 λ_ z=>nomatch z)]; exact q1⟩
 · have hb:b≠ea:=λz=>by rw [z,xD] at q; cases q
   rw [dX hb] at q;exact (I.hok b o q).stay (λ_ _ _ z=>z) (λc z=>by rw [dX (ne c _ z λ_ z=>nomatch z)]; exact z) λc xs z=>by rw [dX (ne c _ z λ_ z=>nomatch z)]; exact z
theorem Inv.freNew {a:Addr} (I:Inv X pins σ H s) (hex:X.ex=[]) (h:s.heap.get? a=none):Fre X pins a where
 s0:=by
   cases z:X.s₀.heap.get? a with
   | none=>rfl
   | some o=>
     obtain ⟨o',z'⟩:=I.base.there a o z (by rw [hex]; simp)
     rw [h] at z';cases z'
 loc:=λz=>by
   obtain ⟨m,⟨o,_,_,g,_⟩,_⟩:=I.loc;rw [<-z,h] at g;cases g
 cell:=λx c e z=>by
   obtain ⟨_,o,g,_⟩:=I.cell x c e;rw [z,h] at g;cases g
 pin:=λp hp z=>by
   have g:=(I.pin p hp).1
   rw [z,h] at g;cases g
end
def zO (P:Program) (w:World) (K:PySem.W.Frag) (mg:Str->Option Value) (base:Heap) (k:Nat) (C:Addr) (ps:List Str) (sp:Sp):Prop :=
 ∃ (f:Addr) (fd:FuncData),FnOk P w K mg base CX0 k f fd ps sp/\findIn K (.ref C) "__init__"=some (some (.ref f))/\typeIn K (.ref f)=some (.type "function")/\Binds K fd ps []
structure XmK (K:Frag) (C:Addr):Prop where
 obj:uI K C [.type "ValueError",.type "Exception",.type "BaseException",.type "object"] "ValueError.__new__"=true
 kp:keepIn K (.ref C)=true
def aZ2 (C:Addr) (sp:Sp) (E:XK) (ta:TA):TS:=λ_ σ H=>ta σ H λvs H1=>vs.length<=sizeLine/\∀ ea,H1 ea=none->sp (.ref ea::vs) (upd H1 ea (fM ea C none)) (λv H2=>v=.non/\∃ d,H2 ea=some (fM ea C d)/\E (.ref C) d (del H2 ea)) E0
section
variable {X:Cx} {E:XK} {x:Str} {C:Addr} {e:Expr} {es:List Expr} {ta:TA} {np cpos pos:Pos} {k:Nat} {ps:List Str} {sp:Sp}
theorem bQ5 {pins:Q2} {σ:St} {H1:Hp} {s1:Shared} {vs:List V} {us:List Value} {G:Addr->VK} {R:Q0} (hex:X.ex=[]) (M:XmK X.K C) (c:zO X.prog X.w X.K X.mg X.base k C ps sp) (hr:Room (k+1) X.A) (I1:Inv X pins σ H1 s1) (r:Vals vs us)
   (hl:vs.length<=sizeLine) (q:∀ ea,H1 ea=none->sp (.ref ea::vs) (upd H1 ea (fM ea C none)) (G ea) E0)
   (hR:∀ ea H2 s2,X.s₀.heap.get? ea=none->Inv X pins σ H2 s2->(G ea) .non H2->R (.ref ea) s2) (hG:∀ ea v H2,G ea v H2->v=.non):wpAny (model X.prog X.w) X.A (call (.ref C) us) R X.xe s1:=by
 obtain ⟨f,fd,F,hi,hf,hb⟩:=c;refine bZ7 Fu I1.kIn M.obj hi hf (by rw [<-r.length]; exact hl) λh' ea hm=>?_
 obtain ⟨t,g,_,_⟩:=hm.there;have hole:H1 ea=none:=I1.hok.hole hm.new
 have fr:=I1.freNew hex hm.new
 have I2:=(I1.kept (t':=s1.toks) hm.keeps).adopt (o:=fM ea C none) fr hole (uV g rfl rfl rfl rfl rfl rfl)
 have r2:Vals (V.ref ea::vs) (Value.ref ea::us):=.cons rfl r
 have hq:=q ea hole
 have hl2:((Value.ref ea::us)++[]).length=ps.length:=by rw [Br,<-r2.length]; exact F.len _ _ _ _ hq
 have hbb:=hb { s1 with heap:=h' } (Value.ref ea::us) I2.kIn hl2
 rw [Br] at hbb;refine Gf (Fb (F.run _ X.stack { s1 with heap:=h' } _ ⟨Value.ref ea::us,[]⟩ (Value.ref ea::us) (V.ref ea::vs) _ E0 (hr.make C us []) (I2.env0.make C us []) hbb r2 hq) λrr s' hq'=>?_)
 cases rr with
 | error e=>exact False.elim hq'
 | ok fl=>
   cases fl with
   | ret u=>
     obtain ⟨v,H',I3,rv,q3⟩:=I2.after hq';have ev:=hG ea v H' q3
     subst ev;exact ⟨rv,hR ea H' s' fr.s0 I3 q3⟩
   | next=>exact False.elim hq'
   | brk=>exact False.elim hq'
   | cont=>exact False.elim hq'
theorem nU {k':Nat} (hR:dZB X E) (hex:X.ex=[]) (hc:X.calm=true) (hg:Gl X x) (hm:X.mg x=some (.ref C)) (M:XmK X.K C) (c:zO X.prog X.w X.K X.mg X.base k C ps sp) (hr:Room k' X.A) (hkk:k+1<=k') (ha:PA X (e::es) ta)
   (hd:(x == ("__debug__" : Str))=false:=by decide) (he:starEach (e::es) X.env=(false,eval e X.env)::starEach es X.env:=by rfl) (hpl:(backTo cpos (starEach es X.env)).any (·.1)=false:=by rfl) :
   PS X (.Raise (some (.Call (.Name x np) (e::es) [] cpos)) none pos) (aZ2 C sp E ta):=by
 intro pins s σ H D I h;rw [arm_exec_Raise];simp only [evalOpt,Option.map];refine Ad (Fk (bQK (C:=C) (newId := "ValueError.__new__") (I.ok.hd hc) ?_));refine Ad (Ce (Q:=λv s1=>∃ e oe vs bm N nm qn bs hd sn sub ab col dd k0 k1 k2 k3 k5,v=.ref e/\s1.heap.get? C=some (excClassObj nm qn C N bs bm hd sn sub ab col dd k0 k1 k2 k3 k5 "ValueError.__new__")/\bm.contains (.type "BaseException")=true/\
     s1.heap.get? e=some oe/\oe.cls=.ref C/\oe.data=.fields vs/\vs[1]?=some .none/\X.xe (.ref e) s1) ?_ (λv s3 h3=>Ad (Fk (Al h3))) λ_ _ z=>z)
 refine Er (gZ I hg hm ?_ hd);refine PySem.W.callWith_K (h₀:=X.base) I.ok.mod.kin M.kp (thn (ha cpos pins s σ H _ I h) λus s1 ⟨vs,H1,I1,r,hl,q⟩=>⟨I1.kIn,?_⟩) he hpl;refine bQ5 hex M c (hr.mono hkk) I1 r hl q (λea H' s' s0 I3 q3=>?_) λea v H2 z=>z.1;obtain ⟨_,d,e2,q3⟩:=q3;obtain ⟨oe,ws,t0,g2,hc2,hdi,hda,h1,h0,c2⟩:=(I3.hok ea _ e2).1;obtain ⟨bm,N,nm,qn,bs,hdct,sn,sub,ab,col,dd,k0,k1,k2,k3,k5,hC,Tl⟩:=dZC I3.kIn M.obj;refine ⟨ea,oe,ws,bm,N,nm,qn,bs,hdct,sn,sub,ab,col,dd,k0,k1,k2,k3,k5,rfl,hC,Tl.hasType PySem.F.excBase_ValueError.hasBase,g2,hc2,hda,h1,?_⟩;exact hR pins σ (del H' ea) s' ea oe ws (I3.drop e2) g2 hda h1 c2 xD s0 (by rw [hc2,hdi]; exact q3)
end
def cJR (st:Stmt) (j:Nat):Stmt :=
 match st with
 | .ClassDef _ _ _ body _ _ _ _ _ _ _=>body.getD j (.Pass ⟨0,0,0,0⟩)
 | s=>s
section
variable {g:TG} {tests:TT} {te:TE} {σ0:St} {Q:VK} {H1:Hp}
end
section
variable {K:PySem.W.Frag} {H:Hp} {Q:VK} {ea C D T dx tp:Addr} {c:V} {cs:List V} {cv:Value} {cvs:List Value} {b:Bool} {d:Option Addr} {σ:St} {D':Ends} {sp:Sp} {E:XK} {ta:TA} {te tv:TE} {f:Str}
theorem cZH (h:ta σ H λvs H1=>zP K vs H1 Q):cQP K ta σ H Q:=h
theorem cQN (h:ta σ H λvs H1=>vs.length<=sizeLine/\∀ ea,H1 ea=none->sp (.ref ea::vs) (upd H1 ea (fM ea C none)) (λv H2=>v=.non/\∃ d,H2 ea=some (fM ea C d)/\E (.ref C) d (del H2 ea)) E0):aZ2 C sp E ta D' σ H:=h
theorem dQ5 (h:te σ H λx H1=>∃ ea C dx fs v,x=.ref ea/\(H1 ea=some (vC ea (.ref C) (some dx))\/H1 ea=some (fM ea C (some dx)))/\H1 dx=some (xdO dx fs)/\ExK K C/\PySem.W.findIn K (.ref C) f=some none/\fs.lookup f=some v/\Q v H1):bJL K te f σ H Q:=h
theorem dQW (h:tv σ H λy H1=>te σ H1 λx H2=>∃ ea C T,x=.ref ea/\XcK K C T/\PySem.W.findIn K (.ref C) f=some none/\
 ((H2 ea=some (fM ea C none)/\∀ dx,H2 dx=none->D'.nx σ (upd (upd H2 ea (fM ea C (some dx))) dx (xdO dx [(f,y)])))\/
  (∃ dx fs,H2 ea=some (fM ea C (some dx))/\H2 dx=some (xdO dx fs)/\fs.length<100/\D'.nx σ (upd H2 dx (xdO dx ((f,y)::fs)))))):dQM K te tv f D' σ H:=h
end
end L2
set_option maxHeartbeats 4000000
namespace L2
open PySem PySem.Spec PyProof.Rows
section
variable {P:Program} {w:World} {K:PySem.W.Frag} {mg:Q4} {base:Heap}
end
section
variable {X:Cx} {pn:Q2} {ea:Addr} {k k':Nat} {ps:List Str} {sp:Sp} {x:Str} {p pos:Pos} {e:Expr} {es:List Expr} {t:TA}
end
theorem xE {X:Cx} {K:PySem.W.Frag} {e:Expr} {f:Str} {pos:Pos} {ta:TE} (h:X.K=K) (he:PE X e ta) (hb:attributeBase e f X.env (eval e X.env)=eval e X.env):PE X (.Attribute e f pos) (bJL K ta f):=by
 subst h;exact cQ6 he hb
end L2
set_option maxHeartbeats 4000000
namespace L2
open PySem PySem.Spec PyProof.Rows
section
variable {prog:Program} {w:World} {A:Around} {E:Q0}
theorem zB {it l:Addr} {items:Array Value} (hne:l≠it):∀ (n i:Nat) (s:Shared) (Q:List Value->Shared->Prop),s.heap.IsListIter it l i->s.heap.IsList l items->i+n<=items.size->
   (∀ h',h'.IsListIter it l (i+n)->Heap.SameBut it s.heap h'->Q ((items.toList.drop i).take n) { s with heap:=h' })->wpAny (model prog w) A (draw (.ref it) n) Q E s
 | 0,i,s,Q,hit,_,_,k=>by
   refine Al (M:=model prog w) ?_
   simpa using k s.heap hit (Heap.SameBut.refl ..)
 | n+1,i,s,Q,hit,hl,hle,k=>by
   have lt:i<items.size:=by omega
   show wpAny _ _ (pyNext (.ref it) >>= _) Q E s
   refine wpAny_bind (wpAny_pyNext_list_item hit hl (x:=items[i]) (by simp [lt]) λg1 it1 sb1=>?_)
   refine Ad (Bx (zB hne n (i+1) _ _ it1 (hl.extBut sb1.extBut hne) (by omega) λg2 it2 sb2=>Al ?_))
   have e:items.toList.drop i=items[i]::items.toList.drop (i+1):=by simp [List.drop_eq_getElem_cons,lt]
   have z:=k g2 (by rw [show i+(n+1)=i+1+n by omega]; exact it2) (sb1.trans sb2)
   rw [e,List.take_succ_cons] at z;exact z
theorem aXH {s:Shared} {l:Addr} {items:Array Value} {targets:List (Bool×(Value->Sem Unit))} {Q:Unit->Shared->Prop} (hh:A.handled=none) (hl:s.heap.IsList l items)
   (hn:targets.length=items.size) (hs:targets.findIdx? (·.1)=none)
   (k:∀ h',Heap.ExtBut s.heap.objs.size s.heap h'->wpAny (model prog w) A (assignInOrder (targets.map (·.2)) items.toList) Q E { s with heap:=h' }) :
   wpAny (model prog w) A (unpack (.ref l) targets) Q E s:=by
 have hlt:l≠s.heap.objs.size:=by obtain ⟨o,ho,_⟩:=hl; exact Bi (Ar ho)
 unfold unpack;rw [hn,hs];refine Ad (Bx ?_);unfold unpackItems notIterableAtAll;refine Ad (Ad (Ge hl.typeIs slot_list_iter.lookup (Al ?_)));rw [if_neg (by simp)]
 refine Ad (Bx (Fc hl ?_));refine Ad (Bx (zB hlt items.size 0 _ _ ⟨_,Ax _ rfl,rfl,rfl⟩ (hl.push _) (by omega) λg1 it1 sb1=>?_))
 have al:List.take items.size (List.drop 0 items.toList)=items.toList:=by rw [List.drop_zero]; exact List.take_of_length_le (by simp)
 rw [al,if_neg (by simp)]
 refine wpAny_bind (wpAny_holding (wpAny_pyNext_list_end hh it1 ((hl.push _).extBut sb1.extBut hlt) (by simp) λg2 eb=>?_))
 simp only [Option.isSome_none,Bool.false_eq_true,if_false];exact Al (k g2 λb o hb e=>eb b o hb (sb1.extBut b o hb (Af _ e)))
end
def eQU (n:Nat) (t:TGs):TG:=λv σ H Q=>∃ a xs,v=.ref a/\rdL H a=some xs/\xs.length=n/\t xs σ H Q
theorem dQS {X:Cx} {es:List Expr} {k:Nat} {t:TGs} {n:Nat} {pos:Pos} (hc:X.calm=true) (h:PGs X es t)
   (hn:(assignEach es X.env).length=n:=by rfl) (hst:(assignEach es X.env).findIdx? (·.1)=none:=by rfl):PG X (.Tuple es k pos) (eQU n t):=by
 intro pins s σ H v u Q I r hw;obtain ⟨a,xs,e1,hq,hl,hw⟩:=hw;subst e1;cases r;obtain ⟨its,rv,⟨o,nn,ho,hcl,_,hda⟩,hz⟩:=I.list (aR hq);rw [assign_Tuple];refine wpAny_bind (wpAny_standAt (aXH (I.ok.hd hc) ⟨o,ho,hcl,nn,hda⟩ (by simp [hn,<-hl,rv.length]) hst λh' hx=>?_))
 have I1:Inv X pins σ H { s with heap:=h' }:=I.kept (t':=s.toks) λb o e=>hx b o (Bi (Ar e)) e
 exact h pins _ σ H xs _ Q I1 (by simpa using rv) hw
theorem dZI {n:Nat} {t:TGs} {a:Addr} {xs:List V} {σ:St} {H:Hp} {Q:St->Hp->Prop} (e:rdL H a=some xs) (hn:xs.length=n) (h:t xs σ H Q):eQU n t (.ref a) σ H Q:=⟨a,xs,rfl,e,hn,h⟩
end L2
set_option maxHeartbeats 4000000
namespace L2
open PySem PySem.Spec PyProof.Rows
open PySem.AutoSeq1 (wpAny_loadPart')
section
variable {prog:Program} {w:World} {A:Around} {E:Q0} {s:Shared}
end
section
variable {X:Cx} {l:Expr} {ta tk:TA} {kws:List Keyword} {elts:List Expr} {x1:Nat} {tp p pos kp:Pos}
end
section
variable {K:PySem.W.Frag} {a:Addr} {k:Nat} {xs:List V} {g:TG} {tb:TS} {D:Ends} {σ σ0:St} {H H1:Hp} {tests:TT} {te:TE} {Q:VK} {z:Str} {ta tk:TA}
theorem eQ5 {i:Int} (h:Q (.int (-i)) H):dXE (.int i) H Q:=h
end
end L2
set_option maxHeartbeats 4000000
namespace L2
open PySem PySem.Spec PyProof.Rows
section
variable {X:Cx} {a b:Expr} {ta tb:TE} {pos:Pos} {rest:List Expr}
section
variable {σ:St} {H:Hp} {Q:VK} {p:Addr} {xs:List V} {z:Str} {j:Nat}
theorem aX9 {g:TG} {tests:TT} {te:TE} {σ0:St} {H1:Hp} (f:Nat->Option V) (hl:z.length<sizeLine)
   (hs:∀ (i:Nat) c Hc (A:VK) (B:Hp->Prop),z.cps.toList[i]?=some c->Same H1 Hc->(∀ Hd,Same Hc Hd->match f c with | some y=>A y Hd | none=>B Hd)->
     g (.str ⟨#[c]⟩) σ0 Hc λσ2 H2=>Wk σ0 σ2/\tests σ2 H2 λb H3=>if b=true then te σ2 H3 A else B H3)
   (fin:∀ D Hd,H1 D=none->Same H1 Hd->Hd D=some (.lst (z.cps.toList.filterMap f))->Q (.ref D) Hd):eQ g tests te σ0 Q (Its z) H1:=by
 intro D hD;have hzz:z.cps.size=z.length:=rfl
 have hz2:z.cps.toList.length=z.length:=by simp [Str.length]
 refine ⟨λi m Hc=>m=z.length - i/\i<=z.length/\Same H1 Hc/\Hc D=some (.lst ((z.cps.toList.take i).filterMap f)),⟨z.length,by simp,Nat.zero_le _,aF hD _,by rw [aD]; rfl⟩,?_⟩
 rintro i m Hc ⟨rfl,hi,sm,hDc⟩;by_cases hlt:i<z.length
 · refine .inr ⟨hlt,λv H' y=>?_⟩;obtain ⟨rfl,c,hz,rfl⟩:=y;have hx:z.cps.toList[i]?=some c:=by rw [Cu]; exact hz
   refine hs i c H' _ _ hx sm λHd sd=>?_;have hDd:Hd D=some (.lst ((z.cps.toList.take i).filterMap f)):=sd _ _ hDc
   have sH:Same H1 Hd:=sm.trans sd
   cases e:f c with
   | some y=>
     refine ⟨_,hDd,?_,z.length - (i+1),by omega,rfl,hlt,λb o hb=>?_,?_⟩
     · have:=Dj f (z.cps.toList.take i)
       rw [Bs] at this;omega
     · rw [aK (bL hb hD)]; exact sH b o hb
     · rw [aD,Ba,hx,Cj];show some (HO.lst (_++[y]))=some (HO.lst (_++[c].filterMap f))
       rw [Dm e,Do]
   | none=>
     refine ⟨z.length - (i+1),by omega,rfl,hlt,sH,?_⟩
     rw [hDd,Ba,hx,Cj];show some (HO.lst _)=some (HO.lst (_++[c].filterMap f))
     rw [Ed e,Do,Br]
 · have e:i=z.length:=by omega
   subst e;refine .inl ⟨Ah _,fin D Hc hD sm ?_⟩;rw [hDc,Bu (by omega)]
end
end
end L2
set_option maxHeartbeats 4000000
namespace L2
open PySem PySem.Spec PyProof.Rows
section
variable {X:Cx}
def cX1 (neg:Bool):R2:=λx y H Q=>∃ a ov,y=.ref a/\oX H a x ov/\Q (.bl (if neg then !ov.isSome else ov.isSome)) H
theorem dQG (hu:X.A.units+1<cLine):OpR X (compareOp .In) (cX1 false):=by
 intro pins s σ H x y v u Q I rx ry h;obtain ⟨a,ov,rfl,g,q⟩:=h;cases ry;exact eQV hu I g rx λs3 I3=>⟨.bl ov.isSome,H,I3,rfl,q⟩
theorem cQF (hu:X.A.units+1<cLine):OpR X (compareOp .NotIn) (cX1 true):=by
 intro pins s σ H x y v u Q I rx ry h;obtain ⟨a,ov,rfl,g,q⟩:=h;cases ry;exact cXM hu I g rx λs3 I3=>⟨.bl (!ov.isSome),H,I3,rfl,q⟩
section
variable {H:Hp} {Q:VK} {a:Addr} {kvs:List (Key×V)} {z:Str}
theorem cJS {neg:Bool} (e:Rd H a (.dK kvs)) (h:Q (.bl (if neg then !(bZ kvs (Sum.inr z)).isSome else (bZ kvs (Sum.inr z)).isSome)) H):cX1 neg (.str z) (.ref a) H Q:=⟨a,_,rfl,.inl ⟨kvs,.inr z,e,rfl,rfl⟩,h⟩
end
end
end L2
set_option maxHeartbeats 4000000
namespace L2
open PySem PySem.Spec PyProof.Rows PySem.Builtin PySem.Builtin.Str
section
variable {X:Cx}
end
end L2
set_option maxHeartbeats 1000000
namespace L2
open PySem PySem.Spec PyProof.Rows
section
variable {X:Cx}
end
end L2
namespace L2
open PySem PySem.Spec PyProof.Rows
section
variable {prog:Program} {w:World} {A:Around} {R:Result->Shared->Prop} {J:Addr} {us ws:List Addr} {n:Nat} {P:Nat->Value->Prop} {St:Nat->Heap->Prop} {d:Value}
end
section
variable {prog:Program} {w:World} {A:Around} {E:Q0} {s:Shared}
end
section
variable {X:Cx} {l:Expr} {ta:TA} {tk:TA} {p pos kp:Pos}
end
end L2
namespace L2
open PySem PySem.Spec PyProof.Rows
section
variable {X:Cx} {tg a b c:Expr} {p pos:Pos}
end
end L2
set_option maxHeartbeats 4000000
namespace L2
open PySem PySem.Spec PyProof.Rows
section
variable {g:TG} {tests:TT} {te:TE} {σ0:St} {Q:VK} {H1:Hp}
theorem eG {f:Nat->Option V} {i:Nat} {y:V} (h:f i=some y):(List.range (i+1)).filterMap f=(List.range i).filterMap f++[y]:=by
 rw [Ci,Cj,Dm h,Do]
theorem iL {f:Nat->Option V} {i:Nat} (h:f i=none):(List.range (i+1)).filterMap f=(List.range i).filterMap f:=by
 rw [Ci,Cj,Ed h,Do,Br]
theorem kC {K:PySem.W.Frag} {a:Addr} {xs:List V} (f:Nat->Option V) (ha:rdL H1 a=some xs) (hl:xs.length<sizeLine)
   (hs:∀ (i:Nat) x Hc (A:VK) (B:Hp->Prop),xs[i]?=some x->Same H1 Hc->(∀ y,f i=some y->∀ Hd,Same Hc Hd->A y Hd)->(f i=none->∀ Hd,Same Hc Hd->B Hd)->
     g x σ0 Hc λσ2 H2=>Wk σ0 σ2/\tests σ2 H2 λb H3=>if b=true then te σ2 H3 A else B H3)
   (fin:∀ D Hd,H1 D=none->Same H1 Hd->Hd D=some (.lst ((List.range xs.length).filterMap f))->Q (.ref D) Hd):eQ g tests te σ0 Q (Itl K a) H1:=by
 refine fE (n:=xs.length) (λD i ys Hc=>Same H1 Hc/\ys=(List.range i).filterMap f) hl (λD hD=>⟨aF hD _,rfl⟩)
   (λD i ys Hc _ r h=>⟨xs,xs[i],aR (aH r.1 ha),by simp [h]⟩) (λD ys Hc _ r=>⟨xs,aR (aH r.1 ha),Nat.le_refl _⟩) ?_ ?_
 · rintro D i ys Hc x H' A B hD hi ⟨sm,rfl⟩ hDc ⟨rfl,hz⟩ ha' hb;refine hs i x H' A B (hz xs (aR (aH sm ha))) sm (λy hy Hd sd=>?_) (λhn Hd sd=>?_)
   · exact ha' _ _ (sd _ _ hDc) ⟨aY hD (sm.trans sd),(eG hy).symm⟩
   · exact hb _ (sd _ _ hDc) ⟨sm.trans sd,(iL hn).symm⟩
 · rintro D ys Hc hD ⟨sm,rfl⟩ hDc _;exact fin D Hc hD sm hDc
theorem bXX {K:PySem.W.Frag} {a:Addr} {k:Nat} {xs:List V} (f:Nat->Option V) (ha:rdL H1 a=some xs) (hl:xs.length<sizeLine)
   (hs:∀ (i:Nat) x Hc p (A:VK) (B:Hp->Prop),xs[i]?=some x->Same H1 Hc->Hc p=none->(∀ y,f i=some y->∀ Hd,Same (upd Hc p (.tup [.int ((k+i:Nat):Int),x])) Hd->A y Hd)->(f i=none->∀ Hd,Same (upd Hc p (.tup [.int ((k+i:Nat):Int),x])) Hd->B Hd)->
     g (.ref p) σ0 (upd Hc p (.tup [.int ((k+i:Nat):Int),x])) λσ2 H2=>Wk σ0 σ2/\tests σ2 H2 λb H3=>if b=true then te σ2 H3 A else B H3)
   (fin:∀ D Hd,H1 D=none->Same H1 Hd->Hd D=some (.lst ((List.range xs.length).filterMap f))->Q (.ref D) Hd):eQ g tests te σ0 Q (Ite K a k) H1:=by
 refine fE (n:=xs.length) (λD i ys Hc=>Same H1 Hc/\ys=(List.range i).filterMap f) hl (λD hD=>⟨aF hD _,rfl⟩)
   (λD i ys Hc _ r h=>⟨xs,xs[i],aR (aH r.1 ha),by simp [h]⟩) (λD ys Hc _ r=>⟨xs,aR (aH r.1 ha),rfl⟩) ?_ ?_
 · rintro D i ys Hc x H' A B hD hi ⟨sm,rfl⟩ hDc ⟨q,z,hq,rfl,rfl,hz⟩ ha' hb;refine hs i z Hc q A B (hz xs (aR (aH sm ha))) sm hq (λy hy Hd sd=>?_) (λhn Hd sd=>?_)
   · exact ha' _ _ (sd _ _ (aF hq _ _ _ hDc)) ⟨aY hD (sm.trans ((aF hq _).trans sd)),(eG hy).symm⟩
   · exact hb _ (sd _ _ (aF hq _ _ _ hDc)) ⟨sm.trans ((aF hq _).trans sd),(iL hn).symm⟩
 · rintro D ys Hc hD ⟨sm,rfl⟩ hDc _;exact fin D Hc hD sm hDc
end
section
variable {X:Cx} {e:Expr} {te:TE} {p2 pos pu pc:Pos} {j:Nat}
end
end L2
set_option maxHeartbeats 4000000
namespace L2
open PySem PySem.Spec PyProof.Rows
section
variable {X:Cx}
end
end L2
set_option maxHeartbeats 4000000
namespace L2
open PySem PySem.Spec PyProof.Rows PySem.Builtin PySem.Builtin.Str
section
variable {X:Cx}
end
end L2
set_option maxHeartbeats 4000000
namespace L2
open PySem PySem.Spec PyProof.Rows
section
variable {prog:Program} {w:World} {A:Around} {E:Q0} {s:Shared} {jt dq:Addr} {n0 ep:Nat} {en:Array DictEntry} {od:Obj}
theorem cQR {Q:Option Value->Shared->Prop} (hit:s.heap.IsKeyIter jt dq n0 en.size ep) (hod:s.heap.get? dq=some od) (hdd:od.data=.dict en ep) (hi:n0<en.size)
   (hq:∀ h',h'.IsKeyIter jt dq (n0+1) en.size ep->Heap.SameBut jt s.heap h'->Q (some en[n0].key) { s with heap:=h' }):wpAny (model prog w) A (pyNext (.ref jt)) Q E s:=by
 obtain ⟨oi,hoi,ci,di⟩:=id hit;have ow:Builtin.Dict_items.ownsTuple "dict_keyiterator"=false:=by decide
 have tI:=hit.typeIs
 unfold pyNext;refine Ad (wpAny_attempt (wpAny_callSpecial?_slot (name:=Str.ofString "__next__") tI En (Ec En tI F.entry_dict_keyiterator_next ?_ (F.args_dict_keyiterator_next_1 _))));refine Ad (Al (Ad (Ad ?_)));refine Ad (Ei tI (Al (Ad (wpAny_fieldsOf hoi di ?_))));simp only [ow,Bool.false_eq_true,if_false];show wpAny _ _ (if (Value.ref dq == Value.none)=true then _ else _) _ _ s
 rw [if_neg (by exact Aq)]
 refine Ad (Al (Ad (wpAny_dictEntries hod hdd ?_)));rw [if_neg (by simp)]
 refine Ad (Al (Ad (wpAny_dictEpoch hod hdd ?_)));rw [if_neg (by simp)]
 refine Al ?_;simp only [show ¬ ((n0:Int)<0) by omega,if_false,Int.toNat_natCast,Array.getElem?_eq_getElem hi]
 refine Ad (Ad (Ei tI (Al ?_)));refine Ad (wpAny_isOneOf_keyiter tI ?_);show wpAny _ _ (setField (.ref jt) 1 (rawInt ((n0:Int)+1)) >>= _) _ _ s
 have nx:(s.heap.update jt (Obj.mapFields (·.setIfInBounds 1 (rawInt ((n0:Int)+1))))).IsKeyIter jt dq (n0+1) en.size ep :=
   ⟨_,Heap.get?_update_self _ hoi (Obj.isFreed_of_fields (Obj.data_mapFields di _)),(Obj.cls_mapFields ..).trans ci,by rw [Obj.data_mapFields di]; simp [rawInt]⟩
 refine wpAny_bind (wpAny_setField hoi di (by simp) (wpAny_bind (wpAny_holding (wpAny_bind (wpAny_isOneOf_keyiter (s:={ s with heap:=s.heap.update jt (Obj.mapFields (·.setIfInBounds 1 (rawInt ((n0:Int)+1)))) }) nx.typeIs ?_)))))
 show wpAny _ _ (pure en[n0].key) _ _ _
 exact Al (Al ⟨_,rfl,Al (hq _ nx (Gc ..))⟩)
theorem bQQ {Q:Option Value->Shared->Prop} (hh:A.handled=none) (hit:s.heap.IsKeyIter jt dq en.size en.size ep) (hod:s.heap.get? dq=some od) (hdd:od.data=.dict en ep)
   (hq:∀ h',Heap.ExtBut jt s.heap h'->Q none { s with heap:=h' }):wpAny (model prog w) A (pyNext (.ref jt)) Q E s:=by
 obtain ⟨oi,hoi,ci,di⟩:=id hit;have ow:Builtin.Dict_items.ownsTuple "dict_keyiterator"=false:=by decide
 have tI:=hit.typeIs
 unfold pyNext;refine Ad (wpAny_attempt (wpAny_callSpecial?_slot (name:=Str.ofString "__next__") tI En (Ec En tI F.entry_dict_keyiterator_next ?_ (F.args_dict_keyiterator_next_1 _))));refine Ad (Al (Ad (Ad ?_)));refine Ad (Ei tI (Al (Ad (wpAny_fieldsOf hoi di ?_))));simp only [ow,Bool.false_eq_true,if_false];show wpAny _ _ (if (Value.ref dq == Value.none)=true then _ else _) _ _ s
 rw [if_neg (by exact Aq)]
 refine Ad (Al (Ad (wpAny_dictEntries hod hdd ?_)));rw [if_neg (by simp)]
 refine Ad (Al (Ad (wpAny_dictEpoch hod hdd ?_)));rw [if_neg (by simp)]
 refine Al ?_;simp only [show ¬ ((en.size:Int)<0) by omega,if_false,Int.toNat_natCast,Array.getElem?_eq_none (Nat.le_refl en.size)]
 refine Ad (Ad (Ei tI (Al ?_)));show wpAny _ _ (setField (.ref jt) 0 .none >>= _) _ _ s
 refine wpAny_bind (wpAny_setField hoi di (by simp) ?_)
 show wpAny _ _ (newExc (Value.type "StopIteration") [] >>= _) _ _ _
 refine Ad ?_;simp only [newTuple,newExc];refine wpAny_bind (wpAny_newObj_type (wpAny_bind (m:=firstArgMember _ _) (wpAny_of_eq (a:=Value.none) (by first | rfl | (simp only [firstArgMember]; rfl)) (wpAny_newObj_type ?_ (by size_fits)))) (by size_fits))
 simp only [raiseNew];refine Ad (wpAny_handled (?_:_));rw [show A.in1.handled=none by exact hh]
 refine Ad (Al (wpAny_throw ?thr));case thr=>
  refine Ad (wpAny_isInstance (b:=true) (T := "StopIteration") ⟨_,Ax _ rfl,rfl⟩ isSubtype_stop ?_);exact Al (hq _ (((Gc ..).extBut.push _).push _))
end
def ItT (a:Addr) (o:Obj) (kvs:List (List Key×V)):It:=⟨λi H=>H a=some (.frz o (.dT kvs))/\i<kvs.length,λi H x H'=>H'=H/\∃ kv b,kvs[i]?=some kv/\x=.ref b/\H b=some (.tup (kv.1.map kV)),λi H=>H a=some (.frz o (.dT kvs))/\kvs.length=i⟩
theorem uZ {X:Cx} {pins:Q2} {σ:St} {H:Hp} {s:Shared} {a:Addr} {o:Obj} {kvs:List (List Key×V)} {ep:Nat} (I:Inv X pins σ H s) (ha:H a=some (.frz o (.dT kvs))) (hep:∃ es,o.data=.dict es ep) :
   kvs.length<=sizeLine/\(a == sysModules)=false/\∃ xs es,KT H kvs xs/\s.heap.get? a=some o/\o.data=.dict es ep/\o.ExactDict/\es.toList=xs.map (entryOfKey (tupleKind (bE X.prog X.w))):=by
 have ok:s.heap.get? a=some o/\ObjOk X.prog X.w H s.heap a (.dT kvs):=I.hok a _ ha
 obtain ⟨e,z,hd,xs,rel,o',es',ep',ho',hx,hdat,he,_⟩:=ok;rw [e] at ho';cases ho';obtain ⟨es,hes⟩:=hep;have q:=hdat
 rw [hes] at q;cases q;exact ⟨z,hd,xs,_,rel,e,hdat,hx,he⟩
theorem aQV {P:Program} {w:World} {K:PySem.W.Frag} {tg:Expr} (a it:Addr) (o:Obj) (kvs:List (List Key×V)) (ep:Nat) (hep:∃ es,o.data=.dict es ep):Turn P w K tg (ItT a o kvs) [it] it (λi h=>h.IsKeyIter it a i kvs.length ep) where
 mem:=by simp
 obj:=λi h st b hb=>by
   obtain ⟨o,e,c,d⟩:=st;rw [Aw.mp hb];exact ⟨o,e,λv z=>by rw [d] at z; cases z⟩
 keep:=λi h h' st k=>let ⟨o,ho,r⟩:=st; ⟨o,k it (by simp) o ho,r⟩
 item:=by
   intro X hP hw hK hc i pins s σ H E I hf st hg;subst hP hw hK;obtain ⟨ha,hi⟩:=hg;obtain ⟨z,hd,xs,es,rel,ho,hdat,hx,he⟩:=uZ I ha hep;have hlv:=rel.length
   have hsz:es.size=xs.length:=by rw [<-Dg,he,Ab]
   obtain ⟨f0,f1,f2,f3,f4,f5⟩:=hf it (by simp)
   obtain ⟨⟨k,b,v⟩,hxi,hk1,hk2,_⟩:=qL rel (Aa hi);have hie:i<es.size:=by omega
   have hkey:es[i].key=.ref b:=by
     have q:es[i]?=some (entryOfKey (tupleKind (bE X.prog X.w)) (k,b,v)):=by rw [<-Cu,he,Ag,hxi]; rfl
     rw [Array.getElem?_eq_getElem hie] at q;rw [Bo q];rfl
   refine cQR (en:=es) (by rw [hsz,<-hlv]; exact st) ho hdat hie λh' st' sb=>?_
   rw [hkey];have I1:Inv X pins σ H { s with heap:=h' }:=I.turned (t':=s.toks) (λb o hb e=>(sb.2 b hb).trans e) f0 f1 f3 f4 f5
   obtain ⟨oi,e,c,d⟩:=id st';refine ⟨.ref b,rfl,qI (s:={ s with heap:=h' }) e c d (by decide) ⟨.ref b,H,I1,rfl,⟨rfl,kvs[i],b,Aa hi,rfl,hk2⟩,?_,λb hb=>(hf b hb).1⟩⟩
   rw [hlv,<-hsz];exact st'
 done:=by
   intro X hP hw hK hc i pins s σ H E I hf st hg;subst hP hw hK;obtain ⟨ha,hi⟩:=hg;obtain ⟨z,hd,xs,es,rel,ho,hdat,hx,he⟩:=uZ I ha hep;have hlv:=rel.length
   have hsz:es.size=xs.length:=by rw [<-Dg,he,Ab]
   obtain ⟨f0,f1,f2,f3,f4,f5⟩:=hf it (by simp)
   exact bQQ (en:=es) (I.ok.hd hc) (by rw [hsz,<-hlv]; rw [<-hi] at st; exact st) ho hdat λh' eb=>⟨rfl,I.turned (t':=s.toks) (λb o hb e=>eb b o hb e) f0 f1 f3 f4 f5⟩
 self:=λ_ _ _ _ _ st h=>wpAny_pyIter_keyiter st h
section
variable {prog:Program} {w:World} {A:Around} {E:Q0} {s:Shared} {dq:Addr} {en:Array DictEntry} {ep:Nat} {od:Obj}
theorem aJ9 {Q:Q0} (hs:(dq == sysModules)=false) (hod:s.heap.get? dq=some od) (hx:od.ExactDict) (hdd:od.data=.dict en ep)
   (hq:Q (.ref s.heap.objs.size) { s with heap:=s.heap.push { cls:=.type "dict_keyiterator",data:=.fields #[.ref dq,.int 0 0,.int en.size 0,.int ep 0] } }):wpAny (model prog w) A (pyIter (.ref dq)) Q E s:=by
 have tD:s.TypeIs (.ref dq) "dict" := ⟨od,hod,hx.1⟩
 refine wpAny_pyIter_slot tD F.slot_dict_iter (Ec F.slot_dict_iter tD F.entry_dict_iter ?_ (F.args_dict_iter_1 _));unfold Builtin.«dict.__iter__» ; refine Ad ?_;unfold Builtin.Dict.dictSlotNone ; refine Ad (wpAny_notOrdered_dict tD ?_);show wpAny _ _ (pure (Value.ref dq)) _ _ s
 refine Al ?_;show wpAny _ _ (Builtin.Dict.showsAll dq >>= _) _ _ s
 unfold Builtin.Dict.showsAll;rw [if_neg (by rw [hs]; decide)]
 refine Ad (Al (Ad (wpAny_dictEntries hod hdd (Ad (wpAny_dictEpoch hod hdd ?_)))));refine Ad (Gr (Al ⟨_,rfl, "dict_keyiterator",_,⟨_,Ax _ rfl,rfl⟩,F.slot_dict_keyiterator_next.lookup,(?_:_)⟩))
 simpa [rawInt] using hq
end
section
variable {X:Cx} {tg:Expr} {pins:Q2} {σ:St} {H:Hp} {s:Shared} {a:Addr}
theorem bQV {kvs:List (List Key×V)} (I:Inv X pins σ H s) (ha:H a=some (.dT kvs)):∃ o es ep,s.heap.get? a=some o/\o.data=.dict es ep:=by
 obtain ⟨_,_,xs,_,o,es,ep,ho,_,hd,_⟩:=dQH I.hok ha;exact ⟨o,es,ep,ho,hd⟩
theorem bZL {o:Obj} {kvs:List (List Key×V)} (I:Inv X pins σ H s) (ha:H a=some (.frz o (.dT kvs))):∃ ep,∃ es,o.data=.dict es ep:=by
 have ok:s.heap.get? a=some o/\ObjOk X.prog X.w H s.heap a (.dT kvs):=I.hok a _ ha
 obtain ⟨e,_,_,xs,_,o',es,ep,ho,_,hd,_⟩:=ok;rw [e] at ho;cases ho;exact ⟨ep,es,hd⟩
def mO (H:Hp) (a:Addr) (R:Obj->List (List Key×V)->Hp->Prop):Prop:=(∃ kvs,H a=some (.dT kvs)/\∀ o,R o kvs (upd H a (.frz o (.dT kvs))))\/∃ o kvs,H a=some (.frz o (.dT kvs))/\R o kvs H
theorem bZE {R:Obj->List (List Key×V)->Hp->Prop} (I:Inv X pins σ H s) (h:mO H a R) :
   ∃ o kvs H' ep,Inv X pins σ H' s/\H' a=some (.frz o (.dT kvs))/\(∃ es,o.data=.dict es ep)/\R o kvs H':=by
 rcases h with ⟨kvs,ha,q⟩ | ⟨o,kvs,ha,q⟩
 · obtain ⟨o,es,ep,ho,hd⟩:=bQV I ha;exact ⟨o,kvs,_,ep,I.freeze ha rfl ho,aD,⟨es,hd⟩,q o⟩
 · obtain ⟨ep,es,hd⟩:=bZL I ha;exact ⟨o,kvs,H,ep,I,ha,⟨es,hd⟩,q⟩
def cQX (tl:TE):TI:=λσ H R=>tl σ H (hU λa H1=>mO H1 a λo kvs H2=>R (ItT a o kvs) H2)
theorem mP {l:Expr} {tl:TE} (hl:PE X l tl):PI X tg l (cQX tl):=by
 intro pins s σ H R I h;refine thn (hl pins s σ H _ I h) λv s1 ⟨x,H1,I1,r1,q1⟩=>?_;unfold hU at q1;split at q1
 · cases r1;rename_i a0 _
   obtain ⟨o,kvs,H2,ep,I2,ha,hep,q⟩:=bZE I1 q1;obtain ⟨z,hd,xs,es,rel,ho,hdat,hx,he⟩:=uZ I2 ha hep;have hsz:es.size=kvs.length:=by rw [<-Dg,he,Ab,rel.length]
   refine aJ9 hd ho hx hdat ?_;refine ⟨s1.heap.objs.size,[s1.heap.objs.size],_,_,H2,rfl,I2.kept (t':=s1.toks) λb o e=>Af _ e,aQV a0 _ o kvs ep hep,⟨_,Ax _ rfl,rfl,by rw [hsz]; rfl⟩,λb hb=>?_,q⟩
   rw [Aw.mp hb];exact I2.fpOk (Ah _) (I2.hok.fresh (Ah _))
 · exact q1.elim
def cJ7:V->List V->Hp->VK->Prop:=λx vs H Q=>∃ a y ov,x=.ref a/\vs=[y]/\oX H a y ov/\Q (ov.getD .non) H
end
section
variable {σ:St} {H:Hp} {Q:VK} {D:Ends} {a b:Addr} {kvs:List (List Key×V)} {k:List Key} {v w:V} {tl:TE} {R:It->Hp->Prop} {g:TG} {tb:TS} {o:Obj}
theorem bZT (Pv:Nat->St->Hp->Prop) (h0:Pv 0 σ H) (hl:∀ i σ H,i<=kvs.length->Pv i σ H->H a=some (.frz o (.dT kvs)))
   (hs:∀ i kv b σ H,kvs[i]?=some kv->H b=some (.tup (kv.1.map kV))->Pv i σ H->g (.ref b) σ H λσ2 H2=>tb { D with nx:=Pv (i+1),ct:=Pv (i+1),bk:=D.nx } σ2 H2) (hd:∀ σ H,Pv kvs.length σ H->D.nx σ H):vI (ItT a o kvs) g tb D σ H:=by
 refine ⟨λi m σ H=>m=kvs.length - i/\i<=kvs.length/\Pv i σ H,⟨kvs.length,by simp,Nat.zero_le _,h0⟩,?_⟩
 rintro i m σ H ⟨rfl,hi,p⟩;have hr:=hl i σ H hi p
 by_cases hlt:i<kvs.length
 · refine .inr ⟨⟨hr,hlt⟩,Pv (i+1),λσ' H' p'=>⟨kvs.length - (i+1),by omega,rfl,hlt,p'⟩,λx H' y=>?_⟩
   obtain ⟨rfl,kv,b,hx,rfl,hb⟩:=y;exact hs i kv b σ _ hx hb p
 · have e:i=kvs.length:=by omega
   subst e;exact .inl ⟨⟨hr,rfl⟩,hd σ H p⟩
theorem bZ4 (h:tl σ H (hU λa H1=>mO H1 a λo kvs H2=>R (ItT a o kvs) H2)):cQX tl σ H R:=h
theorem uU {Rw:Obj->List (List Key×V)->Hp->Prop} (e:H a=some (.dT kvs)) (h:∀ o,Rw o kvs (upd H a (.frz o (.dT kvs)))):mO H a Rw:=.inl ⟨kvs,e,h⟩
theorem bXR {Rw:Obj->List (List Key×V)->Hp->Prop} (e:H a=some (.frz o (.dT kvs))) (h:Rw o kvs H):mO H a Rw:=.inr ⟨o,kvs,e,h⟩
theorem cZQ (h:∀ p,H p=none->Q (.ref p) (upd H p (.dT []))):bX4 σ H Q:=h
theorem zU (e:Rd H a (.dT kvs)) (eb:H b=some (.tup (k.map kV))) (l:bZ kvs k=some v) (h:Q v H):dQX (.ref a) (.ref b) H Q:=⟨a,v,rfl,.inr ⟨kvs,k,b,e,rfl,eb,l.symm⟩,h⟩
theorem pC (e:H a=some (.dT kvs)) (eb:H b=some (.tup (k.map kV))) (l:kvs.length<sizeLine) (h:D.nx σ (upd H a (.dT (dY kvs k v)))):bX8 D σ (.ref a) (.ref b) v H:=⟨a,_,rfl,.inr ⟨kvs,k,b,e,rfl,eb,l,rfl⟩,h⟩
theorem dXB {neg:Bool} (e:Rd H a (.dT kvs)) (eb:H b=some (.tup (k.map kV))) (h:Q (.bl (if neg then !(bZ kvs k).isSome else (bZ kvs k).isSome)) H):cX1 neg (.ref b) (.ref a) H Q:=⟨a,_,rfl,.inr ⟨kvs,k,b,e,rfl,eb,rfl⟩,h⟩
theorem aZ0 (e:Rd H a (.dT kvs)) (eb:H b=some (.tup (k.map kV))) (h:Q ((bZ kvs k).getD .non) H):cJ7 (.ref a) [.ref b] H Q:=⟨a,_,_,rfl,rfl,.inr ⟨kvs,k,b,e,rfl,eb,rfl⟩,h⟩
end
theorem aJA {prog:Program} {w:World} {A:Around} {E:Q0} {s:Shared} {Q:Int->Shared->Prop} (h:Q 0xFCA86420 { s with toks:=s.toks+1 }):wpAny (model prog w) A (pyHash .none) Q E s:=by
 have tN:s.TypeIs .none "NoneType" := rfl
 unfold pyHash pyHashByItsType;refine Ad ?_;rw [cRoomFor,if_neg (by decide)]
 refine Al (Ad (Ge tN F.slot_NoneType_hash.lookup ?_));show wpAny _ _ (if (some (Value.builtin "NoneType.__hash__") == some Value.none)=true then _ else _) Q E s
 rw [if_neg (by rw [beq_builtin_none]; decide)]
 refine Ad (Ge tN F.slot_NoneType_hash.lookup ?_);show wpAny _ _ (callSpecialIfBoundUnlessNone? .none "__hash__" _ >>= _) Q E s
 refine Ad (wpAny_callSpecialIfBoundUnlessNone?_slot tN F.slot_NoneType_hash (Ec F.slot_NoneType_hash tN F.entry_NoneType_hash (show wpAny _ _ (do ret (<-mkInt 0xFCA86420)) _ _ s from wpAny_ret_mkInt ?_) (F.args_NoneType_hash_1 _)))
 show wpAny _ _ (if (decide (-(2:Int) ^ 63<=0xFCA86420) && decide ((0xFCA86420:Int)<2 ^ 63))=true then _ else _) Q E _
 rw [if_pos (by decide)]
 exact Al h
def bJY:Option Key->Value->Bool
 | none,.none=>true
 | none,_=>false
 | some k,v=>lK k v
theorem dF {v:Value} (h:bJY none v=true):v=.none:=by
 cases v <;> first | rfl | (exact absurd h (by decide)) | cases h
theorem lV {k:Key} {v:Value} (h:lK k v=true):v≠.none:=λz=>by
 rcases bX h with ⟨i,t,_,e⟩ | ⟨x,t,_,e⟩ <;> rw [z] at e <;> cases e
def eZA (w:World):Option Key->Int
 | none=>0xFCA86420
 | some k=>eQO w k
def aZG (prog:Program) (w:World):PySem.KeyKind prog w (Option Key) where
 is:=bJY
 hash:=eZA w
 inj:=λv a b ha hb=>by
   cases a with
   | none=>
     cases b with
     | none=>rfl
     | some b=>exact absurd (dF ha) (lV hb)
   | some a=>
     cases b with
     | none=>exact absurd (dF hb) (lV ha)
     | some b=>exact Cw some ((bE prog w).inj v a b ha hb)
 byValue:=λk v h=>by
   cases k with
   | none=>rw [dF h]; rfl
   | some k=>exact (bE prog w).byValue k v h
 pyHash:=fun {A E s k v Q} hv h=>by
   cases k with
   | none=>rw [dF hv]; exact aJA h
   | some k=>exact (bE prog w).pyHash hv h
 eqBool:=fun {A E s a b u v Q} hu hv h=>by
   cases a with
   | none=>
     rw [dF hu];cases b with
     | none=>rw [dF hv]; exact SeqAt.EqAt.same _ _ _ _ _ (by simpa using h)
     | some b=>
       have h2:Q false s:=by simpa using h
       rcases bX (show lK b v=true from hv) with ⟨j,t,_,rfl⟩ | ⟨y,t,_,rfl⟩
       · exact SeqAt.EqAt.none_int _ _ _ _ _ _ h2
       · exact SeqAt.EqAt.none_str _ _ _ _ _ _ h2
   | some a=>
     cases b with
     | none=>
       rw [dF hv];have h2:Q false s:=by simpa using h
       rcases bX (show lK a u=true from hu) with ⟨j,t,_,rfl⟩ | ⟨y,t,_,rfl⟩
       · exact SeqAt.EqAt.int_none _ _ _ _ _ _ h2
       · exact SeqAt.EqAt.str_none _ _ _ _ _ _ h2
     | some b=>
       refine (bE prog w).eqBool hu hv ?_;have e:decide (some a=some b)=decide (a=b):=Dr.mpr ⟨Bo,λz=>by rw [z]⟩
       rw [e] at h;exact h
 «strs» := λk x t v h=>by
   cases k with
   | none=>exact absurd (dF h) (λz=>nomatch z)
   | some k=>exact (bE prog w).strs k x t v h
theorem dZU {prog:Program} {w:World} {h:Heap} {a:Addr} {f:Key->Option Value} (hm:h.MapOf (bE prog w) a f):h.MapOf (aZG prog w) a (λk=>k.bind f):=by
 obtain ⟨o,es,ep,ho,hx,hd,hk,hf⟩:=hm;refine ⟨o,es,ep,ho,hx,hd,λe he=>?_,λk=>?_⟩
 · obtain ⟨k,h1,h2⟩:=hk e he;exact ⟨some k,h1,h2⟩
 · cases k with
   | some k=>exact hf k
   | none=>
     show findBy bJY es none=none
     unfold findBy;rw [Option.map_eq_none_iff,Array.find?_eq_none];intro e he z;obtain ⟨k,h1,_⟩:=hk e he;exact lV h1 (dF z)
section
variable {X:Cx}
def bZC:R2:=λx y H Q=>∃ a,y=.ref a/\((∃ ov,oX H a x ov/\Q (.bl ov.isSome) H)\/(x=.non/\∃ kvs,Rd H a (.dK kvs)/\Q (.bl false) H))
theorem dX0 (hu:X.A.units+1<cLine):OpR X (compareOp .In) bZC:=by
 intro pins s σ H x y v u Q I rx ry h;obtain ⟨a,rfl,h⟩:=h;cases ry;rcases h with ⟨ov,g,q⟩ | ⟨rfl,kvs,e,q⟩
 · exact eQV hu I g rx λs3 I3=>⟨.bl ov.isSome,H,I3,rfl,q⟩
 · cases rx;obtain ⟨z,hd,vs,rel,dd⟩:=iA I.hok e;exact wpAny_in_of (knd:=aZG X.prog X.w) (k:=none) (key:=Value.none) rfl hd (dZU dd.mapOf) ⟨.bl false,H,I.tok _,rfl,q⟩
theorem bZ9 (hu:X.A.units+1<cLine):MtR X "dict.get" cJ7:=by
 intro pins s σ H x vs v us Q I rx rv h;obtain ⟨a,y,ov,rfl,rfl,g,q⟩:=h;cases rx;obtain ⟨u,rfl,ru⟩:=rv.one;exact dZK hu I g ru λw1 s1 I1 r1=>⟨_,H,I1,r1,q⟩
end
section
variable {H:Hp} {Q:VK} {a:Addr} {kvs:List (Key×V)} {z:Str}
theorem dJD (e:Rd H a (.dK kvs)) (h:Q (.bl false) H):bZC .non (.ref a) H Q:=⟨a,rfl,.inr ⟨rfl,kvs,e,h⟩⟩
theorem cZ1 (e:Rd H a (.dK kvs)) (h:Q (.bl (bZ kvs (Sum.inr z)).isSome) H):bZC (.str z) (.ref a) H Q:=⟨a,rfl,.inl ⟨_,.inl ⟨kvs,.inr z,e,rfl,rfl⟩,h⟩⟩
end
section
variable {X:Cx}
def eQA:R2:=λx y H Q=>∃ (p q:Addr) (a b c d:Int),x=.ref p/\y=.ref q/\H p=some (.tup [.int a,.int b])/\H q=some (.tup [.int c,.int d])/\Q (.bl (decide (a=c/\b=d))) H
theorem eXL (hu:X.A.units<cLine):OpR X (compareOp .Eq) eQA:=by
 intro pins s σ H x y v u Q I rx ry h;obtain ⟨p,q,a,b,c,d,rfl,rfl,hp,hq,k⟩:=h;cases rx;cases ry;obtain ⟨its,r1,l1,_⟩:=I.tuple (SqT.of (K:=X.K) hp);obtain ⟨its2,r2,l2,_⟩:=I.tuple (SqT.of (K:=X.K) hq);obtain ⟨u1,u2,rfl,⟨t1,rfl⟩,⟨t2,rfl⟩⟩:=r1.two;obtain ⟨w1,w2,rfl,⟨t3,rfl⟩,⟨t4,rfl⟩⟩:=r2.two;refine SeqAt.eq_tupleAt (e:=λj=>if j=0 then a == c else b == d) (show s.heap.IsTuple p _ from l1) (show s.heap.IsTuple q _ from l2) hu (λj h1 h2=>?_) ?_
 · match j,h1,h2 with
   | 0,_,_=>exact Gg a t1 c t3
   | 1,_,_=>exact Gg b t2 d t4
   | j+2,h1,_=>exact absurd h1 (by show ¬ j+2<2; omega)
 · refine ⟨.bl (decide (a=c/\b=d)),H,I,?_,k⟩;show Value.bool _=Value.bool _
   congr 1
   show (((if (0:Nat)=0 then a == c else b == d) && ((if (1:Nat)=0 then a == c else b == d) && true)) && true)=_
   rw [if_pos rfl,if_neg (by decide),Bool.and_true,Bool.and_true]
   by_cases e1:a=c
   · by_cases e2:b=d
     · simp [e1,e2]
     · simp [e1,e2]
   · simp [e1]
theorem eX6 {H:Hp} {Q:VK} {p q:Addr} {a b c d:Int} (hp:H p=some (.tup [.int a,.int b])) (hq:H q=some (.tup [.int c,.int d])) (h:Q (.bl (decide (a=c/\b=d))) H):eQA (.ref p) (.ref q) H Q:=⟨p,q,a,b,c,d,rfl,rfl,hp,hq,h⟩
end
end L2
set_option maxHeartbeats 4000000
namespace L2
open PySem PySem.Spec PyProof.Rows
open PySem.AutoSeq1 (wpAny_loadPart')
open PySem.MeetsSeq PySem.MeetsSeq2 PySem.MeetsSeq3
section
variable {P:Program} {w:World} {A:Around} {E:Q0} {s:Shared} {l:Addr} {xs:Array Value}
end
section
variable {X:Cx}
end
section
variable {X:Cx} {l:Expr} {ta:TA} {elts:List Expr} {x1:Nat} {tp p pos:Pos}
end
end L2
set_option maxHeartbeats 4000000
namespace L2
open PySem PySem.Spec PyProof.Rows
section
variable {prog:Program} {w:World} {A:Around} {E:Q0} {s:Shared}
end
end L2
set_option maxHeartbeats 4000000
namespace L2
open PySem PySem.Spec PyProof.Rows
section
variable {X:Cx} {pins:Q2} {σ:St} {H:Hp} {s:Shared} {ea:Addr}
end
section
variable {prog:Program} {w:World} {A:Around} {E:Q0} {s:Shared}
end
end L2
set_option maxHeartbeats 4000000
namespace L2
open PySem PySem.Spec PyProof.Rows
section
variable {X:Cx} {tg:Expr}
end
section
variable {X:Cx} {tg l a b:Expr} {tl ta tb:TE} {p pos:Pos}
end
end L2
set_option maxHeartbeats 4000000
namespace L2
open PySem PySem.Spec PyProof.Rows
section
variable {P:Program} {w:World} {K:PySem.W.Frag} {mg:Q4} {base:Heap}
end
section
variable {X:Cx} {pn:Q2} {ea:Addr} {k k':Nat} {ps:List Str} {sp:Sp} {x:Str} {p pos:Pos} {e:Expr} {es:List Expr} {t:TA}
end
section
variable {X:Cx} {pins:Q2}
end
end L2
set_option maxHeartbeats 4000000
namespace L2
open PySem PySem.Spec PyProof.Rows
section
variable {M:Model} {A:Around} {E:Q0} {s:Shared} {B:Heap} {env:Env} {outer l:List Env} {L e:Addr} {cls fl:Value} {d:Option Addr} {Q:Unit->Shared->Prop}
end
section
variable {X:Cx} {Ex:XK} {N:List Str} {scope:Scope} {cl:List (Str×Addr)} {vals:St->St} {tg elt iter:Expr} {ifs:List Expr} {pos spos py:Pos} {wi:TI} {g:TG} {tests:TT} {te:TE}
end
end L2
set_option maxHeartbeats 4000000
namespace L2
open PySem PySem.Spec PyProof.Rows
end L2
set_option maxHeartbeats 4000000
namespace L2
open PySem PySem.Spec PyProof.Rows
def bXY (prog:Program) (w:World) (A:Around) (old:Heap) (S:Addr) (vs:List Value) (J:Nat->Obj->Prop):Prop :=
 ∀ (i:Nat) (v:Value) (s:Shared) (o:Obj) (E:Q0) (Q:Bool->Shared->Prop),vs[i]?=some v->(∀ b u,old.get? b=some u->s.heap.get? b=some u)->s.heap.get? S=some o->J i o->
   (∀ (c:Bool) (h':Heap) (tk:Nat) (o':Obj),Heap.SameBut S s.heap h'->h'.get? S=some o'->J (i+1) o'->Q c { s with heap:=h',toks:=tk })->wpAny (model prog w) A (setAdd S v) Q E s
section
variable {prog:Program} {w:World} {A:Around} {E:Q0} {R:Result->Shared->Prop} {old:Heap} {S l it:Addr} {vs:List Value} {J:Nat->Obj->Prop}
theorem tH {s:Shared} (h:wpAny (model prog w) A.in1 (Builtin.«set.update.loop» ⟨[.ref S,.ref it],[]⟩) (λfin s'=>match fin with | .done f=>R (.ok f) s' | .again c=>c.quiet=true/\codeAny (model prog w) A c R s') (λe s'=>R (.error e) s') s) :
   codeAny (model prog w) A (.builtin "set.update.loop" ⟨[.ref S,.ref it],[]⟩) R s:=by
 refine Dy PyProof.Rows.F.entry_set_update_loop (by rw [Dp PyProof.Rows.F.plain_set_update_loop]; exact h)
theorem tQ (F:bXY prog w A.in1 old S vs J) (hh:A.in1.handled=none) (nSl:l≠S) (nSi:it≠S) (nli:l≠it) (oS:old.get? S=none) (oI:old.get? it=none):∀ (k i:Nat) (s:Shared) (o:Obj),k+i=vs.length->s.heap.IsListIter it l i->s.heap.IsList l vs.toArray->(∀ b u,old.get? b=some u->s.heap.get? b=some u)->
   s.heap.get? S=some o->J i o->(∀ (h':Heap) (tk:Nat) (o':Obj),(∀ b u,old.get? b=some u->h'.get? b=some u)->h'.get? S=some o'->J vs.length o'->R (.ok (.ret .none)) { s with heap:=h',toks:=tk })->
   codeAny (model prog w) A (.builtin "set.update.loop" ⟨[.ref S,.ref it],[]⟩) R s
 | 0,i,s,o,hk,hi,hl,ho,hS,hJ,q=>by
   obtain rfl:i=vs.length:=by omega
   refine tH ?_;unfold Builtin.«set.update.loop»;dsimp only;refine wpAny_bind (wpAny_pyNext_list_end hh hi hl (by simp) λh' x=>wpAny_pure ?_)
   exact q h' s.toks o (λb u e=>x b u (λz=>by rw [z,oI] at e; cases e) (ho b u e)) (x S o nSi.symm hS) hJ
 | k+1,i,s,o,hk,hi,hl,ho,hS,hJ,q=>by
   have hlt:i<vs.length:=by omega
   refine tH ?_;unfold Builtin.«set.update.loop»;dsimp only;refine wpAny_bind (wpAny_pyNext_list_item hi hl (x:=vs[i]) (by simp [hlt]) λh1 i1 x1=>?_)
   dsimp only;have S1:h1.get? S=some o:=(x1.2 S nSi.symm).trans hS
   have l1:h1.IsList l vs.toArray:=hl.extBut x1.extBut nli
   have o1:∀ b u,old.get? b=some u->h1.get? b=some u:=λb u e=>(x1.2 b λz=>by rw [z,oI] at e; cases e).trans (ho b u e)
   refine Ad (Bx (F i vs[i] { s with heap:=h1 } o _ _ (Aa hlt) o1 S1 hJ λc h2 tk o2 x2 S2 j2=>?_))
   have o2':∀ b u,old.get? b=some u->h2.get? b=some u:=λb u e=>(x2.2 b λz=>by rw [z,oS] at e; cases e).trans (o1 b u e)
   refine Al ⟨Fm PyProof.Rows.F.plain_set_update_loop _,tQ F hh nSl nSi nli oS oI k (i+1) { s with heap:=h2,toks:=tk } o2 (by omega) ?_ (l1.extBut x2.extBut nSl) o2' S2 j2 q⟩
   obtain ⟨u,hu,r⟩:=i1;exact ⟨u,(x2.2 it nSi).trans hu,r⟩
end
section
variable {prog:Program} {w:World} {A:Around} {E:Q0} {s:Shared}
def bare (led:Bool):Obj:={ cls:=.type "set",dict:=none,data:=.set #[] 0 (.fresh 0 0 led) }
theorem cQZ {x:Value} {Q:Q0}
   (h:∀ led:Bool,wpAny (model prog w) A.in1.in1 (Builtin.«set.__init__» ⟨[.ref s.heap.objs.size,x],[]⟩)
     (λfin s'=>match fin with | .done f=>wants (λr s₂=>r=.none/\Q (.ref s.heap.objs.size) s₂) E (.ok f) s' | .again c'=>c'.quiet=true/\codeAny (model prog w) A.in1 c' (wants (λr s₂=>r=.none/\Q (.ref s.heap.objs.size) s₂) E) s')
     (λe s'=>wants (λr s₂=>r=.none/\Q (.ref s.heap.objs.size) s₂) E (.error e) s') { s with heap:=s.heap.push (bare led) }) :
   wpAny (model prog w) A (call (.type "set") [x]) Q E s:=by
 have ft:=PySem.F.called_set
 have hct:=PySem.F.typeCall_set_1 x
 obtain ⟨_,_,f1⟩:=ft.mro;have f2:=ft.made
 have f3:=ft.sub
 have f4:=ft.notType
 have f5:=ft.canCreate
 refine Gf (codeAny_of_tree (show wpAny _ _ (callAny (.type "set") _) _ _ _ from Al ⟨Gh _ (by decide +kernel),Dy PySem.F.entry_type_call (by
   rw [Around.under_plain (weight_type_call_type "set" [x] []) rfl];repeat any_goals first | assumption | wp_step
   refine Fb (code_set_new_1 x (E:=E) (Q₁:=λobj s₁=>∃ led:Bool,obj=.ref s.heap.objs.size/\s₁={ s with heap:=s.heap.push (bare led) }) λled=>⟨led,rfl,rfl⟩) λr s₁ hr=>?_
   rcases r with e | fl
   · exact hr
   · cases fl with
     | ret obj=>
       obtain ⟨led,rfl,rfl⟩:=hr;have hT:Shared.TypeIs { s with heap:=s.heap.push (bare led) } (.ref s.heap.objs.size) "set" := ⟨_,Ax _ rfl,rfl⟩
       have f6:=ft.init.lookup
       have f7:=ft.init.bind (.ref s.heap.objs.size)
       repeat any_goals first | assumption | wp_step
       refine Fb (Eh ft.init.plain PySem.F.entry_set_init (check_set_init_1 hT (h led))) λr₂ s₂ hr₂=>?_;rcases r₂ with e | fl₂
       · exact hr₂
       · cases fl₂ with
         | ret r=>
           obtain ⟨rfl,hq⟩:=hr₂;repeat any_goals first | assumption | wp_step
         | _=>exact hr₂.elim
     | _=>exact hr.elim)⟩))
theorem yI {l:Addr} {vs:List Value} {J:Nat->Obj->Prop} {Q:Q0} (hh:A.handled=none) (hl:s.heap.IsList l vs.toArray) (j0:∀ led:Bool,J 0 (bare led))
   (F:∀ A':Around,A'.units<=A.units+8->bXY prog w A' s.heap s.heap.objs.size vs J)
   (h:∀ (h':Heap) (tk:Nat) (o:Obj),(∀ b u,s.heap.get? b=some u->h'.get? b=some u)->h'.get? s.heap.objs.size=some o->J vs.length o->Q (.ref s.heap.objs.size) { s with heap:=h',toks:=tk }) :
   wpAny (model prog w) A (call (.type "set") [.ref l]) Q E s:=by
 refine cQZ λled=>?_;obtain ⟨⟨ocls,odict,odata,oslots⟩,hol,hcl,nl,hdl⟩:=id hl;obtain rfl:ocls=.type "list" := hcl;obtain rfl:odata=.seq vs.toArray nl:=hdl;have hb:(s.heap.push (bare led)).get? s.heap.objs.size=some (bare led):=Ax _ rfl
 have hol':(s.heap.push (bare led)).get? l=some { cls:=.type "list",dict:=odict,data:=.seq vs.toArray nl,slots:=oslots }:=Af _ hol
 have hl1:(s.heap.push (bare led)).IsList l vs.toArray:=⟨_,hol',rfl,nl,rfl⟩
 have g1:=PySem.F.sub_list_set
 have g2:=PySem.F.sub_list_frozenset
 have g3:(Value.type "list" == Value.type "dict")=false:=by decide
 unfold bare at hb hol' hl1;unfold bare Builtin.«set.__init__» noKeywords Builtin.Frozenset.updateFrom;generalize hPI:pyIter=PI
 wp_walk
 subst hPI;refine Fc hl1 (Ad (wpAny_runValue ?_));have hlS:l<s.heap.objs.size:=Ar hol
 have none_at:∀ b,s.heap.objs.size<=b->s.heap.get? b=none:=λb hb'=>by
   cases e:s.heap.get? b with
   | none=>rfl
   | some u=>exact absurd (Ar e) (Nat.not_lt.mpr hb')
 refine tQ (A:=A.in1.in1) (old:=s.heap) (l:=l) (vs:=vs) (J:=J) (F _ (by show A.units+1+1+1<=A.units+8; omega)) hh (Bi hlS) ?_ ?_ (none_at _ (Ah _)) (none_at _ ?_) vs.length 0 _ (bare led) rfl ⟨_,Ax _ rfl,rfl,rfl⟩ (hl1.push _)
   (λb u e=>Af _ (Af _ e)) (Af _ hb) (j0 led) λh' tk o' k1 k2 k3=>?_
 · rw [Gu]; exact Gm (Nat.lt_succ_self _)
 · rw [Gu]; exact Bi (Nat.lt_succ_of_lt hlS)
 · rw [Gu]; exact Gj _
 · exact Al (Al ⟨rfl,h h' tk o' k1 k2 k3⟩)
end
theorem qM {acc:List Str} {z:Str}:(step_dedup acc z).length=if acc.any (· == z) then acc.length else acc.length+1:=by
 unfold step_dedup;split <;> simp
theorem aJE (acc:List Str) (z k:Str):(step_dedup acc z).any (· == k)=(acc.any (· == k) || decide (k=z)):=by
 unfold step_dedup;split
 · rename_i h
   by_cases e:k=z
   · rw [e,h,An rfl]; rfl
   · rw [Am e,Bool.or_false]
 · rw [List.any_append];by_cases e:k=z
   · rw [e,decide_eq_true rfl]; simp
   · rw [decide_eq_false e,show [z].any (· == k)=false by simp [Ne.symm e]]
theorem cZK {vs:List Value} {zs:List Str} (h:StrsAre vs zs):∀ {i:Nat} {v:Value},vs[i]?=some v->∃ z t,zs[i]?=some z/\v=.str z t:=by
 induction h with
 | nil=>intro i v e; cases e
 | cons z t _ ih=>
   intro i v e;cases i with
   | zero=>cases e; exact ⟨z,t,rfl,rfl⟩
   | succ i=>exact ih e
def aQ9 (prog:Program) (w:World) (S:Addr) (zs:List Str) (i:Nat) (o:Obj):Prop:=∀ h:Heap,h.get? S=some o->h.SetOf (PySem.strKind prog w) S (λk=>((zs.take i).foldl step_dedup []).any (· == k)) ((zs.take i).foldl step_dedup []).length
theorem bZI (zs:List Str):(zs.foldl step_dedup []).length<=zs.length:=by
 have g:∀ (zs acc:List Str),(zs.foldl step_dedup acc).length<=acc.length+zs.length:=λzs=>by
   induction zs with
   | nil=>intro acc; exact Ah _
   | cons z r ih=>
     intro acc;have h1:=ih (step_dedup acc z)
     have h2:=qM (acc:=acc) (z:=z)
     rw [List.foldl_cons,Bb];split at h2 <;> omega
 have:=g zs []
 simpa using this
theorem aQF {prog:Program} {w:World} {A:Around} {old:Heap} {S:Addr} {vs:List Value} {zs:List Str} (hz:StrsAre vs zs) (hl:zs.length<=1000):bXY prog w A old S vs (aQ9 prog w S zs):=by
 intro i v s o E Q hv _ hS hJ q;obtain ⟨z,t,ez,rfl⟩:=cZK hz hv;have hroom:((zs.take i).foldl step_dedup []).length+1<scanBound:=by
   have h1:=bZI (zs.take i)
   rw [Bs] at h1;unfold scanBound;omega
 unfold setAdd;refine Bx (Ad ((PySem.strKind prog w).pyHash (k:=z) (strKind_is _ _ _ _) ?_));refine wpAny_setAddHashed_of (knd:=PySem.strKind prog w) (s:={ s with toks:=s.toks+1 }) (strKind_is _ _ _ _) rfl (hJ s.heap hS) hroom λh' sb hS2=>?_
 obtain ⟨o',es,ep,tb,ho',rest⟩:=hS2;refine q _ h' _ o' sb ho' λh hh=>PyProof.Rows.SetOf_congr ⟨o',es,ep,tb,hh,rest⟩ (λk=>?_) ?_
 · rw [Ba,ez,Fq];exact (aJE _ z k).symm
 · rw [Ba,ez,Fq];exact (qM (acc:=(zs.take i).foldl step_dedup []) (z:=z)).symm
theorem bQF {prog:Program} {w:World} {S:Addr} {zs:List Str} (led:Bool):aQ9 prog w S zs 0 (bare led):=λh hh=>(setObjOf_fresh (knd:=PySem.strKind prog w) led).setOf hh (by unfold scanBound; omega)
end L2
set_option maxHeartbeats 4000000
namespace L2
open PySem PySem.Spec PyProof.Rows
def pK (a:Addr) (n:Nat):HO:=.ext λh=>∃ o es ep t,h.get? a=some o/\o.ExactSet/\o.data=.set es ep t/\t.fits es.size=true/\es.size=n
def uB (zs:List Str):Nat:=(zs.foldl step_dedup []).length
theorem yQ {zs:List Str} (h:zs.Nodup):uB zs=zs.length:=by
 have g:∀ (zs acc:List Str),zs.Nodup->(∀ z ∈ zs,z ∉ acc)->zs.foldl step_dedup acc=acc++zs:=by
   intro zs;induction zs with
   | nil=>intro acc _ _; simp
   | cons z r ih=>
     intro acc nd ha;have n1:=Cb.mp nd
     have e:step_dedup acc z=acc++[z]:=by
       unfold step_dedup;rw [if_neg];rw [Ha];rintro ⟨x,hx,hxz⟩;exact ha z As (by rw [<-eq_of_beq hxz]; exact hx)
     rw [List.foldl_cons,e,ih _ n1.2 λy hy hm=>?_,Gw]
     · rfl
     · rcases Bk.mp hm with m | m
       · exact ha y (Ao _ hy) m
       · rw [Aw.mp m] at hy;exact n1.1 hy
 unfold uB;rw [g zs [] h λz _=>(λm=>nomatch m)]
 rfl
def cJQ:List V->Hp->VK->Prop:=λxs H Q=>∃ (p:Addr) (zs:List Str),xs=[.ref p]/\rdL H p=some (zs.map V.str)/\zs.length<=1000/\∀ r,H r=none->Q (.ref r) (upd H r (pK r (uB zs)))
theorem dQ7 {X:Cx} (hc:X.calm=true):CallR X (.type "set") cJQ:=by
 intro pins s σ H xs us Q I r h;obtain ⟨p,zs,rfl,hp,hl,q⟩:=h;obtain ⟨u,rfl,ru⟩:=fF r;cases ru;obtain ⟨its,rv,pl,hz⟩:=I.list (aR hp);have hlen:=rv.length
 rw [Ab] at hlen;refine yI (I.ok.hd hc) pl.isList (J:=aQ9 X.prog X.w s.heap.objs.size zs) bQF (λA' _=>aQF (zM rv) hl) λh' tk o hk ho hJ=>?_;obtain ⟨o,es,ep,t,ho,hex,hd,_,_,_,hf,hn⟩:=hJ h' ho;rw [show zs.take its.length=zs by rw [<-hlen]; exact Bl ..] at hn
 have hfresh:H s.heap.objs.size=none:=I.hok.fresh (Ah _)
 have I1:Inv X pins σ H { s with heap:=h',toks:=tk }:=I.kept hk
 refine ⟨.ref s.heap.objs.size,_,I1.adopt (o:=pK s.heap.objs.size (uB zs)) (I.freAt (Ah _)) hfresh ?_,rfl,q _ hfresh⟩;exact ⟨⟨o,es,ep,t,ho,hex,hd,hf,hn⟩,⟨o,ho⟩,λh1 h2 ⟨o,es,ep,t,g,r⟩ k=>⟨o,es,ep,t,k o g,r⟩⟩
def aX5:List V->Hp->VK->Prop:=λxs H Q=>∃ (p:Addr) (n:Nat),xs=[.ref p]/\H p=some (pK p n)/\n<=1000/\Q (.int (n:Int)) H
theorem cQH {X:Cx}:CallR X (.builtin "len") aX5:=by
 intro pins s σ H xs us Q I r h;obtain ⟨p,n,rfl,hp,hn,q⟩:=h;obtain ⟨u,rfl,ru⟩:=fF r;cases ru;obtain ⟨o,es,ep,t,ho,hex,hd,hf,he⟩:=(I.hok p _ hp).1;refine call_len_set ho hex hd hf (by rw [he]; omega) ?_
 rw [he];exact ⟨.int (n:Int),H,I.tok _,⟨_,rfl⟩,q⟩
theorem dJN {H:Hp} {Q:VK} {p:Addr} {zs:List Str} (e:rdL H p=some (zs.map V.str)) (hl:zs.length<=1000) (h:∀ r,H r=none->Q (.ref r) (upd H r (pK r (uB zs)))):cJQ [.ref p] H Q:=⟨p,zs,rfl,e,hl,h⟩
theorem bJQ {H:Hp} {Q:VK} {p:Addr} {n:Nat} (e:H p=some (pK p n)) (hn:n<=1000) (h:Q (.int (n:Int)) H):aX5 [.ref p] H Q:=⟨p,n,rfl,e,hn,h⟩
def bJ2:List V->Hp->VK->Prop:=λxs H Q=>(∃ j:Int,xs=[.int j]/\∀ r,H r=none->Q (.ref r) (upd H r (.rng 0 j)))\/(∃ i j:Int,xs=[.int i,.int j]/\∀ r,H r=none->Q (.ref r) (upd H r (.rng i j)))
theorem Inv.rngNew {X:Cx} {pins:Q2} {σ:St} {H:Hp} {s:Shared} {lo hi:Int} {t u v:Tok} {tk:Nat} (I:Inv X pins σ H s) :
   Inv X pins σ (upd H s.heap.objs.size (.rng lo hi)) { s with heap:=s.heap.push { cls:=.type "range",data:=.fields #[.int lo t,.int hi u,.int 1 v] },toks:=tk } :=
 (I.kept (t':=tk) λb o e=>Af _ e).adopt (I.freAt (Ah _)) (I.hok.fresh (Ah _)) ⟨t,u,v,Ax _ rfl⟩
theorem bZN {X:Cx}:CallR X (.type "range") bJ2:=by
 intro pins s σ H xs us Q I r h;rcases h with ⟨j,rfl,q⟩ | ⟨i,j,rfl,q⟩
 · obtain ⟨u,rfl,⟨t,rfl⟩⟩:=fF r;exact call_range_1 ⟨.ref _,_,I.rngNew,rfl,q _ (I.hok.fresh (Ah _))⟩
 · obtain ⟨u,w',rfl,⟨t,rfl⟩,⟨t',rfl⟩⟩:=tR r;exact call_range_2 ⟨.ref _,_,I.rngNew,rfl,q _ (I.hok.fresh (Ah _))⟩
theorem cX0 {H:Hp} {Q:VK} {j:Int} (h:∀ r,H r=none->Q (.ref r) (upd H r (.rng 0 j))):bJ2 [.int j] H Q:=.inl ⟨j,rfl,h⟩
theorem cXN {H:Hp} {Q:VK} {i j:Int} (h:∀ r,H r=none->Q (.ref r) (upd H r (.rng i j))):bJ2 [.int i,.int j] H Q:=.inr ⟨i,j,rfl,h⟩
theorem aJL (lo hi i:Int):(Builtin.Range.rangePlace? lo hi 1 i).isSome=decide (lo<=i/\i<hi):=by
 unfold Builtin.Range.rangePlace?;simp only [show (1:Int) > 0 by decide,if_true,Int.emod_one]
 by_cases h:lo<=i/\i<hi
 · rw [An h];simp [h.1,h.2]
 · rw [Am h];have:(decide (lo<=i) && decide (i<hi))=false:=by
     rw [Bool.and_eq_false_iff];by_cases h1:lo<=i
     · exact .inr (Am λh2=>h ⟨h1,h2⟩)
     · exact .inl (Am h1)
   simp [this]
def aXO:V->V->Hp->VK->Prop:=λx y H Q=>∃ (i:Int) (p:Addr) (lo hi:Int),x=.int i/\y=.ref p/\H p=some (.rng lo hi)/\Q (.bl (!decide (lo<=i/\i<hi))) H
theorem zE {X:Cx}:OpR X (compareOp .NotIn) aXO:=by
 intro pins s σ H x y v u Q I rx ry h;obtain ⟨i,p,lo,hi,rfl,rfl,hp,q⟩:=h;obtain ⟨t,rfl⟩:=rx;cases ry;obtain ⟨t0,t1,t2,ho⟩:=I.hok p _ hp;have hT:s.TypeIs (.ref p) "range" := ⟨_,ho,rfl⟩
 show wpAny _ _ (do return Value.bool (!(<-contains (.ref p) (.int i t)))) _ _ s
 refine Ad ?_;unfold contains;try with_reducible refine Bx ?_
 refine Ad (Ge hT F.slot_range_contains.lookup ?_);show wpAny _ _ (if (some (Value.builtin "range.__contains__") == some Value.none)=true then _ else _) _ _ s
 rw [if_neg (by rw [beq_builtin_none]; exact Aq)]
 refine Ad (wpAny_callSpecialUnlessNone?_slot (name:=Str.ofString "__contains__") hT F.slot_range_contains
   (Ec F.slot_range_contains hT F.entry_range_contains ?_ (F.args_range_contains_2 _ _)))
 unfold Builtin.«range.__contains__»;show wpAny _ _ (rule _ >>= _) _ _ s
 refine Ad (wpAny_rule (Ad ?_));unfold Builtin.Range.rangeFields;refine Ad (Ft (x:=.int lo t0) ho rfl rfl ?_);refine Ad (Al (Ad (Ft (x:=.int hi t1) ho rfl rfl ?_)));refine Ad (Al (Ad (Ft (x:=.int 1 t2) ho rfl rfl ?_)));refine Ad (Al (Al ?_));show wpAny _ _ (ret (Value.bool (Builtin.Range.rangePlace? lo hi 1 i).isSome)) _ _ s
 rw [aJL];exact Al ⟨_,rfl,Ek (Al ⟨.bl _,H,I,rfl,q⟩)⟩
theorem xC {H:Hp} {Q:VK} {i lo hi:Int} {p:Addr} (e:H p=some (.rng lo hi)) (h:Q (.bl (!decide (lo<=i/\i<hi))) H):aXO (.int i) (.ref p) H Q:=⟨i,p,lo,hi,rfl,rfl,e,h⟩
end L2
set_option maxHeartbeats 4000000
namespace L2
open PySem PySem.Spec PyProof.Rows
theorem bJO {P:Program} {w:World} {K:PySem.W.Frag} {mg:Q4} {base:Heap} {f:Addr} {fd:FuncData} {ps:List Str} {x:Str} (sp:Nat->Sp) (h0:∀ vs H Q E,¬ sp 0 vs H Q E) (hm:mg x=some (.ref f)) (hk:PySem.W.keepIn K (.ref f)=true) (hb:Binds K fd ps [])
   (st:∀ d n,Cal P w K mg base (d+1) x ps (sp n)->FnOk P w K mg base CX0 (d+2) f fd ps (sp (n+1))):∀ n,FnOk P w K mg base CX0 (n+1) f fd ps (sp n)
 | 0=>⟨λvs H Q E h=>(h0 _ _ _ _ h).elim,λA outer s H args us vs Q E _ _ _ _ h=>(h0 _ _ _ _ h).elim⟩
 | n+1=>st n n ⟨f,fd,bJO sp h0 hm hk hb st n,hm,hk,hb⟩
theorem Lsts.app {H1 Hc:Hp} {ps qs:List Addr} {fs gs:List (List V)} (t:Lsts H1 Hc ps fs) (u:Lsts H1 Hc qs gs):Lsts H1 Hc (ps++qs) (fs++gs):=by
 refine ⟨by rw [Aj,Aj,t.1,u.1],λj p v hp hv=>?_⟩
 by_cases h:j<ps.length
 · rw [Ap h] at hp;rw [Ap (by rw [<-t.1]; exact h)] at hv
   exact t.2 j p v hp hv
 · rw [Av (by omega)] at hp
   rw [Av (by rw [<-t.1]; omega),<-t.1] at hv
   exact u.2 _ p v hp hv
section
variable {g:TG} {tests:TT} {te:TE} {σ0:St} {Q:VK} {H1:Hp}
theorem aX4 {K:PySem.W.Frag} {a:Addr} {xs:List V} (f:Nat->List V) (ha:rdL H1 a=some xs) (hl:xs.length<sizeLine)
   (hs:∀ (i:Nat) x Hc (A:VK) (B:Hp->Prop),xs[i]?=some x->Same H1 Hc->(∀ q Hd,Hc q=none->Same Hc Hd->Hd q=some (.lst (f i))->A (.ref q) Hd)->
     g x σ0 Hc λσ2 H2=>Wk σ0 σ2/\tests σ2 H2 λb H3=>if b=true then te σ2 H3 A else B H3)
   (fin:∀ D Hd ps,H1 D=none->Same H1 Hd->Hd D=some (.lst (ps.map V.ref))->ps.length=xs.length->Lsts H1 Hd ps ((List.range xs.length).map f)->(∀ p∈ps,p≠D)->Q (.ref D) Hd):eQ g tests te σ0 Q (Itl K a) H1:=by
 refine fE (n:=xs.length) (λD i ys Hc=>Same H1 Hc/\∃ ps,ys=ps.map V.ref/\ps.length=i/\Lsts H1 Hc ps ((List.range i).map f)/\∀ p∈ps,p≠D) hl (λD hD=>⟨aF hD _,[],rfl,rfl,.nil,λp hp=>nomatch hp⟩)
   (λD i ys Hc _ r h=>⟨xs,xs[i],aR (aH r.1 ha),by simp [h]⟩) (λD ys Hc _ r=>⟨xs,aR (aH r.1 ha),Nat.le_refl _⟩) ?_ ?_
 · rintro D i ys Hc x H' A B hD hi ⟨sm,ps,rfl,hn,ls,nd⟩ hDc ⟨rfl,hz⟩ ha' hb;refine hs i x H' A B (hz xs (aR (aH sm ha))) sm (λq Hd hq sd hd=>?_);have nq:q≠D:=λz=>by rw [z,hDc] at hq; cases hq
   have nd2:∀ p∈ps++[q],p≠D:=λp hp=>by
     rcases Bk.mp hp with e | e
     · exact nd p e
     · rw [Aw.mp e]; exact nq
   refine ha' _ _ (sd _ _ hDc) ⟨aY hD (sm.trans sd),ps++[q],by rw [Ak]; rfl,by rw [Aj,hn]; rfl,?_,nd2⟩
   rw [Ci,Ak];exact ((ls.keep sd).snoc (bA sm hq) hd).put nd2
 · rintro D ys Hc hD ⟨sm,ps,rfl,hn,ls,nd⟩ hDc _;exact fin D Hc ps hD sm hDc hn ls nd
theorem bQM {n:Nat} {lo:Int} (f:Nat->Option V) (hl:n<sizeLine)
   (hs:∀ (i:Nat) Hc (A:VK) (B:Hp->Prop),i<n->Same H1 Hc->(∀ y,f i=some y->∀ Hd,Same Hc Hd->A y Hd)->(f i=none->∀ Hd,Same Hc Hd->B Hd)->
     g (.int (lo+i)) σ0 Hc λσ2 H2=>Wk σ0 σ2/\tests σ2 H2 λb H3=>if b=true then te σ2 H3 A else B H3)
   (fin:∀ D Hd,H1 D=none->Same H1 Hd->Hd D=some (.lst ((List.range n).filterMap f))->Q (.ref D) Hd):eQ g tests te σ0 Q (Itr lo n) H1:=by
 refine fE (n:=n) (λD i ys Hc=>Same H1 Hc/\ys=(List.range i).filterMap f) hl (λD hD=>⟨aF hD _,rfl⟩) (λD i ys Hc _ r h=>h) (λD ys Hc _ r=>Ah n) ?_ ?_
 · rintro D i ys Hc x H' A B hD hi ⟨sm,rfl⟩ hDc ⟨rfl,rfl⟩ ha' hb;refine hs i H' A B hi sm (λy hy Hd sd=>?_) (λhn Hd sd=>?_)
   · exact ha' _ _ (sd _ _ hDc) ⟨aY hD (sm.trans sd),(eG hy).symm⟩
   · exact hb _ (sd _ _ hDc) ⟨sm.trans sd,(iL hn).symm⟩
 · rintro D ys Hc hD ⟨sm,rfl⟩ hDc _;exact fin D Hc hD sm hDc
end
end L2
set_option maxHeartbeats 1000000
namespace L2
open PySem
section
variable {prog:Program} {w:World} {A:Around} {E:Q0} {s:Shared}
end
end L2
set_option maxHeartbeats 4000000
namespace L2
open PySem PySem.Spec PyProof.Rows
section
variable {X:Cx} {a b:Expr} {rest:List Expr} {pos:Pos} {ta tb:TE}
end
end L2
set_option maxHeartbeats 4000000
namespace L2
open PySem PySem.Spec PyProof.Rows
open PySem.AutoSeq1 (wpAny_loadPart')
open PySem.MeetsSeq PySem.MeetsSeq2 PySem.MeetsSeq3
def ltZ:List Int->List Int->Bool
 | [],[]=>false
 | [],_::_=>true
 | _::_,[]=>false
 | a::r,b::s=>if a=b then ltZ r s else decide (a<b)
theorem nD {vs:List Value} {ns:List Int} (h:IntsAre vs ns):vs.length=ns.length/\∀ {i:Nat} {n:Int},ns[i]?=some n->∃ t,vs[i]?=some (.int n t):=by
 induction h with
 | nil=>exact ⟨rfl,λe=>by cases e⟩
 | cons m t _ ih=>
   refine ⟨by rw [Bb,Bb,ih.1],fun {i n} e=>?_⟩
   cases i with
   | zero=>cases e; exact ⟨t,rfl⟩
   | succ i=>exact ih.2 e
theorem bZB {P:Program} {w:World} {A:Around} {E:Q0} {s:Shared} {a b:Int} {t u:Tok} {Q:Q0} (hu:A.units<cLine) (h:Q (.bool (decide (a<b))) s):wpAny (model P w) A (richCompare .Lt (.int a t) (.int b u)) Q E s :=
 Dt (op:=.Lt) (typeIs_int s a t) (typeIs_int s b u) slot_int_lt (call_int_lt ⟨(λx=>nomatch x),h⟩) hu
theorem cQL {P:Program} {w:World} (l b:Addr) (xs ys:Array Value) (as bs:List Int) (n n2:Nat) (dd dd2:Option Addr) (sl sl2:Array (Option Value)) (ix:IntsAre xs.toList as) (iy:IntsAre ys.toList bs):∀ (k i:Nat),as.length - i=k->i<=as.length->i<=bs.length->
   MeetsIn P w (Builtin.«list.__eq__.loop» ⟨[.ref l,.ref b,rawInt i,rawInt 0],[]⟩)
     (λA R s=>A.units+1<cLine/\s.heap.get? l=some ⟨.type "list",dd,.seq xs n,sl⟩/\s.heap.get? b=some ⟨.type "list",dd2,.seq ys n2,sl2⟩/\R (.ok (.ret (.bool (ltZ (as.drop i) (bs.drop i))))) s):=by
 have lx:xs.size=as.length:=by rw [<-Dg]; exact (nD ix).1
 have ly:ys.size=bs.length:=by rw [<-Dg]; exact (nD iy).1
 intro k;induction k with
 | zero=>
   intro i hk hi hj A R s h;obtain ⟨hp,g,d,tk,os⟩:=s;obtain ⟨hu,ha,hq,h⟩:=h
   wp_walk using (Ay ha),(Ay hq)
   have n1:xs[((i:Nat):Int).toNat]?=none:=by simp; omega
   rw [n1]
   wp_walk using (Ay ha),(Ay hq)
   have e:ltZ (as.drop i) (bs.drop i)=decide (xs.size<ys.size):=by
     rw [Gx (by omega),lx,ly]
     cases eb:bs.drop i with
     | nil=>
       have:=Cw List.length eb
       rw [Ck,List.length_nil] at this;exact (Am (by omega)).symm
     | cons y r=>
       have:=Cw List.length eb
       rw [Ck,Bb] at this;exact (An (by omega)).symm
   rw [e] at h;exact h
 | succ k ih=>
   intro i hk hi hj A R s h;obtain ⟨hp,g,d,tk,os⟩:=s;obtain ⟨hu,ha,hq,h⟩:=h;have hia:i<as.length:=by omega
   obtain ⟨t,hx⟩:=(nD ix).2 (Aa hia);have n1:xs[((i:Nat):Int).toNat]?=some (.int as[i] t):=by rw [Dv,<-Cu]; exact hx
   by_cases hib:i<bs.length
   · obtain ⟨u,hy⟩:=(nD iy).2 (Aa hib);have n2':ys[((i:Nat):Int).toNat]?=some (.int bs[i] u):=by rw [Dv,<-Cu]; exact hy
     have hc:((i:Int)+1)=((i+1:Nat):Int):=by omega
     rw [Dz hia,Dz hib] at h
     wp_walk using (Ay ha),(Ay hq)
     rw [n1,n2'];refine Ad (Gg as[i] t bs[i] u P w _ _ ?_);by_cases e:as[i]=bs[i]
     · rw [show ltZ (as[i]::as.drop (i+1)) (bs[i]::bs.drop (i+1))=ltZ (as.drop (i+1)) (bs.drop (i+1)) from if_pos e] at h;rw [show (as[i] == bs[i])=true from beq_iff_eq.mpr e]
       wp_walk
       rw [hc];refine ⟨Fm plain_eq_loop _,Dy entry_eq_loop ?_⟩;rw [Dp plain_eq_loop _];exact ih (i+1) (by omega) (by omega) (by omega) A R _ ⟨hu,ha,hq,h⟩
     · rw [show ltZ (as[i]::as.drop (i+1)) (bs[i]::bs.drop (i+1))=decide (as[i]<bs[i]) from if_neg e] at h;rw [show (as[i] == bs[i])=false from Eo.mpr e]
       wp_walk using (Ay ha),(Ay hq)
       rw [n1,n2'];refine Ad (bZB (A:=A.in1) (show A.units+1<cLine from hu) ?_)
       wp_walk
       exact h
   · have hib':i=bs.length:=by omega
     have n2':ys[((i:Nat):Int).toNat]?=none:=by simp; omega
     wp_walk using (Ay ha),(Ay hq)
     rw [n1,n2']
     wp_walk using (Ay ha),(Ay hq)
     have e:ltZ (as.drop i) (bs.drop i)=decide (xs.size<ys.size):=by
       rw [Gx (show bs.length<=i by omega),Dz hia,lx,ly]
       exact (Am (by omega)).symm
     rw [e] at h;exact h
section
variable {P:Program} {w:World} {A:Around} {E:Q0} {s:Shared} {l b:Addr} {xs ys:Array Value} {as bs:List Int}
theorem yG {Q:Q0} (hl:s.heap.IsList l xs) (hb:s.heap.IsList b ys) (ix:IntsAre xs.toList as) (iy:IntsAre ys.toList bs) (hu:A.units+1<cLine) (h:Q (.bool (ltZ as bs)) s) :
   wpAny (model P w) A (call (.builtin "list.__lt__") [.ref l,.ref b]) Q E s:=by
 obtain ⟨⟨cls,dd,data,sl⟩,ho,hc,n,hd⟩:=id hl;obtain ⟨⟨cls2,dd2,data2,sl2⟩,ho2,hc2,n2,hd2⟩:=id hb;obtain rfl:cls=.type "list" := hc;obtain rfl:data=.seq xs n:=hd;obtain rfl:cls2=.type "list" := hc2;obtain rfl:data2=.seq ys n2:=hd2;have g:MeetsIn P w (Builtin.«list.__lt__» ⟨[.ref l,.ref b],[]⟩) (λA R s=>A.units+1<cLine/\s.heap.get? l=some ⟨.type "list",dd,.seq xs n,sl⟩/\s.heap.get? b=some ⟨.type "list",dd2,.seq ys n2,sl2⟩/\R (.ok (.ret (.bool (ltZ as bs)))) s):=by
   intro A R s h;obtain ⟨hp,g,d,tk,os⟩:=s;obtain ⟨hu,ha,hq,h⟩:=h;have f3:=Gv
   wp_walk using (Ay ha),(Ay hq)
   refine ⟨Fm plain_eq_loop _,Dy entry_eq_loop ?_⟩;rw [Dp plain_eq_loop _];exact cQL l b xs ys as bs n n2 dd dd2 sl sl2 ix iy _ 0 rfl (Bw _) (Bw _) A R _ ⟨hu,ha,hq,h⟩
 exact Fg PySem.F.slot_list_lt ⟨_,ho,rfl⟩ PySem.F.entry_list_lt (PySem.F.args_list_lt_2 _ _) g ⟨hu,ho,ho2,h⟩
theorem cZ6 {Q:Bool->Shared->Prop} (hl:s.heap.IsList l xs) (hb:s.heap.IsList b ys) (ix:IntsAre xs.toList as) (iy:IntsAre ys.toList bs) (hu:A.units+1<cLine) (h:Q (ltZ as bs) s) :
   wpAny (model P w) A (keyLt' oneType' (.ref l) (.ref b)) Q E s:=by
 obtain ⟨o,ho,hc,_⟩:=id hl;rw [keyLt'_oneType,oneLt'_eq];simp only [if_true];refine Ad (wpAny_cRoomFor (by omega) ?_)
 refine Ad (wpAny_callSpecialIfBound?_slot (T := "list") ⟨_,ho,hc⟩ PySem.F.slot_list_lt (yG hl hb ix iy hu ?_));exact Ek h
theorem dXR {Q:Q0} (hl:s.heap.IsList l xs) (hb:s.heap.IsList b ys) (ix:IntsAre xs.toList as) (iy:IntsAre ys.toList bs) (hu:A.units+1<cLine) (h:Q (.bool (ltZ as bs)) s) :
   wpAny (model P w) A (richCompare .Lt (.ref l) (.ref b)) Q E s:=by
 obtain ⟨o,ho,hc,_⟩:=id hl;obtain ⟨o2,ho2,hc2,_⟩:=id hb;exact Dt (op:=.Lt) (T := "list") ⟨_,ho,hc⟩ ⟨_,ho2,hc2⟩ PySem.F.slot_list_lt (yG hl hb ix iy hu ⟨(λx=>nomatch x),h⟩) (by omega)
end
open PySem.W (KasT kas_sort kas_cmp kas_item kas_item_eq kas_range kas_runs kas_kind kas_st)
def pY {α:Type} (lt:Nat->Nat->Bool):KasT α->α
 | .ret a=>a
 | .ask i j k=>pY lt (k (lt i j))
def kok {α:Type} (lt:Nat->Nat->Bool) (n:Nat):KasT α->Bool
 | .ret _=>true
 | .ask i j k=>decide (i<n) && decide (j<n) && kok lt n (k (lt i j))
theorem rA {α:Type} {cmp:Nat->Nat->(Bool->Shared->Prop)->Shared->Prop} {lt:Nat->Nat->Bool} {n:Nat} {Q:α->Shared->Prop} {s:Shared} (hc:∀ i j C,i<n->j<n->C (lt i j) s->cmp i j C s):∀ t:KasT α,kok lt n t=true->Q (pY lt t) s->t.kasWp cmp Q s
 | .ret _,_,h=>h
 | .ask i j k,o,h=>by
   simp only [kok,Bool.and_eq_true,decide_eq_true_eq] at o;exact hc i j _ o.1.1 o.1.2 (rA hc (k (lt i j)) o.2 h)
def fB (lt:Nat->Nat->Bool) (vs:List Value):List Value:=if vs.length<2 then vs else (pY lt (kas_sort vs.length)).toList.map λi=>vs.getD i .none
def rM (h:Heap) (a:Addr) (vs:List Value):Heap:=((h.update a (Obj.mapSeq λ_=>(#[]:Array Value))).push (seqObj "tuple" vs.toArray 0)).push (seqObj "list" #[] 0)
theorem xJ {h:Heap} {a b:Addr} {vs:List Value} {o:Obj} (ne:b≠a) (e:h.get? b=some o):(rM h a vs).get? b=some o :=
 Af _ (Af _ (((Gc h a _).2 b ne).trans e))
theorem aZA {h:Heap} {a:Addr} {vs:List Value} {n:Nat} (e:h.get? a=some (seqObj "list" vs.toArray n)):∃ c,(h.update a (Obj.mapSeq λ_=>(#[]:Array Value))).get? a=some (seqObj "list" #[] c)/\(rM h a vs).get? a=some (seqObj "list" #[] c) :=
 ⟨_,get?_update_seq e λ_=>#[],Af _ (Af _ (get?_update_seq e λ_=>#[]))⟩
def cQQ (h:Heap) (vs:List Value):Heap:=((h.push (seqObj "list" #[] 0)).update h.objs.size (Obj.mapSeq (·++vs.toArray))).push (seqObj "list" vs.toArray 0)
theorem nH (h:Heap) (vs:List Value):((h.push (seqObj "list" #[] 0)).update h.objs.size (Obj.mapSeq (·++vs.toArray))).objs.size=h.objs.size+1:=(Heap.size_update ..).trans (size_push' ..)
theorem gE {h:Heap} {vs:List Value} {b:Addr} {o:Obj} (e:h.get? b=some o):(cQQ h vs).get? b=some o/\b≠h.objs.size+1 :=
 have l:b<h.objs.size:=Ar e
 ⟨Af _ (((Gc _ _ _).2 b (Bi l)).trans (Af _ e)),Bi (Nat.lt_succ_of_lt l)⟩
theorem mR (h:Heap) (vs:List Value):(cQQ h vs).get? (h.objs.size+1)=some (seqObj "list" vs.toArray 0):=by
 have e:(cQQ h vs).get? ((h.push (seqObj "list" #[] 0)).update h.objs.size (Obj.mapSeq (·++vs.toArray))).objs.size=some (seqObj "list" vs.toArray 0):=Ax _ rfl
 rwa [nH] at e
theorem sP {lt:Nat->Nat->Bool} {vs:List Value} {p:Array Nat} (h2:¬ vs.length<2) (e:p=pY lt (kas_sort vs.length)) (z:p.size=vs.length):(fB lt vs).length=vs.length/\fB lt vs=p.toList.map λi=>vs.getD i .none:=by
 unfold fB;rw [if_neg h2,<-e];exact ⟨by rw [Ab,Dg,z],rfl⟩
theorem nB (vs:List Value):(vs.toArray.zip vs.toArray).map (·.2)=vs.toArray:=Array.toList_inj.mp (by simp [List.map_snd_zip])
theorem tL (vs:List Value) (p:Array Nat):(p.map (kas_item (pairsOf vs))).map (·.2)=(p.toList.map λi=>vs.getD i .none).toArray:=by
 cases p with
 | mk l=>simp only [List.map_toArray,List.map_map]; congr 1; exact List.map_congr_left λi _=>congrArg Prod.snd (kas_item_eq vs i)
section
variable {prog:Program} {w:World} {A:Around} {E:Q0} {s:Shared}
theorem yM {lt:Nat->Nat->Bool} {a:Addr} {vs:List Value} {n:Nat} {P:PySem.Fin->Shared->Prop} (ho:s.heap.get? a=some (seqObj "list" vs.toArray n))
   (hT:∀ v∈vs,∃ b ys,v=.ref b/\b≠a/\s.heap.IsList b ys)
   (hlt:∀ h':Heap,(∀ b o,b≠a->s.heap.get? b=some o->h'.get? b=some o)->∀ i j (C:Bool->Shared->Prop),i<vs.length->j<vs.length->C (lt i j) { s with heap:=h' }->
     wpAny (model prog w) A (keyLt' oneType' (vs.getD i .none) (vs.getD j .none)) C (λ_ _=>False) { s with heap:=h' })
   (h64:vs.length<64) (hok:2<=vs.length->kok lt vs.length (kas_sort vs.length)=true)
   (h:P (.done (.ret .none)) { s with heap:=sortedHeap s.heap a vs (fB lt vs).toArray }):wpAny (model prog w) A (Builtin.«list.sort» ⟨[.ref a],[]⟩) P E s:=by
 obtain ⟨c,e1,e6⟩:=aZA ho;have z:vs.length<=sizeLine:=De (aV (by omega))
 have zz:∀ out:Array Value,out.size<=64->out.size<=sizeLine+1:=λout q=>Nat.le_succ_of_le (De (aV (by omega)))
 rw [list_sort_plain];refine Ad (listItems_at ho rfl (Ad (Gd ho rfl (Ad (Hh e1 rfl (Ad (wpAny_newTuple (Ad (Hf (Bx ?_) (Bw _))) z)))) z (Bw _))));change wpAny (model prog w) A _ P E { s with heap:=rM s.heap a vs }
 dsimp only;replace h:P (.done (.ret .none)) { s with heap:=(rM s.heap a vs).update a (Obj.mapSeq λ_=>(fB lt vs).toArray) }:=h
 have old:∀ b o,b≠a->s.heap.get? b=some o->(rM s.heap a vs).get? b=some o:=λ_ _=>xJ
 generalize rM s.heap a vs=hm at *;by_cases h2:vs.length<2
 · simp only [List.size_toArray,if_pos h2];refine Ad (Al (Ad (wpAny_of_eq (StateT.run_pure ..) (Ad (Hh e6 rfl (Ad (Gd e6 rfl ?_ (Bw _) ?_)))))));all_goals rw [show (arrOf (SortSt.mk' general' (vs.toArray.zip vs.toArray) #[] 7 none)).map (·.2)=(fB lt vs).toArray from (nB vs).trans (Cw List.toArray (if_pos h2).symm)]
   · simp only [bne_self_eq_false,Bool.false_eq_true,if_false];exact Al h
   · exact zz _ (by rw [Bf,show fB lt vs=vs from if_pos h2]; omega)
 · have h2':2<=vs.length:=Nat.le_of_not_lt h2
   simp only [List.size_toArray,if_neg h2];refine Ad (kas_kind (T:=.type "list") h2' (λv hv A' Q' E' s' k q=>?_) (by decide) (by decide) ?_)
   · obtain ⟨b,ys,rfl,ne,o,g1,g2,_⟩:=hT v hv;exact wpAny_typeOf (T := "list") ⟨o,k _ _ (old _ _ ne g1),g2⟩ q
   have iV:SortSt.mk' oneType' (vs.toArray.zip vs.toArray) #[] 7 none=kas_st oneType' (pairsOf vs) (List.toArray (List.range vs.length)):=by
     have e:=kas_range (pairsOf vs)
     rw [pairsOf_size] at e;exact Cw (λx=>SortSt.mk' oneType' x #[] 7 none) e.symm
   rw [iV];refine Ad (Ce (kas_runs (Q:=λ_ st s'=>∃ p:Array Nat,p.size=vs.length/\p=pY lt (kas_sort vs.length)/\arrOf st=p.map (kas_item (pairsOf vs))/\failedOf st=none/\s'={ s with heap:=hm }) (G:=λp s'=>s'={ s with heap:=hm }/\p=pY lt (kas_sort vs.length))
     h2' h64 (λp st s' x1 x2 x3 x4=>⟨p,x1,x4.2,x2,x3,x4.1⟩) (rA (lt:=lt) (n:=vs.length) (λi j C hi hj hC=>?_) _ (hok h2') ⟨rfl,rfl⟩)) ?_ λ_ _ e=>e)
   · unfold kas_cmp;rw [kas_item_eq,kas_item_eq];exact hlt hm old i j C hi hj hC
   rintro ⟨_,st⟩ _ ⟨p,x1,x2,x3,x4,rfl⟩;obtain ⟨y1,y2⟩:=sP h2 x2 x1;have out:(arrOf st).map (·.2)=(fB lt vs).toArray:=by rw [x3,tL,y2]
   dsimp only;rw [out];refine Ad (Hh e6 rfl (Ad (Gd e6 rfl ?_ (Bw _) (zz _ (by rw [Bf,y1]; omega)))))
   rw [x4];simp only [bne_self_eq_false,Bool.false_eq_true,if_false];exact Al h
theorem bXU {lt:Nat->Nat->Bool} {l:Addr} {vs:List Value} {Q:Q0} (hl:s.heap.IsList l vs.toArray)
   (hT:∀ v∈vs,∃ b ys,v=.ref b/\s.heap.IsList b ys)
   (hlt:∀ h':Heap,(∀ b o,s.heap.get? b=some o->h'.get? b=some o)->∀ i j (C:Bool->Shared->Prop),i<vs.length->j<vs.length->C (lt i j) { s with heap:=h' }->
     wpAny (model prog w) A.in1.in1 (keyLt' oneType' (vs.getD i .none) (vs.getD j .none)) C (λ_ _=>False) { s with heap:=h' })
   (h64:vs.length<64) (hok:2<=vs.length->kok lt vs.length (kas_sort vs.length)=true)
   (h:Q (.ref (s.heap.objs.size+1)) { s with heap:=sortedAll s.heap vs (fB lt vs).toArray }):wpAny (model prog w) A (call (.builtin "sorted") [.ref l]) Q E s:=by
 have z:vs.length<=sizeLine:=De (aV (by omega))
 refine Gb kind_sorted plain_sorted entry_sorted (args_sorted1 _) ?_;unfold Builtin.«sorted»;refine Ad (m:=checkCount "sorted" 1 1 _) (Al (Ad (collect_list hl (Ad (Hf ?_ z)) z)));rw [nH];change wpAny _ _ _ _ _ { s with heap:=cQQ s.heap vs }
 refine Ad (Bx (Ec slot_list_sort ⟨_,mR _ _,rfl⟩ entry_list_sort (yM (lt:=lt) (mR _ _) (λv hv=>?_) (λh' k=>hlt h' λb o q=>k b o (gE (vs:=vs) q).2 (gE q).1) h64 hok ⟨_,rfl,Al ⟨_,rfl,h⟩⟩) (args_list_sort _)));obtain ⟨b,ys,e,o,g1,g2,g3⟩:=hT v hv;exact ⟨b,ys,e,(gE (vs:=vs) g1).2,o,(gE g1).1,g2,g3⟩
end
def ltK (ks:List (List Int)) (i j:Nat):Bool:=ltZ (ks.getD i []) (ks.getD j [])
def kO (ks:List (List Int)):List Nat:=if ks.length<2 then List.range ks.length else (pY (ltK ks) (kas_sort ks.length)).toList
def bQ4 (ks:List (List Int)):Bool:=(decide (ks.length<2) || kok (ltK ks) ks.length (kas_sort ks.length)) && (kO ks).all (λi=>decide (i<ks.length)) && decide ((kO ks).length<=64)
theorem nW:∀ {ps:List Addr} {us:List Value},Vals (ps.map V.ref) us->us=ps.map Value.ref
 | [],_,.nil=>rfl
 | p::ps,_,.cons r t=>by cases r; rw [nW t]; rfl
theorem uD {α:Type} (f:α->Addr):∀ l:List α,Vals (l.map λi=>V.ref (f i)) (l.map λi=>Value.ref (f i))
 | []=>.nil
 | _::l=>.cons rfl (uD f l)
theorem aQJ {ks:List (List Int)} {ps:List Addr} (hl:ps.length=ks.length) (hi:∀ i∈kO ks,i<ks.length):fB (ltK ks) (ps.map Value.ref)=(kO ks).map λi=>Value.ref (ps.getD i 0):=by
 unfold fB kO;unfold kO at hi;rw [Ab,hl];by_cases h2:ks.length<2
 · rw [if_pos h2,if_pos h2];apply List.ext_getElem?
   intro i;by_cases h:i<ps.length
   · simp [h,<-hl]
   · rw [Fn (by rw [Ab]; omega),Fn (by rw [Ab,Bz]; omega)]
 · rw [if_neg h2,if_neg h2];rw [if_neg h2] at hi;refine Cp λi m=>?_;have h:=hi i m
   have h':i<ps.length:=by omega
   simp [List.getD_eq_getElem?_getD,h']
def sY:List V->Hp->VK->Prop:=λxs H Q=>∃ (a:Addr) (ps:List Addr) (ks:List (List Int)),xs=[.ref a]/\rdL H a=some (ps.map V.ref)/\ps.length=ks.length/\(∀ (i:Nat) (p:Addr) (k:List Int),ps[i]?=some p->ks[i]?=some k->rdL H p=some (k.map V.int))/\ps.length<64/\bQ4 ks=true/\∀ r,H r=none->Q (.ref r) (upd H r (.lst ((kO ks).map λi=>V.ref (ps.getD i 0))))
theorem aQX {X:Cx} (hu:X.A.units+8<cLine):CallR X (.builtin "sorted") sY:=by
 intro pins s σ H xs us Q I r h;obtain ⟨a,ps,ks,rfl,ha,hl,hk,h64,sk,q⟩:=h;obtain ⟨u,rfl,ru⟩:=fF r;cases ru;obtain ⟨its,rv,pl,hz⟩:=I.list (aR ha);obtain rfl:=nW rv;simp only [bQ4,Bool.and_eq_true,Bool.or_eq_true,decide_eq_true_eq,List.all_eq_true] at sk;have key:∀ i,i<ps.length->∃ b ys,ps[i]?=some b/\(ps.map Value.ref).getD i .none=.ref b/\s.heap.IsList b ys/\IntsAre ys.toList (ks.getD i []):=λi hi=>by
   have e1:=Aa hi
   have e2:=Aa (show i<ks.length by omega)
   obtain ⟨its,rv,pl,_⟩:=I.list (aR (hk i _ _ e1 e2));refine ⟨_,its.toArray,e1,by simp [List.getD_eq_getElem?_getD,hi],pl.isList,?_⟩
   rw [Ac,e2];exact mD rv
 have mem:∀ v∈ps.map Value.ref,∃ b ys,v=.ref b/\s.heap.IsList b ys:=λv hv=>by
   obtain ⟨p,hp,rfl⟩:=Be.mp hv;obtain ⟨i,hi,e⟩:=Cc.mp hp;obtain ⟨b,ys,e1,_,e3,_⟩:=key i hi;rw [Aa hi,e] at e1;cases e1;exact ⟨_,_,rfl,e3⟩
 refine bXU (lt:=ltK ks) pl.isList mem (λh' k i j C hi hj hC=>?_) (by rw [Ab]; exact h64) (λh2=>?_) ?_
 · rw [Ab] at hi hj;obtain ⟨b,ys,_,e2,⟨o,g1,g2,g3⟩,e4⟩:=key i hi;obtain ⟨b',ys',_,e2',⟨o',g1',g2',g3'⟩,e4'⟩:=key j hj;rw [e2,e2'];exact cZ6 (xs:=ys) (ys:=ys') ⟨o,k _ _ g1,g2,g3⟩ ⟨o',k _ _ g1',g2',g3'⟩ e4 e4' (show X.A.units+1+1+1<cLine by omega) hC
 · rw [Ab] at h2 ⊢;rw [hl];exact sk.1.1.resolve_left (by omega)
 rw [aQJ hl sk.1.2];have hfr:H (s.heap.objs.size+1)=none:=I.hok.fresh (Gj _)
 refine ⟨.ref (s.heap.objs.size+1),upd H (s.heap.objs.size+1) (.lst ((kO ks).map λi=>V.ref (ps.getD i 0))),I.laid (a:=s.heap.objs.size+1) (o:=.lst ((kO ks).map λi=>V.ref (ps.getD i 0))) (t':=s.toks) (λb o e=>sortedAll_old e) (Gj _) ?_,rfl,q _ hfr⟩;obtain ⟨c,hc⟩:=sortedAll_at s.heap (ps.map Value.ref) ((kO ks).map λi=>Value.ref (ps.getD i 0)).toArray;refine ⟨by rw [Ab]; exact De (aV (by omega)),_,c,uD _ _,?_⟩
 rw [hc]
theorem zT {H:Hp} {Q:VK} {a:Addr} {ps:List Addr} {ks:List (List Int)} (ha:rdL H a=some (ps.map V.ref)) (hl:ps.length=ks.length) (hk:∀ (i:Nat) (p:Addr) (k:List Int),ps[i]?=some p->ks[i]?=some k->rdL H p=some (k.map V.int)) (h64:ps.length<64) (sk:bQ4 ks=true)
   (h:∀ r,H r=none->Q (.ref r) (upd H r (.lst ((kO ks).map λi=>V.ref (ps.getD i 0))))):sY [.ref a] H Q:=⟨a,ps,ks,rfl,ha,hl,hk,h64,sk,h⟩
end L2
set_option maxHeartbeats 4000000
namespace L2
open PySem PySem.Spec PyProof.Rows
def cJU:R2:=λx y H Q=>∃ (p q:Addr) (as bs:List Int),x=.ref p/\y=.ref q/\rdL H p=some (as.map V.int)/\rdL H q=some (bs.map V.int)/\Q (.bl (ltZ as bs)) H
theorem dZT {X:Cx} (hu:X.A.units+1<cLine):OpR X (compareOp .Lt) cJU:=by
 intro pins s σ H x y v u Q I rx ry h;obtain ⟨p,q,as,bs,rfl,rfl,hp,hq,k⟩:=h;cases rx;cases ry;obtain ⟨i1,r1,l1,_⟩:=I.list (aR hp);obtain ⟨i2,r2,l2,_⟩:=I.list (aR hq);exact dXR l1.isList l2.isList (mD r1) (mD r2) hu ⟨.bl _,H,I,rfl,k⟩
theorem dZ8 {H:Hp} {Q:VK} {p q:Addr} {as bs:List Int} (hp:rdL H p=some (as.map V.int)) (hq:rdL H q=some (bs.map V.int)) (h:Q (.bl (ltZ as bs)) H):cJU (.ref p) (.ref q) H Q:=⟨p,q,as,bs,rfl,rfl,hp,hq,h⟩
end L2
set_option maxHeartbeats 1000000
namespace L2
open PySem
section
variable {prog:Program} {w:World} {A:Around} {E:Q0} {s:Shared}
end
open PySem.Spec PyProof.Rows
def Alx (H:Hp):Nat->V->V->Prop
 | 0,x,y=>x=y/\(cA x=true\/∃ p,x=.ref p)
 | n+1,x,y=>(x=y/\(cA x=true\/∃ p,x=.ref p))\/∃ p q,x=.ref p/\y=.ref q/\((∃ xs ys,rdL H p=some xs/\rdL H q=some ys/\xs.length=ys.length/\∀ (j:Nat) x' y',xs[j]?=some x'->ys[j]?=some y'->Alx H n x' y')\/∃ kvs kws,Rd H p (.dK kvs)/\Rd H q (.dK kws)/\DEq kvs kws)
theorem Alx.same {H:Hp} {n:Nat} {x:V} (h:cA x=true\/∃ p,x=.ref p):Alx H n x x:=by
 cases n with
 | zero=>exact ⟨rfl,h⟩
 | succ n=>exact .inl ⟨rfl,h⟩
theorem yK {X:Cx} {s:Shared} {A:Around} {x:V} {u v:Value} (h:cA x=true\/∃ p,x=.ref p) (ru:RelV x u) (rv:RelV x v):EqW X.prog X.w A s u v:=by
 rcases h with hf | ⟨p,rfl⟩
 · have:=jL (A:=A) (s:=s) ru rv hf hf
   rw [gS hf] at this;exact λE Q hq=>this X.prog X.w E Q hq
 · cases ru;cases rv;exact .same _
theorem bJ8 {X:Cx} {pins:Q2} {σ:St} {H:Hp} {s:Shared} (I:Inv X pins σ H s) {A:Around} {p q:Addr} {xs ys:List V} (hp:rdL H p=some xs) (hq:rdL H q=some ys) (hl:xs.length=ys.length) (h:∀ (j:Nat) x' y' u v,xs[j]?=some x'->ys[j]?=some y'->RelV x' u->RelV y' v->EqW X.prog X.w A.in1 s u v) (hu:A.units<cLine) (E:Q0) (Q:Q0) :
   (Q (.bool true) s->wpAny (model X.prog X.w) A (richCompare .Eq (.ref p) (.ref q)) Q E s)/\(Q (.bool false) s->wpAny (model X.prog X.w) A (richCompare .NotEq (.ref p) (.ref q)) Q E s):=by
 obtain ⟨its,r1,l1,_⟩:=I.list (aR hp);obtain ⟨its2,r2,l2,_⟩:=I.list (aR hq);have e1:=r1.length
 have e2:=r2.length
 have he:∀ j (h1:j<its.toArray.size) (h2:j<its2.toArray.size),EqW X.prog X.w A.in1 s its.toArray[j] its2.toArray[j]:=λj h1 h2=>by
   have h1':j<its.length:=by simpa using h1
   have h2':j<its2.length:=by simpa using h2
   obtain ⟨u',hu',ru'⟩:=r1.get (Aa (show j<xs.length by omega))
   obtain ⟨v',hv',rv'⟩:=r2.get (Aa (show j<ys.length by omega))
   rw [Aa h1'] at hu';rw [Aa h2'] at hv';cases hu';cases hv'
   simpa using h j _ _ _ _ (List.getElem?_eq_getElem _) (List.getElem?_eq_getElem _) ru' rv'
 have hs:its.toArray.size=its2.toArray.size:=by simp only [List.size_toArray]; omega
 exact ⟨λq=>aQ4 l1.isList l2.isList hs hu he q,λq=>bJT l1.isList l2.isList hs hu he q⟩
theorem dQR {X:Cx} {pins:Q2} {σ:St} {H:Hp} {s:Shared} (I:Inv X pins σ H s):∀ (n:Nat) (A:Around) (x y:V) (u v:Value),Alx H n x y->RelV x u->RelV y v->A.units+n<cLine->EqW X.prog X.w A s u v:=by
 intro n;induction n with
 | zero=>
   intro A x y u v h ru rv hu;obtain ⟨rfl,hx⟩:=h;exact yK hx ru rv
 | succ n ih=>
   intro A x y u v h ru rv hu;rcases h with ⟨rfl,hx⟩ | ⟨p,q,rfl,rfl,hpq⟩
   · exact yK hx ru rv
   · cases ru;cases rv;by_cases e:p=q
     · subst e;exact .same _
     rcases hpq with ⟨xs,ys,hp,hq,hl,h⟩ | ⟨kvs,kws,hp,hq,d⟩
     · exact .refs e λE Q hq'=>(bJ8 I hp hq hl (λj x' y' u v hx hy hu' hv'=>ih A.in1 x' y' u v (h j x' y' hx hy) hu' hv' (by show A.units+1+n<cLine; omega)) (by omega) E Q).1 hq'
     · exact .refs e λE Q hq'=>(aZB I hp hq d (by omega) E Q).1 hq'
def eQZ (neg:Bool):R2:=λx y H Q=>∃ n p q xs ys,n<=50/\x=.ref p/\y=.ref q/\rdL H p=some xs/\rdL H q=some ys/\xs.length=ys.length/\(∀ (j:Nat) x' y',xs[j]?=some x'->ys[j]?=some y'->Alx H n x' y')/\Q (.bl (!neg)) H
theorem dJ3 {X:Cx} (hu:X.A.units+64<cLine):OpR X (compareOp .NotEq) (eQZ true):=by
 intro pins s σ H x y v u Q I rx ry h;obtain ⟨n,p,q,xs,ys,hn,rfl,rfl,hp,hq,hl,al,k⟩:=h;cases rx;cases ry;exact (bJ8 I hp hq hl (λj x' y' u v hx hy hu' hv'=>dQR I n X.A.in1 x' y' u v (al j x' y' hx hy) hu' hv' (by show X.A.units+1+n<cLine; omega)) (by omega) _ _).2 ⟨.bl false,H,I,rfl,k⟩
theorem eX4 {neg:Bool} {p q:Addr} {H:Hp} {Q:VK} {xs ys:List V} (n:Nat) (hp:rdL H p=some xs) (hq:rdL H q=some ys) (hl:xs.length=ys.length) (al:∀ (j:Nat) x' y',xs[j]?=some x'->ys[j]?=some y'->Alx H n x' y') (h:Q (.bl (!neg)) H) (hn:n<=50:=by omega):eQZ neg (.ref p) (.ref q) H Q:=⟨n,p,q,xs,ys,hn,rfl,rfl,hp,hq,hl,al,h⟩
end L2
set_option maxHeartbeats 1000000
namespace L2
open PySem PySem.Spec PyProof.Rows
section
variable {X:Cx} {pins:Q2}
end
end L2
set_option maxHeartbeats 1000000
namespace L2
open PySem PySem.Spec PyProof.Rows
section
variable {X:Cx}
end
end L2
set_option maxHeartbeats 1000000
namespace L2
open PySem PySem.Spec PyProof.Rows
open PySem.AutoSeq1 (wpAny_loadPart')
theorem cJE {P:Program} {w:World} (p q:Addr) (xs ys:Array Value) (n n2:Nat) (dd dd2:Option Addr) (sl sl2:Array (Option Value)) (hsz:xs.size=ys.size) :
   MeetsIn P w (Builtin.«tuple.__eq__» ⟨[.ref p,.ref q],[]⟩) (λA R s=>s.heap.get? p=some ⟨.type "tuple",dd,.seq xs n,sl⟩/\s.heap.get? q=some ⟨.type "tuple",dd2,.seq ys n2,sl2⟩/\(∀ j (h1:j<xs.size) (h2:j<ys.size),EqW P w A.in1 s xs[j] ys[j])/\R (.ok (.ret (.bool true))) s):=by
 refine .of_wp λA R s h=>?_;obtain ⟨hp,g,d,tk,os⟩:=s;obtain ⟨ha,hq,he,h⟩:=h;have kind:=AutoSeq1.sub_tuple_tuple
 have zl:(xs.toList.zip ys.toList).length=xs.size:=by simp [hsz]
 wp_walk using Ay ha,Ay hq,wpAny_forIn_list _ (λrest b s'=>b.1=none/\s'=⟨hp,g,d,tk,os⟩/\∃ k,rest=(xs.toList.zip ys.toList).drop k) _
 case turn=>
   rintro ⟨u,v⟩ rest b s' ⟨hn,rfl,k,hk⟩;have hkl:k<(xs.toList.zip ys.toList).length:=by
     refine Nat.lt_of_not_le λz=>?_;rw [Gy z] at hk;cases hk
   rw [Dz hkl] at hk;obtain ⟨huv,hrest⟩:=List.cons.inj hk;have k1:k<xs.size:=by omega
   have k2:k<ys.size:=by omega
   obtain ⟨eu,ev⟩:u=xs[k]/\v=ys[k]:=by
     have e:=huv
     rw [List.getElem_zip] at e;exact ⟨by simpa using congrArg Prod.fst e,by simpa using congrArg Prod.snd e⟩
   subst eu ev;refine Ad (he k k1 k2 _ _ ?_)
   wp_walk
   exact ⟨rfl,rfl,k+1,hrest⟩
 case fin=>
   rintro ⟨b1,b2⟩ s' ⟨hn,rfl,k,hk⟩;simp only at hn;subst hn
   wp_walk
   refine ⟨_,rfl,?_⟩;have e:Builtin.Tuple.tupleCompareSizes .Eq xs.size ys.size=.bool true:=by rw [hsz]; simp [Builtin.Tuple.tupleCompareSizes]
   rw [e];exact h
 case h=>exact ⟨rfl,rfl,0,rfl⟩
section
variable {X:Cx}
end
section
variable {X:Cx} {a b:Expr} {rest:List Expr} {pos:Pos} {ta tb:TE}
def eXG (ta tb:TE):TE:=λσ H Q=>ta σ H λx H1=>(x=.non/\tb σ H1 Q)\/∃ (p:Addr) (xs:List V),x=.ref p/\rdL H1 p=some xs/\(xs≠[]->Q (.ref p) H1)/\(xs=[]->tb σ H1 Q)
theorem dZG (ha:PE X a ta) (hb:PE X (.BoolOp .Or (b::rest) pos) tb):PE X (.BoolOp .Or (a::b::rest) pos) (eXG ta tb):=by
 intro pins s σ H Q I h;refine BoolOp_or (thn (ha pins s σ H _ I h) λv s1 ⟨x,H1,I1,r1,q1⟩=>?_);rcases q1 with ⟨rfl,q1⟩ | ⟨p,xs,rfl,hp,q2,q3⟩
 · refine thn (uO pins s1 σ H1 .non v (λk H'=>k=false/\tb σ H' Q) I1 r1 ⟨false,rfl,rfl,q1⟩) λk s2 ⟨H2,I2,e,q⟩=>?_;subst e;exact hb pins s2 σ H2 Q I2 q
 · cases xs with
   | nil=>
     refine thn (uO pins s1 σ H1 (.ref p) v (λk H'=>k=false/\tb σ H' Q) I1 r1 ⟨false,.inl ⟨[],aR hp,rfl⟩,rfl,q3 rfl⟩) λk s2 ⟨H2,I2,e,q⟩=>?_;subst e;exact hb pins s2 σ H2 Q I2 q
   | cons y r=>
     refine thn (uO pins s1 σ H1 (.ref p) v (λk H'=>k=true/\Q (.ref p) H') I1 r1 ⟨true,.inl ⟨y::r,aR hp,rfl⟩,rfl,q2 (λz=>nomatch z)⟩) λk s2 ⟨H2,I2,e,q⟩=>?_
     subst e;exact ⟨.ref p,H2,I2,r1,q⟩
end
section
variable {X:Cx}
end
end L2
set_option maxHeartbeats 1000000
namespace L2
open PySem PySem.Spec PyProof.Rows
section
variable {X:Cx}
end
section
variable {X:Cx} {a b:Expr} {rest:List Expr} {pos:Pos} {ta tb:TE}
end
end L2
set_option maxHeartbeats 4000000
namespace L2
open PySem PySem.Spec PyProof.Rows
open PySem.AutoSeq1 (wpAny_loadPart')
open PySem.MeetsSeq PySem.MeetsSeq2 PySem.MeetsSeq3
open PySem.W (KasT kas_sort kas_cmp kas_item kas_item_eq kas_range kas_runs kas_kind kas_st kat_kind kat_lt kat_cons kat_nil kat_yes kat_no kat_go kat_one KatTups KatLex)
section
variable {prog:Program} {w:World} {A:Around} {E:Q0} {s:Shared}
theorem xM {κ:SortKind} {lt:Nat->Nat->Bool} {a:Addr} {vs:List Value} {n:Nat} {P:PySem.Fin->Shared->Prop} (ho:s.heap.get? a=some (seqObj "list" vs.toArray n))
   (hk:∀ h':Heap,(∀ b o,b≠a->s.heap.get? b=some o->h'.get? b=some o)->2<=vs.length->∀ (Q:SortKind->Shared->Prop) (E':Q0),Q κ { s with heap:=h' }->wpAny (model prog w) A (keyKind' vs.toArray) Q E' { s with heap:=h' })
   (hlt:∀ h':Heap,(∀ b o,b≠a->s.heap.get? b=some o->h'.get? b=some o)->∀ i j (C:Bool->Shared->Prop),i<vs.length->j<vs.length->C (lt i j) { s with heap:=h' }->
     wpAny (model prog w) A (keyLt' κ (vs.getD i .none) (vs.getD j .none)) C (λ_ _=>False) { s with heap:=h' })
   (h64:vs.length<64) (hok:2<=vs.length->kok lt vs.length (kas_sort vs.length)=true)
   (h:P (.done (.ret .none)) { s with heap:=sortedHeap s.heap a vs (fB lt vs).toArray }):wpAny (model prog w) A (Builtin.«list.sort» ⟨[.ref a],[]⟩) P E s:=by
 obtain ⟨c,e1,e6⟩:=aZA ho;have z:vs.length<=sizeLine:=De (aV (by omega))
 have zz:∀ out:Array Value,out.size<=64->out.size<=sizeLine+1:=λout q=>Nat.le_succ_of_le (De (aV (by omega)))
 rw [list_sort_plain];refine Ad (listItems_at ho rfl (Ad (Gd ho rfl (Ad (Hh e1 rfl (Ad (wpAny_newTuple (Ad (Hf (Bx ?_) (Bw _))) z)))) z (Bw _))));change wpAny (model prog w) A _ P E { s with heap:=rM s.heap a vs }
 dsimp only;replace h:P (.done (.ret .none)) { s with heap:=(rM s.heap a vs).update a (Obj.mapSeq λ_=>(fB lt vs).toArray) }:=h
 have old:∀ b o,b≠a->s.heap.get? b=some o->(rM s.heap a vs).get? b=some o:=λ_ _=>xJ
 generalize rM s.heap a vs=hm at *;by_cases h2:vs.length<2
 · simp only [List.size_toArray,if_pos h2];refine Ad (Al (Ad (wpAny_of_eq (StateT.run_pure ..) (Ad (Hh e6 rfl (Ad (Gd e6 rfl ?_ (Bw _) ?_)))))));all_goals rw [show (arrOf (SortSt.mk' general' (vs.toArray.zip vs.toArray) #[] 7 none)).map (·.2)=(fB lt vs).toArray from (nB vs).trans (Cw List.toArray (if_pos h2).symm)]
   · simp only [bne_self_eq_false,Bool.false_eq_true,if_false];exact Al h
   · exact zz _ (by rw [Bf,show fB lt vs=vs from if_pos h2]; omega)
 · have h2':2<=vs.length:=Nat.le_of_not_lt h2
   simp only [List.size_toArray,if_neg h2];refine Ad (hk hm old h2' _ _ ?_);have iV:SortSt.mk' κ (vs.toArray.zip vs.toArray) #[] 7 none=kas_st κ (pairsOf vs) (List.toArray (List.range vs.length)):=by
     have e:=kas_range (pairsOf vs)
     rw [pairsOf_size] at e;exact Cw (λx=>SortSt.mk' κ x #[] 7 none) e.symm
   rw [iV];refine Ad (Ce (kas_runs (Q:=λ_ st s'=>∃ p:Array Nat,p.size=vs.length/\p=pY lt (kas_sort vs.length)/\arrOf st=p.map (kas_item (pairsOf vs))/\failedOf st=none/\s'={ s with heap:=hm }) (G:=λp s'=>s'={ s with heap:=hm }/\p=pY lt (kas_sort vs.length))
     h2' h64 (λp st s' x1 x2 x3 x4=>⟨p,x1,x4.2,x2,x3,x4.1⟩) (rA (lt:=lt) (n:=vs.length) (λi j C hi hj hC=>?_) _ (hok h2') ⟨rfl,rfl⟩)) ?_ λ_ _ e=>e)
   · unfold kas_cmp;rw [kas_item_eq,kas_item_eq];exact hlt hm old i j C hi hj hC
   rintro ⟨_,st⟩ _ ⟨p,x1,x2,x3,x4,rfl⟩;obtain ⟨y1,y2⟩:=sP h2 x2 x1;have out:(arrOf st).map (·.2)=(fB lt vs).toArray:=by rw [x3,tL,y2]
   dsimp only;rw [out];refine Ad (Hh e6 rfl (Ad (Gd e6 rfl ?_ (Bw _) (zz _ (by rw [Bf,y1]; omega)))))
   rw [x4];simp only [bne_self_eq_false,Bool.false_eq_true,if_false];exact Al h
theorem bXB {κ:SortKind} {lt:Nat->Nat->Bool} {l:Addr} {vs:List Value} {Q:Q0} (hl:s.heap.IsList l vs.toArray)
   (hk:∀ h':Heap,(∀ b o,s.heap.get? b=some o->h'.get? b=some o)->2<=vs.length->∀ (Q:SortKind->Shared->Prop) (E':Q0),Q κ { s with heap:=h' }->wpAny (model prog w) A.in1.in1 (keyKind' vs.toArray) Q E' { s with heap:=h' })
   (hlt:∀ h':Heap,(∀ b o,s.heap.get? b=some o->h'.get? b=some o)->∀ i j (C:Bool->Shared->Prop),i<vs.length->j<vs.length->C (lt i j) { s with heap:=h' }->
     wpAny (model prog w) A.in1.in1 (keyLt' κ (vs.getD i .none) (vs.getD j .none)) C (λ_ _=>False) { s with heap:=h' })
   (h64:vs.length<64) (hok:2<=vs.length->kok lt vs.length (kas_sort vs.length)=true)
   (h:Q (.ref (s.heap.objs.size+1)) { s with heap:=sortedAll s.heap vs (fB lt vs).toArray }):wpAny (model prog w) A (call (.builtin "sorted") [.ref l]) Q E s:=by
 have z:vs.length<=sizeLine:=De (aV (by omega))
 refine Gb kind_sorted plain_sorted entry_sorted (args_sorted1 _) ?_;unfold Builtin.«sorted»;refine Ad (m:=checkCount "sorted" 1 1 _) (Al (Ad (collect_list hl (Ad (Hf ?_ z)) z)));rw [nH];change wpAny _ _ _ _ _ { s with heap:=cQQ s.heap vs }
 refine Ad (Bx (Ec slot_list_sort ⟨_,mR _ _,rfl⟩ entry_list_sort (xM (κ:=κ) (lt:=lt) (mR _ _) (λh' k=>hk h' λb o q=>k b o (gE (vs:=vs) q).2 (gE q).1) (λh' k=>hlt h' λb o q=>k b o (gE (vs:=vs) q).2 (gE q).1) h64 hok ⟨_,rfl,Al ⟨_,rfl,h⟩⟩) (args_list_sort _)))
end
def eZI:Bool:=(List.range 64).all λn=>decide (n<2) || (kok (λi j=>decide (i<j)) n (kas_sort n) && (pY (λi j=>decide (i<j)) (kas_sort n)).toList == List.range n)
theorem dXN:eZI=true:=by decide +kernel
theorem bXP {n:Nat} (h:n<64) (h2:2<=n):kok (λi j=>decide (i<j)) n (kas_sort n)=true/\(pY (λi j=>decide (i<j)) (kas_sort n)).toList=List.range n:=by
 have a:=Cq.mp dXN n (Bm.mpr h)
 rw [Am (show ¬ n<2 by omega),Fl,Cs,beq_iff_eq] at a
 exact a
theorem cZZ {vs:List Value} (h:vs.length<64):fB (λi j=>decide (i<j)) vs=vs:=by
 unfold fB;by_cases h2:vs.length<2
 · rw [if_pos h2]
 · rw [if_neg h2,(bXP h (by omega)).2]
   refine List.ext_getElem (by rw [Ab,Bz]) λi h1 h3=>?_
   rw [Fy,List.getElem_range,Ac,Aa h3];rfl
def cZW (a b:Int×Int):Prop:=a.1<b.1\/(a.1=b.1/\a.2<b.2)
def qZ (h:Heap) (b:Addr) (k:Int×Int):Prop:=∃ o n t u,h.get? b=some o/\o.cls=.type "tuple"/\o.data=.seq #[.int k.1 t,.int k.2 u] n
theorem aX3 {h:Heap}:∀ {ps:List Addr} {ks:List (Int×Int)},ps.length=ks.length->(∀ (i:Nat) p k,ps[i]?=some p->ks[i]?=some k->qZ h p k)->∃ fs:List Value,PySem.W.KatTups h (ps.map Value.ref) fs/\fs.length=ps.length/\∀ v∈fs,∃ n t,v=Value.int n t
 | [],[],_,_=>⟨[],trivial,rfl,λv hv=>nomatch hv⟩
 | p::ps,k::ks,hl,h=>by
   obtain ⟨fs,h1,h2,h3⟩:=aX3 (ps:=ps) (ks:=ks) (by simpa using hl) λi p' k' hp hk=>h (i+1) p' k' hp hk
   obtain ⟨o,n,t,u,g1,g2,g3⟩:=h 0 p k rfl rfl;refine ⟨.int k.1 t::fs,PySem.W.KatTups.cons g1 g2 g3 rfl h1,by rw [Bb,Bb,h2],λv hv=>?_⟩
   rcases Bd.mp hv with e | e
   · exact ⟨_,_,e⟩
   · exact h3 v e
 | [],_::_,hl,_=>absurd hl (by simp)
 | _::_,[],hl,_=>absurd hl (by simp)
theorem cJA {P:Program} {w:World} {A:Around} {E:Q0} {s:Shared} {x y:Addr} {a b:Int×Int} {c:Bool} {Q:Bool->Shared->Prop} (hx:qZ s.heap x a) (hy:qZ s.heap y b) (hu:A.units<cLine) (hc:c=true ↔ cZW a b) (h:Q c s):wpAny (model P w) A (keyLt' (tuples' true) (.ref x) (.ref y)) Q E s:=by
 obtain ⟨o,n,t,u,g1,g2,g3⟩:=hx;obtain ⟨o',n',t',u',g1',g2',g3'⟩:=hy;refine kat_lt g1 g3 g1' g3' ?_;refine kat_cons (PySem.SeqAt.EqAt.int_int _ _ _ _ _ _ _ _ (kat_go (λe1=>kat_yes (kat_cons (PySem.SeqAt.EqAt.int_int _ _ _ _ _ _ _ _ (kat_go (λe2=>kat_yes (kat_nil ?_)) (λe2=>kat_no (kat_one _ _ ?_)))))) (λe1=>kat_no (oneLt_int ?_))))
 · have q1:=eq_of_beq e1
   have q2:=eq_of_beq e2
   have:c=false:=by
     cases c with
     | false=>rfl
     | true=>rcases hc.mp rfl with z | ⟨_,z⟩ <;> omega
   rw [this] at h;exact h
 · have q1:=eq_of_beq e1
   refine bZB hu ?_;have:c=decide (a.2<b.2):=by
     by_cases z:a.2<b.2
     · rw [An z]; exact hc.mpr (.inr ⟨q1,z⟩)
     · rw [Am z];cases c with
       | false=>rfl
       | true=>rcases hc.mp rfl with z' | ⟨_,z'⟩ <;> omega
   rw [this] at h;exact h
 · have q1:a.1≠b.1:=λz=>by rw [z] at e1; simp at e1
   have:c=decide (a.1<b.1):=by
     by_cases z:a.1<b.1
     · rw [An z]; exact hc.mpr (.inl z)
     · rw [Am z];cases c with
       | false=>rfl
       | true=>rcases hc.mp rfl with z' | ⟨z',_⟩ <;> omega
   rw [this] at h;exact h
section
variable {X:Cx}
def xS:List V->Hp->VK->Prop:=λxs H Q=>∃ (a:Addr) (ps:List Addr) (ks:List (Int×Int)),xs=[.ref a]/\rdL H a=some (ps.map V.ref)/\ps.length=ks.length/\(∀ (i:Nat) p k,ps[i]?=some p->ks[i]?=some k->H p=some (.tup [.int k.1,.int k.2]))/\ps.length<64/\ks.Pairwise cZW/\∀ r,H r=none->Q (.ref r) (upd H r (.lst (ps.map V.ref)))
theorem bQD (hu:X.A.units+8<cLine):CallR X (.builtin "sorted") xS:=by
 intro pins s σ H xs us Q I r h;obtain ⟨a,ps,ks,rfl,ha,hl,hk,h64,pw,q⟩:=h;obtain ⟨u,rfl,ru⟩:=fF r;cases ru;obtain ⟨its,rv,pl,hz⟩:=I.list (aR ha);obtain rfl:=nW rv;have key:∀ (i:Nat) p k,ps[i]?=some p->ks[i]?=some k->qZ s.heap p k:=λi p k hp hk'=>by
   obtain ⟨its,r1,l1,_⟩:=I.tuple (SqT.of (hk i p k hp hk'));obtain ⟨⟨cls,dd,data,sl⟩,ho,hc,m,hd⟩:=id l1;cases r1 with
   | cons e1 r1=>cases r1 with
     | cons e2 r1=>
       cases r1;obtain ⟨t,rfl⟩:=e1;obtain ⟨u,rfl⟩:=e2;exact ⟨_,m,t,u,ho,hc,hd⟩
 have kk:∀ {h':Heap},(∀ b o,s.heap.get? b=some o->h'.get? b=some o)->∀ (i:Nat) p k,ps[i]?=some p->ks[i]?=some k->qZ h' p k:=λk' i p k hp hk'=>by
   obtain ⟨o,n,t,u,g1,g2,g3⟩:=key i p k hp hk';exact ⟨o,n,t,u,k' _ _ g1,g2,g3⟩
 refine bXB (κ:=tuples' true) (lt:=λi j=>decide (i<j)) pl.isList (λh' k' h2 Q' E' hQ=>?_) (λh' k' i j C hi hj hC=>?_) (by rw [Ab]; exact h64) (λh2=>(bXP (by rw [Ab]; exact h64) h2).1) ?_
 · obtain ⟨fs,f1,f2,f3⟩:=aX3 hl (kk k');rw [Ab] at h2;refine kat_kind (T:=.type "int") f1 (by omega) (λv hv=>?_) (by decide) hQ
   obtain ⟨n,t,rfl⟩:=f3 v hv;exact PySem.W.Looks.of_pure rfl
 · rw [Ab] at hi hj;have e1:=Aa hi
   have e2:=Aa hj
   have e3:=Aa (show i<ks.length by omega)
   have e4:=Aa (show j<ks.length by omega)
   rw [show (ps.map Value.ref).getD i .none=.ref ps[i] by simp [List.getD_eq_getElem?_getD,hi],show (ps.map Value.ref).getD j .none=.ref ps[j] by simp [List.getD_eq_getElem?_getD,hj]]
   refine cJA (kk k' i _ _ e1 e3) (kk k' j _ _ e2 e4) (show X.A.units+1+1<cLine by omega) ?_ hC
   rw [Bp];constructor
   · intro hij;exact Ea.mp pw i j _ _ hij
   · intro hlt;refine Nat.lt_of_not_le λz=>?_;by_cases e:i=j
     · subst e;rcases hlt with z | ⟨_,z⟩ <;> omega
     · have:=Ea.mp pw j i (by omega) (by omega) (by omega)
       rcases this with z1 | ⟨z1,z2⟩ <;> rcases hlt with z3 | ⟨z3,z4⟩ <;> omega
 rw [cZZ (by rw [Ab]; exact h64)]
 have hfr:H (s.heap.objs.size+1)=none:=I.hok.fresh (Gj _)
 refine ⟨.ref (s.heap.objs.size+1),upd H (s.heap.objs.size+1) (.lst (ps.map V.ref)),I.laid (a:=s.heap.objs.size+1) (o:=.lst (ps.map V.ref)) (t':=s.toks) (λb o e=>sortedAll_old e) (Gj _) ?_,rfl,q _ hfr⟩;obtain ⟨c,hc⟩:=sortedAll_at s.heap (ps.map Value.ref) (ps.map Value.ref).toArray;refine ⟨by rw [Ab]; exact De (aV (by omega)),_,c,rv,?_⟩
 rw [hc]
theorem aJ3 {H:Hp} {Q:VK} {a:Addr} {ps:List Addr} {ks:List (Int×Int)} (ha:rdL H a=some (ps.map V.ref)) (hl:ps.length=ks.length) (hk:∀ (i:Nat) p k,ps[i]?=some p->ks[i]?=some k->H p=some (.tup [.int k.1,.int k.2])) (h64:ps.length<64) (pw:ks.Pairwise cZW) (h:∀ r,H r=none->Q (.ref r) (upd H r (.lst (ps.map V.ref)))):xS [.ref a] H Q:=⟨a,ps,ks,rfl,ha,hl,hk,h64,pw,h⟩
end
end L2
set_option maxHeartbeats 1000000
namespace L2
open PySem PySem.Spec PyProof.Rows
section
variable {X:Cx}
end
end L2
set_option maxHeartbeats 1000000
namespace L2
open PySem PySem.Spec PyProof.Rows
def Alt (H:Hp):Nat->V->V->Prop
 | 0,x,y=>x=y/\cA x=true
 | n+1,x,y=>(x=y/\cA x=true)\/∃ p q xs ys,x=.ref p/\y=.ref q/\((rdL H p=some xs/\rdL H q=some ys)\/(H p=some (.tup xs)/\H q=some (.tup ys)))/\xs.length=ys.length/\∀ (j:Nat) x' y',xs[j]?=some x'->ys[j]?=some y'->Alt H n x' y'
theorem Alt.flat {H:Hp} {n:Nat} {x:V} (h:cA x=true):Alt H n x x:=by
 cases n with
 | zero=>exact ⟨rfl,h⟩
 | succ n=>exact .inl ⟨rfl,h⟩
theorem Alt.flats {H:Hp} {n:Nat} {xs:List V} (f:xs.all cA=true):∀ (j:Nat) x y,xs[j]?=some x->xs[j]?=some y->Alt H n x y:=λj x y hx hy=>by
 rw [hx] at hy;cases hy;exact .flat (Cq.mp f x (Ai hx))
theorem Alt.lst {H:Hp} {n:Nat} {p q:Addr} {xs ys:List V} (hp:rdL H p=some xs) (hq:rdL H q=some ys) (hl:xs.length=ys.length) (h:∀ (j:Nat) x y,xs[j]?=some x->ys[j]?=some y->Alt H n x y):Alt H (n+1) (.ref p) (.ref q):=.inr ⟨p,q,xs,ys,rfl,rfl,.inl ⟨hp,hq⟩,hl,h⟩
theorem Alt.tup {H:Hp} {n:Nat} {p q:Addr} {xs ys:List V} (hp:H p=some (.tup xs)) (hq:H q=some (.tup ys)) (hl:xs.length=ys.length) (h:∀ (j:Nat) x y,xs[j]?=some x->ys[j]?=some y->Alt H n x y):Alt H (n+1) (.ref p) (.ref q):=.inr ⟨p,q,xs,ys,rfl,rfl,.inr ⟨hp,hq⟩,hl,h⟩
theorem bJ4 {X:Cx} {pins:Q2} {σ:St} {H:Hp} {s:Shared} (I:Inv X pins σ H s) {n:Nat} {A:Around} (ih:∀ x y u v,Alt H n x y->RelV x u->RelV y v->EqW X.prog X.w A.in1 s u v) {p q:Addr} (h:Alt H (n+1) (.ref p) (.ref q)) (hu:A.units+1<cLine) (E:Q0) (Q:Q0) (k:Q (.bool true) s) :
   wpAny (model X.prog X.w) A (richCompare .Eq (.ref p) (.ref q)) Q E s:=by
 rcases h with ⟨_,f⟩ | ⟨p',q',xs,ys,e1,e2,hpq,hl,h⟩
 · cases f
 cases e1;cases e2;have key:∀ {its its2:List Value},Vals xs its->Vals ys its2->its.toArray.size=its2.toArray.size/\∀ j (h1:j<its.toArray.size) (h2:j<its2.toArray.size),EqW X.prog X.w A.in1 s its.toArray[j] its2.toArray[j]:=fun {its its2} r1 r2=>by
   have e1:=r1.length
   have e2:=r2.length
   refine ⟨by simp only [List.size_toArray]; omega,λj h1 h2=>?_⟩
   have h1':j<its.length:=by simpa using h1
   have h2':j<its2.length:=by simpa using h2
   obtain ⟨u',hu',ru'⟩:=r1.get (Aa (show j<xs.length by omega))
   obtain ⟨v',hv',rv'⟩:=r2.get (Aa (show j<ys.length by omega))
   rw [Aa h1'] at hu';rw [Aa h2'] at hv';cases hu';cases hv'
   simpa using ih _ _ _ _ (h j _ _ (List.getElem?_eq_getElem _) (List.getElem?_eq_getElem _)) ru' rv'
 rcases hpq with ⟨hp,hq⟩ | ⟨hp,hq⟩
 · obtain ⟨its,r1,l1,_⟩:=I.list (aR hp);obtain ⟨its2,r2,l2,_⟩:=I.list (aR hq);obtain ⟨hs,he⟩:=key r1 r2;exact aQ4 l1.isList l2.isList hs (by omega) he k
 · obtain ⟨its,r1,l1,_⟩:=I.tuple (SqT.of hp);obtain ⟨its2,r2,l2,_⟩:=I.tuple (SqT.of hq);obtain ⟨hs,he⟩:=key r1 r2;obtain ⟨⟨cls,dd,data,sl⟩,ho,hc,m,hd⟩:=id l1;obtain ⟨⟨cls2,dd2,data2,sl2⟩,ho2,hc2,m2,hd2⟩:=id l2;obtain rfl:cls=.type "tuple" := hc;obtain rfl:data=.seq its.toArray m:=hd;obtain rfl:cls2=.type "tuple" := hc2;obtain rfl:data2=.seq its2.toArray m2:=hd2;exact Dt (op:=.Eq) ⟨_,ho,rfl⟩ ⟨_,ho2,rfl⟩ PySem.F.slot_tuple_eq (Fg PySem.F.slot_tuple_eq ⟨_,ho,rfl⟩ PySem.F.entry_tuple_eq (PySem.F.args_tuple_eq_2 _ _) (cJE _ _ its.toArray its2.toArray m m2 dd dd2 sl sl2 hs)
     ⟨ho,ho2,he,show Value.bool true≠Value.notImplemented/\_ from ⟨(λx=>nomatch x),k⟩⟩) (by omega)
theorem dZP {X:Cx} {pins:Q2} {σ:St} {H:Hp} {s:Shared} (I:Inv X pins σ H s):∀ (n:Nat) (A:Around) (x y:V) (u v:Value),Alt H n x y->RelV x u->RelV y v->A.units+n+1<cLine->EqW X.prog X.w A s u v:=by
 intro n;induction n with
 | zero=>
   intro A x y u v h ru rv hu;obtain ⟨rfl,f⟩:=h;have:=jL (A:=A) (s:=s) ru rv f f
   rw [gS f] at this;exact λE Q hq=>this X.prog X.w E Q hq
 | succ n ih=>
   intro A x y u v h ru rv hu;rcases id h with ⟨rfl,f⟩ | ⟨p,q,xs,ys,rfl,rfl,hpq⟩
   · have:=jL (A:=A) (s:=s) ru rv f f
     rw [gS f] at this;exact λE Q hq=>this X.prog X.w E Q hq
   · cases ru;cases rv;by_cases e:p=q
     · subst e;exact .same _
     exact .refs e λE Q hq=>bJ4 I (λx y u v hx hu' hv'=>ih A.in1 x y u v hx hu' hv' (by show A.units+1+n+1<cLine; omega)) h (by omega) E Q hq
section
variable {X:Cx}
def cJT:R2:=λx y H Q=>∃ n p q,n<=50/\x=.ref p/\y=.ref q/\Alt H (n+1) x y/\Q (.bl true) H
theorem dXU (hu:X.A.units+64<cLine):OpR X (compareOp .Eq) cJT:=by
 intro pins s σ H x y v u Q I rx ry h;obtain ⟨n,p,q,hn,rfl,rfl,al,k⟩:=h;cases rx;cases ry;exact bJ4 I (λx y u v hx hu' hv'=>dZP I n X.A.in1 x y u v hx hu' hv' (by show X.A.units+1+n+1<cLine; omega)) al (by omega) _ _ ⟨.bl true,H,I,rfl,k⟩
theorem eQQ {p q:Addr} {H:Hp} {Q:VK} (n:Nat) (al:Alt H (n+1) (.ref p) (.ref q)) (h:Q (.bl true) H) (hn:n<=50:=by omega):cJT (.ref p) (.ref q) H Q:=⟨n,p,q,hn,rfl,rfl,al,h⟩
end
end L2
namespace Mine
open PySem L2
local macro_rules | `(tactic| walk_at "rd") => `(tactic| first | assumption | exact cZ | exact nJ | exact nZ | exact aL (by assumption) | exact bF (by assumption) | (apply aH (aF (by assumption) _); walk_at "rd"))
local macro_rules | `(tactic| walk_at "dd") => `(tactic| first | exact nI (by assumption) | exact bJG (by assumption) | exact nI aD | assumption)
local macro_rules | `(tactic| walk_at "lo") => `(tactic| first | assumption | decide | omega | (simp only [List.length_map,List.length_append,List.length_cons,List.length_nil,Str.length_append]; omega))
local macro_rules | `(tactic| walk_at "ln") => `(tactic| first | assumption | decide | exact bP (by walk_at "lo") | exact aV (by walk_at "lo"))
local macro_rules | `(tactic| walk_at "ar") => `(tactic| first | assumption | decide | omega | exact ⟨by omega,by omega⟩ | exact Or.inl ⟨by omega,by omega⟩ | exact Or.inr ⟨by omega,by omega⟩ | (dsimp only; done) | (dsimp only; omega))
local macro_rules | `(tactic| walk_at "s") => `(tactic| first
 | (with_reducible first | refine eQE ?_ | refine dZO ?_ | refine eZO ?_ | refine eXU ?_ | refine dXA ?_ | refine eXK ?_ | refine eXP ?_ | refine pD ?_ | refine dXX ?_)
 | ((with_reducible refine' eQJ ?sv ?_); (case sv => exact rfl))
 | (with_reducible first | refine s_c ?_ | refine eZB ?_ | refine eZF ?_ | refine eQC ?_ | refine dXH ?_ | refine dJJ ?_ | refine eZN ?_ | refine eZP ?_ | refine bJU ?_ | refine dJK ?_ | refine dQV ?_ | refine eXX ?_)
 | ((with_reducible refine' dJ8 ?se ?_); (case se => walk_at "rd"))
 | (with_reducible first | refine dX5 ?_ | refine cZN ?_ | refine eX8 ?_ | refine dJF ?_ | refine eXS ?_ | refine eZK ?_ | refine dJQ ?_ | refine dZW ?_ | refine eXF ?_ | refine eZE ?_)
 | ((with_reducible refine eXV ?sc ?_); (case sc => walk_at "ar"))
 | with_reducible refine dX2 ?_
 | ((with_reducible refine dZS ?sc ?_); (case sc => walk_at "ln"))
 | (with_reducible first | refine eQ7 ?_ | refine eQH ?_ | refine eQS ?_ | refine eXN ?_ | refine dZ6 ?_ | refine dJR ?_)
 | ((with_reducible refine' eX1 ?sc ?_); (case sc => walk_at "rd"))
 | ((with_reducible refine dXO ?sc ?_); (case sc => walk_at "ln"))
 | ((with_reducible refine' dQ8 ?sc ?_); (case sc => walk_at "rd"))
 | (with_reducible first | refine eQN ?_ | refine eQM ?_)
 | ((with_reducible refine' dXC ?sc ?_); (case sc => walk_at "rd"))
 | ((with_reducible refine' eQ2 ?se ?se2 ?_); (case se => first | exact rfl | exact aZR (by assumption) | exact tyN_dK (by assumption) | exact cZR (by assumption) | exact aZR aD | exact tyN_dK aD); (case se2 => first | exact (show bQR _ _ = some true from rfl) | exact (show bQR _ _ = some false from rfl) | exact rfl))
 | (with_reducible first | refine dZA ?_ | refine cZB ?_ | refine cXJ ?_ | refine cXK ?_ | refine cZE ?_ | refine cJD ?_ | refine dZX ?_ | refine dXY ?_ | refine cQD ?_)
 | ((with_reducible refine' dJV ?se ?_); (case se => walk_at "rd"))
 | ((with_reducible refine' dJT ?se ?sl ?_); (case se => walk_at "rd"); (case sl => walk_at "ln"))
 | with_reducible refine cXD ?_
 | ((with_reducible refine' cJZ ?se ?sf ?sl ?_); (case se => walk_at "rd"); (case sf => walk_at "rd"); (case sl => walk_at "ln"))
 | ((with_reducible refine' cXR ?se ?_); (case se => walk_at "rd"))
 | (with_reducible first | refine cXS ?_ | refine bJF ?_ | refine dXD ?_ | refine dQQ ?_ | refine dZ0 ?_ | refine cZG ?_ | refine dJI ?_)
 | ((with_reducible refine' dXS ?se ?sn ?_); (case se => walk_at "rd"); (case sn => exact rfl))
 | (with_reducible first | refine dJW ?_ | refine eQL ?_ | refine cXF ?_ | refine dZD ?_ | refine cX8 ?_ | refine cZL ?_ | refine eXB ?_ | refine dJA ?_ | refine cXZ ?_)
 | ((with_reducible refine eXW ?sd ?_); (case sd => walk_at "dd"))
 | (with_reducible first | refine dQP ?_ | refine eXZ ?_ | refine dJM ?_ | refine cQ5 ?_ | refine bZ4 ?_ | refine cZQ ?_ | refine dJG ?_ | refine dJ9 ?_)
 | ((with_reducible refine' dZI ?se ?sn ?_); (case se => walk_at "rd"); (case sn => exact rfl))
 | (with_reducible first | refine cZH ?_ | refine dQW ?_ | refine dQ5 ?_ | refine cQN ?_ | refine eQ5 ?_ | refine dXM ?_ | refine dJY ?_ | refine eZH ?_ | refine eZG ?_ | refine eQP ?_ | refine dJ5 ?_)
 | dsimp only)
local macro_rules | `(tactic| walk_at "go") => `(tactic| repeat' (walk_at "s"))
local macro_rules | `(tactic| walk_at "sc") => `(tactic| exact ⟨rfl,rfl,rfl,by decide +kernel,rfl,by decide +kernel,by decide +kernel⟩)
local macro_rules | `(tactic| walk_at "o") => `(tactic| first | exact Or.inl rfl | exact Or.inr rfl)
def top (i:Nat):Stmt:=PySem.Challenge.pw_flaglocker_k27_fewest_lowered.main.body.getD i (.Pass ⟨0,0,0,0⟩)
abbrev jA:Stmt:=top 39
abbrev fS:Stmt:=top 40
abbrev eZ:Stmt:=top 43
abbrev gO:Stmt:=top 46
abbrev iR:Stmt:=top 41
abbrev dP:Stmt:=top 47
abbrev fQ:Stmt:=top 42
abbrev fT:Stmt:=top 48
abbrev cX:Stmt:=top 15
abbrev iY:Stmt:=top 17
abbrev cO:Stmt:=top 29
abbrev gQ:Stmt:=top 33
abbrev eV:Stmt:=cJR (top 4) 0
abbrev cS:Stmt:=top 31
abbrev eM:Stmt:=top 20
abbrev dC:Stmt:=top 19
abbrev dO:Stmt:=top 23
abbrev fA:Stmt:=top 21
abbrev dI:Stmt:=top 24
abbrev dQ:Stmt:=top 25
abbrev cR:Stmt:=top 26
abbrev gM:Stmt:=top 27
abbrev fZ:Stmt:=top 32
abbrev gR:Stmt:=top 9
abbrev eY:Stmt:=top 11
abbrev fV:Stmt:=top 12
abbrev gN:Stmt:=top 13
abbrev dD:Stmt:=top 34
abbrev eU:Stmt:=top 35
abbrev dS:Stmt:=cJR (top 3) 0
abbrev kS:Stmt:=top 16
abbrev iN:Stmt:=top 36
abbrev kP:Stmt:=top 57
abbrev cN:Stmt:=top 37
abbrev eW:Stmt:=top 53
abbrev eX:Stmt:=top 54
abbrev eP:Stmt:=top 52
abbrev iO:Stmt:=top 50
abbrev cT:Stmt:=top 45
abbrev iQ:Stmt:=top 49
abbrev fR:Stmt:=top 51
abbrev dH:Stmt:=top 55
abbrev iP:Stmt:=top 56
abbrev mZ:Stmt:=top 58
structure Gs (K:PySem.W.Frag) (mg:Str->Option Value) (Zw Zz Zx Zy:Addr):Prop where
 c_Lack:mg "Lack"=some (.ref Zw)
 c_TowerError:mg "TowerError"=some (.ref Zz)
 c_Short:mg "Short"=some (.ref Zx)
 c_NoHoist:mg "NoHoist"=some (.ref Zy)
 m_Lack:PySem.W.exmOne K (.ref Zw) (.ref Zw)=some true
 x_NoHoist:PySem.W.excIn K Zy [.type "ValueError",.type "Exception",.type "BaseException",.type "object"] "ValueError.__new__"=true
 m_Short:PySem.W.exmOne K (.ref Zx) (.ref Zx)=some true
 t1_TowerError:PySem.W.specialIn K (.ref Zz) "__getattribute__"=some (some (.builtin "type.__getattribute__"))
 t2_TowerError:PySem.W.readsIn K Zz (.type "type")=true
 t3_TowerError:PySem.W.findCls K (.ref Zz) (.type "type") "__init__"=some (.val (.builtin "ValueError.__init__"))
 xo_Lack:uI K Zw [.type "ValueError",.type "Exception",.type "BaseException",.type "object"] "ValueError.__new__"=true
 xk_Lack:PySem.W.keepIn K (.ref Zw)=true
 xe1_Lack:PySem.W.hasDictIn K Zw=true
 xe2_Lack:PySem.W.findIn K (.ref Zw) "__getattribute__"=some (some (.builtin "BaseException.__getattribute__"))
 xe3_Lack:PySem.W.findIn K (.ref Zw) "__getattr__"=some none
 xe4_Lack:PySem.W.findIn K (.ref Zw) "__class__"=some (some (.builtin "object.__class__"))
 xe5_Lack:PySem.W.specialIn K (.builtin "object.__class__") "__get__"=some (some (.builtin "getset_descriptor.__get__"))
 xe6_Lack:PySem.W.takesIn K (.builtin "object.__class__")=some true
 xe7_Lack:PySem.W.mroIn K Zw (.type "object")=some true
 xe8_Lack:PySem.W.subIn K (.ref Zw) (.type "BaseException")=some true
 xs_Lack:PySem.W.findIn K (.ref Zw) "__setattr__"=some (some (.builtin "object.__setattr__"))
 xr_Lack:bXM K Zw Zz=true
 xv_Lack:PySem.W.subIn K (.ref Zw) (.type "ValueError")=some true
 xn_Lack_wants:PySem.W.findIn K (.ref Zw) "wants"=some none
 xn_Lack_flags:PySem.W.findIn K (.ref Zw) "flags"=some none
 xo_Short:uI K Zx [.type "ValueError",.type "Exception",.type "BaseException",.type "object"] "ValueError.__new__"=true
 xk_Short:PySem.W.keepIn K (.ref Zx)=true
 xe1_Short:PySem.W.hasDictIn K Zx=true
 xe2_Short:PySem.W.findIn K (.ref Zx) "__getattribute__"=some (some (.builtin "BaseException.__getattribute__"))
 xe3_Short:PySem.W.findIn K (.ref Zx) "__getattr__"=some none
 xe4_Short:PySem.W.findIn K (.ref Zx) "__class__"=some (some (.builtin "object.__class__"))
 xe5_Short:PySem.W.specialIn K (.builtin "object.__class__") "__get__"=some (some (.builtin "getset_descriptor.__get__"))
 xe6_Short:PySem.W.takesIn K (.builtin "object.__class__")=some true
 xe7_Short:PySem.W.mroIn K Zx (.type "object")=some true
 xe8_Short:PySem.W.subIn K (.ref Zx) (.type "BaseException")=some true
 xs_Short:PySem.W.findIn K (.ref Zx) "__setattr__"=some (some (.builtin "object.__setattr__"))
 xr_Short:bXM K Zx Zz=true
 xv_Short:PySem.W.subIn K (.ref Zx) (.type "ValueError")=some true
 xn_Short_flag:PySem.W.findIn K (.ref Zx) "flag"=some none
 b_len:mg "len"=none
 b_range:mg "range"=none
 b_min:mg "min"=none
 b_list:mg "list"=none
 b_max:mg "max"=none
 b_enumerate:mg "enumerate"=none
 b_int:mg "int"=none
 b_all:mg "all"=none
 b_zip:mg "zip"=none
 b_sorted:mg "sorted"=none
 b_dict:mg "dict"=none
 b_sum:mg "sum"=none
 b_set:mg "set"=none
 b_isinstance:mg "isinstance"=none
 b_tuple:mg "tuple"=none
 b_bool:mg "bool"=none
 s_FLAGS:∃ t,mg "FLAGS"=some (.str "abcdefghijklmnopqrstuvw1234" t)
 s_SUBSTITUTES:∃ t,mg "SUBSTITUTES"=some (.str "1234" t)
 s_MOST_PLACES:∃ t,mg "MOST_PLACES"=some (.int 7 t)
theorem Gs.xx_Lack {K:PySem.W.Frag} {mg:Q4} {Zw Zz Zx Zy:Addr} (G:Gs K mg Zw Zz Zx Zy):ExK K Zw:=⟨G.xe1_Lack,G.xe2_Lack,G.xe3_Lack,G.xe4_Lack,G.xe5_Lack,G.xe6_Lack,G.xe7_Lack,G.xe8_Lack⟩
theorem Gs.xc_Lack {K:PySem.W.Frag} {mg:Q4} {Zw Zz Zx Zy:Addr} (G:Gs K mg Zw Zz Zx Zy):XcK K Zw Zz:=⟨G.xx_Lack,G.xs_Lack,aZD G.xr_Lack,G.xv_Lack⟩
theorem Gs.xm_Lack {K:PySem.W.Frag} {mg:Q4} {Zw Zz Zx Zy:Addr} (G:Gs K mg Zw Zz Zx Zy):XmK K Zw:=⟨G.xo_Lack,G.xk_Lack⟩
theorem Gs.xx_Short {K:PySem.W.Frag} {mg:Q4} {Zw Zz Zx Zy:Addr} (G:Gs K mg Zw Zz Zx Zy):ExK K Zx:=⟨G.xe1_Short,G.xe2_Short,G.xe3_Short,G.xe4_Short,G.xe5_Short,G.xe6_Short,G.xe7_Short,G.xe8_Short⟩
theorem Gs.xc_Short {K:PySem.W.Frag} {mg:Q4} {Zw Zz Zx Zy:Addr} (G:Gs K mg Zw Zz Zx Zy):XcK K Zx Zz:=⟨G.xx_Short,G.xs_Short,aZD G.xr_Short,G.xv_Short⟩
theorem Gs.xm_Short {K:PySem.W.Frag} {mg:Q4} {Zw Zz Zx Zy:Addr} (G:Gs K mg Zw Zz Zx Zy):XmK K Zx:=⟨G.xo_Short,G.xk_Short⟩
abbrev lettersT:Str := "abcdefghijklmnopqrstuvw"
abbrev subsT:Str := "1234"
abbrev flagsT:Str := "abcdefghijklmnopqrstuvw1234"
abbrev one (c:Nat):Str:=⟨#[c]⟩
theorem zQ:subsT.cps.toList=[49,50,51,52]:=by decide
theorem xG:flagsT.cps.toList=lettersT.cps.toList++subsT.cps.toList:=by decide
def bQ (c:Nat):Prop:=97<=c/\c<=119
def dL (c:Nat):Prop:=49<=c/\c<=52
instance (c:Nat):Decidable (bQ c):=inferInstanceAs (Decidable (_/\_))
instance (c:Nat):Decidable (dL c):=inferInstanceAs (Decidable (_/\_))
theorem xN {c:Nat}:c∈lettersT.cps.toList ↔ bQ c:=by
 have h1:∀ c∈lettersT.cps.toList,bQ c:=by decide +kernel
 have h2:∀ k:_root_.Fin 23,97+k.val∈lettersT.cps.toList:=by decide +kernel
 refine ⟨h1 c,λh=>?_⟩;have e:=h2 ⟨c - 97,by have:=h.1; have:=h.2; omega⟩
 rwa [show 97+(c - 97)=c by have:=h.1; omega] at e
theorem mem_subs {c:Nat}:c∈subsT.cps.toList ↔ dL c:=by
 have h1:∀ c∈subsT.cps.toList,dL c:=by decide +kernel
 have h2:∀ k:_root_.Fin 4,49+k.val∈subsT.cps.toList:=by decide +kernel
 refine ⟨h1 c,λh=>?_⟩;have e:=h2 ⟨c - 49,by have:=h.1; have:=h.2; omega⟩
 rwa [show 49+(c - 49)=c by have:=h.1; omega] at e
theorem tT {c:Nat}:c∈flagsT.cps.toList ↔ bQ c\/dL c:=by
 rw [xG,Bk,xN,mem_subs]
theorem iC {c:Nat} (h:bQ c):¬ dL c:=λz=>by unfold bQ at h; unfold dL at z; omega
theorem lN (c:Nat):subIn (one c) subsT=decide (dL c):=by
 rw [tV];exact Dr.mpr mem_subs
theorem pN {z:Str} (h:z.length=1):∃ c,z=one c:=by
 obtain ⟨⟨l⟩⟩:=z
 match l,h with
 | [c],_=>exact ⟨c,rfl⟩
def jP (z:Str):Bool:=if z.length=1 then subIn z flagsT else false
theorem oE {z:Str} (h:z.length≠1):jP z=false:=if_neg h
theorem rF {c:Nat}:jP (one c)=decide (bQ c\/dL c):=by
 unfold jP;rw [if_pos (by rfl),tV]
 exact Dr.mpr tT
theorem aJC {z:Str} (h:jP z=true):∃ c,z=one c/\(bQ c\/dL c):=by
 by_cases h1:z.length=1
 · obtain ⟨c,rfl⟩:=pN h1;rw [rF] at h;exact ⟨c,rfl,Bg h⟩
 · rw [oE h1] at h;cases h
def kH (c:Nat) (p:Int):Prop:=bQ c\/(dL c/\(c:Int) - 48<p)
instance (c:Nat) (p:Int):Decidable (kH c p):=inferInstanceAs (Decidable (_\/_))
def dJ (z:Str) (p:Int):Bool:=if z.length=1 then decide (kH (z.cps.toList.headD 0) p) else false
theorem mQ {c:Nat} {p:Int}:dJ (one c) p=decide (kH c p):=rfl
theorem rN {z:Str} {p:Int} (h:dJ z p=true):∃ c,z=one c/\kH c p:=by
 by_cases h1:z.length=1
 · obtain ⟨c,rfl⟩:=pN h1;exact ⟨c,rfl,Bg h⟩
 · unfold dJ at h;rw [if_neg h1] at h;cases h
def cK (zs:List Str):Bool:=if zs.length<1\/7<zs.length then false else (List.range zs.length).all λi=>dJ (zs.getD i ⟨#[]⟩) ((1+i:Nat):Int)
theorem fU {zs:List Str} (h:cK zs=true):1<=zs.length/\zs.length<=7:=by
 unfold cK at h;split at h
 · cases h
 · omega
theorem bJ7 {zs:List Str} (h:cK zs=true) {i:Nat} (hi:i<zs.length):dJ (zs.getD i ⟨#[]⟩) ((1+i:Nat):Int)=true:=by
 unfold cK at h;split at h
 · cases h
 · exact Cq.mp h i (Bm.mpr hi)
def stp (w:List Nat) (c:Nat):Nat:=if dL c then w.getD (c - 49) 0 else c
def rdC (fs:List Nat):List Nat:=fs.foldl (λw c=>w++[stp w c]) []
theorem cQY (fs:List Nat) (c:Nat):rdC (fs++[c])=rdC fs++[stp (rdC fs) c]:=by
 unfold rdC;rw [Fq];rfl
theorem nA {fs:List Nat} {i c:Nat} (h:fs[i]?=some c):rdC (fs.take (i+1))=rdC (fs.take i)++[stp (rdC (fs.take i)) c]:=by
 rw [Ba,h];exact cQY _ _
theorem uG:∀ fs:List Nat,(rdC fs).length=fs.length:=by
 intro fs;have h:∀ i,i<=fs.length->(rdC (fs.take i)).length=i:=by
   intro i;induction i with
   | zero=>intro _; rfl
   | succ i ih=>
     intro hi;rw [nA (Aa (by omega)),Aj,ih (by omega)]
     rfl
 have q:=h fs.length (Ah _)
 rwa [Bl] at q
theorem jJ {fs:List Nat} {i:Nat} (h:i<=fs.length):(rdC (fs.take i)).length=i:=by
 rw [uG,Bs]; omega
def bC (cs:List Nat):Str:=⟨cs.toArray⟩
theorem fH (cs:List Nat):(bC cs).length=cs.length:=by show cs.toArray.size=_; simp
theorem nM (cs:List Nat):(bC cs).cps.toList=cs:=rfl
theorem jB (cs:List Nat) (c:Nat):bC cs++one c=bC (cs++[c]):=FlT.str_ext (by rw [FlT.app_cps]; rfl)
def lG (z:Str):Nat:=z.cps.toList.headD 0
theorem bQ0 (cs:List Nat):(cs.map one).map lG=cs:=by
 rw [By];exact List.map_id cs
theorem lU {zs:List Str} (h:cK zs=true) {i:Nat} {z:Str} (hz:zs[i]?=some z):∃ c,z=one c/\(zs.map lG)[i]?=some c/\(bQ c\/(dL c/\c - 49<i)):=by
 have hi:i<zs.length:=(Ae.mp hz).1
 have q:=bJ7 h hi
 rw [Ac,hz] at q;obtain ⟨c,e,st⟩:=rN q;have e':z=one c:=e
 refine ⟨c,e',by rw [Ag,hz,e']; rfl,?_⟩
 rcases st with l | ⟨s,l⟩
 · exact .inl l
 · refine .inr ⟨s,?_⟩;unfold dL at s;omega
def bX7 (zs:List Str):Str:=bC (rdC (zs.map lG))
theorem aZP {α β:Type} (f:α->β):∀ l:List α,l.filterMap (λx=>some (f x))=l.map f
 | []=>rfl
 | x::r=>by rw [Dm (f:=λx=>some (f x)) (b:=f x) rfl,Au,aZP f r]
theorem mY {α β:Type} {f g:α->Option β}:∀ {l:List α},(∀ x∈l,f x=g x)->l.filterMap f=l.filterMap g
 | [],_=>rfl
 | x::r,h=>by rw [Dx,Dx,h x As,mY λy hy=>h y (Ao _ hy)]
theorem sJ {β:Type} {F:Nat->Option β} {i:Nat} {b:β} (h:F i=some b):(List.range (i+1)).filterMap F=(List.range i).filterMap F++[b]:=by
 rw [Ci,Cj,Dm h,Do]
theorem sI {β:Type} {F:Nat->Option β} {i:Nat} (h:F i=none):(List.range (i+1)).filterMap F=(List.range i).filterMap F:=by
 rw [Ci,Cj,Ed h,Do,Br]
theorem one_inj {a b:Nat}:one a=one b ↔ a=b:=⟨λh=>by injection h with h; injection h with h; injection h,λh=>by rw [h]⟩
theorem vY (a b:Nat):decide (one a=one b)=decide (a=b):=Dr.mpr one_inj
theorem cZ7 {cw:List Nat} {k:Nat} (h:k<cw.length):atI (bC cw).cps.toList ((k:Nat):Int)=some (cw.getD k 0):=by
 refine eI ?_;rw [nM,Ac,Aa h];rfl
theorem aZI {k:Nat} (h:k<23):atI lettersT.cps.toList ((k:Nat):Int)=some (97+k):=by
 refine eI ?_;have q:∀ k:_root_.Fin 23,lettersT.cps.toList[k.val]?=some (97+k.val):=by decide +kernel
 exact q ⟨k,h⟩
theorem aZW {k:Nat} (h:k<4):atI subsT.cps.toList ((k:Nat):Int)=some (49+k):=by
 refine eI ?_;have q:∀ k:_root_.Fin 4,subsT.cps.toList[k.val]?=some (49+k.val):=by decide +kernel
 exact q ⟨k,h⟩
theorem bZY (cs:List Nat):∀ z∈cs.map one,z.length<=1000:=λz hz=>by
 obtain ⟨c,_,rfl⟩:=Be.mp hz;show 1<=1000
 decide
theorem fG {ns:List Int} {i:Int} (h0:0<=i) (h:i<ns.length):∃ n,n∈ns/\atI (ns.map V.int) i=some (.int n):=by
 obtain ⟨v,h1,h2⟩:=bXC (xs:=ns.map V.int) (i:=i) h0 (by rw [Ab]; exact h)
 rw [Ag,Aa (by omega)] at h2
 cases h2;exact ⟨_,Bv _,h1⟩
theorem aQY {ns:List Int} {j:Nat} {x:V} (h:(ns.map V.int)[j]?=some x):∃ n,n∈ns/\x=V.int n:=by
 obtain ⟨n,hn,e⟩:=Be.mp (Ai h);exact ⟨n,hn,e.symm⟩
theorem lS {ns:List Str} {j:Nat} {x:V} (h:(ns.map V.str)[j]?=some x):∃ n,ns[j]?=some n/\x=V.str n:=by
 rw [Ag] at h;cases e:ns[j]? with
 | none=>rw [e] at h; cases h
 | some n=>rw [e] at h; cases h; exact ⟨n,rfl,rfl⟩
theorem pB {c:Nat} (h:dL c):PySem.intText? (one c)=some ((c:Int) - 48):=by
 unfold dL at h;have:c=49\/c=50\/c=51\/c=52:=by omega
 rcases this with rfl | rfl | rfl | rfl <;> decide +kernel
theorem dA (zs:List Str):(zs.map V.str).all cA=true:=by
 rw [Cq];intro x hx;obtain ⟨z,_,rfl⟩:=Be.mp hx;rfl
theorem bXF {fs:List Nat} (h1:1<=fs.length) (h7:fs.length<=7) (h:∀ k,k<fs.length->kH (fs.getD k 0) ((1+k:Nat):Int)):cK (fs.map one)=true:=by
 unfold cK;rw [Ab,if_neg (by omega),Cq]
 intro i hi;have hi':=Bm.mp hi
 rw [Ac,Ag,Aa hi'];have q:=h i hi'
 rw [Ac,Aa hi'] at q;exact An q
def chF (cw:List Nat) (k n:Nat):Option Nat:=if cw.getD n 0=cw.getD k 0 then some (49+n) else none
def chs (cw:List Nat) (k:Nat):List Nat:=cw.getD k 0::(List.range (min k 4)).filterMap (chF cw k)
theorem ch_iff {cw:List Nat} {k c:Nat}:c∈chs cw k ↔ c=cw.getD k 0\/∃ n,n<k/\n<4/\cw.getD n 0=cw.getD k 0/\c=49+n:=by
 unfold chs;rw [Bd,Dn];constructor
 · rintro (h | ⟨n,hn,h⟩)
   · exact .inl h
   · have:=Bm.mp hn
     unfold chF at h;split at h
     · cases h;exact .inr ⟨n,by omega,by omega,by assumption,rfl⟩
     · cases h
 · rintro (h | ⟨n,h1,h2,h3,rfl⟩)
   · exact .inl h
   · exact .inr ⟨n,Bm.mpr (by omega),if_pos h3⟩
theorem cQ3 (cw:List Nat) (k:Nat):1<=(chs cw k).length/\(chs cw k).length<=5:=by
 unfold chs;have:=Dj (chF cw k) (List.range (min k 4))
 rw [Bz] at this;rw [Bb];omega
theorem bJZ {cw:List Nat} {k c:Nat} (hL:bQ (cw.getD k 0)) (h:c∈chs cw k):kH c ((1+k:Nat):Int):=by
 rcases ch_iff.mp h with rfl | ⟨n,h1,h2,_,rfl⟩
 · exact .inl hL
 · exact .inr ⟨⟨by omega,by omega⟩,by omega⟩
theorem xK {cw:List Nat} (hL:∀ d∈cw,bQ d) {k:Nat} (hk:k<cw.length):bQ (cw.getD k 0):=by
 rw [Ac,Aa hk];exact hL _ (Bv hk)
theorem xO {cw fs:List Nat} (hL:∀ d∈cw,bQ d) (h1:1<=fs.length) (h7:fs.length<=7) (hl:fs.length<=cw.length) (h:∀ k,k<fs.length->fs.getD k 0∈chs cw k):cK (fs.map one)=true :=
 bXF h1 h7 λk hk=>bJZ (xK hL (by omega)) (h k hk)
theorem wR {c:Nat} {cs:List Nat}:inV (.str (one c)) ((cs.map one).map V.str)=decide (c∈cs):=by
 induction cs with
 | nil=>rfl
 | cons d r ih=>
   rw [Au,Au];show ((one d == one c) || inV (.str (one c)) ((r.map one).map V.str))=_
   rw [ih,<-uN];by_cases h:c=d
   · subst h;rw [An rfl,Bool.true_or,An As]
   · rw [Am (λz=>by injection z with z; exact h (one_inj.mp z).symm),Fl]
     exact Dr.mpr ⟨λz=>Ao _ z,λz=>(Bd.mp z).resolve_left h⟩
def wD (K:PySem.W.Frag):Sp:=λvs H Q _=>∃ (a:Addr) (ns:List Int),vs=[.ref a]/\SqL K H a (ns.map V.int)/\ns.length<=63/\∀ H',Q (.bl true) H'
def qH:Sp:=λvs H Q _=>∃ z,vs=[.str z]/\z.length<=1000/\Q (.bl (jP z)) H
def mT:Sp:=λvs H Q _=>∃ z p,vs=[.str z,.int p]/\z.length<=1000/\Q (.bl (dJ z p)) H
def oK:Sp:=λvs H Q _=>∃ a zs,vs=[.ref a]/\rdL H a=some (zs.map V.str)/\zs.length<=1000/\(∀ z∈zs,z.length<=1000)/\∀ H',Same H H'->Q (.bl (cK zs)) H'
def qO (aN:Addr):Sp:=λvs H Q E=>∃ a zs,vs=[.ref a]/\rdL H a=some (zs.map V.str)/\zs.length<=1000/\(∀ z∈zs,z.length<=1000)/\(cK zs=true->∀ H',Same H H'->Q (.str (bX7 zs)) H')/\(cK zs=false->∀ H',Same H H'->E (.ref aN) none H')
theorem mE {cw:List Nat} {k:Nat} {j:Int} (e:j=(k:Int)) (h:k<cw.length):atI (bC cw).cps.toList j=some (cw.getD k 0):=by
 rw [e];exact cZ7 h
theorem gD {H:Hp} {Q:VK} {p:Addr} {xs:List V} {i:Int} {v:V} (e:H p=some (.tup xs)) (e':atI xs i=some v) (h:Q v H):mIx (.ref p) (.int i) H Q:=by
 have e1:rdL H p=none:=by unfold rdL; rw [e]; rfl
 unfold mIx;simp only [e1,kY e,e'];exact h
section
variable {P:Program} {w:World} {K:PySem.W.Frag} {mg:Q4} {base:Heap}
def iK (aC:Addr):Sp:=λvs H Q _=>∃ ea v,vs=[.ref ea,v]/\H ea=some (fM ea aC none)/\∀ dx,H dx=none->Q .non (upd (upd H ea (fM ea aC (some dx))) dx (xdO dx [("flag",v)]))
theorem rX:FnScope ["self", "flag"] ["self", "flag"] (aG dS):=by walk_at "sc"
theorem sE {Zw Zz Zx Zy:Addr} {f:Addr} {fd:FuncData} (F:Fun K "__init__" "Short.__init__" dS f fd) (G:Gs K mg Zw Zz Zx Zy)  : FnOk P w K mg base CX0 1 f fd ["self", "flag"] (iK Zx):=by
 refine F.ok rX (λvs H Q E h=>?_) (λcdv A outer s H vs Q E hr h=>?_)
 · obtain ⟨ea,v,rfl,_⟩:=h; rfl
 obtain ⟨ea,v,rfl,he,q⟩:=h;refine ⟨_,(@aE _ _ _ _ _ (cG (yC rfl G.c_TowerError G.t1_TowerError G.t2_TowerError G.t3_TowerError (aA (mv 0) (aA (mv 1) aB)))) (@aI _ _ _ (vO (mv 0) (mv 1) rfl))),?_⟩;walk_at "go";refine ⟨ea,[v],Zx,Zz,none,rfl,by show 1<=sizeLine; decide,he,(λ_ z=>nomatch z),G.xc_Short,?_⟩
 walk_at "go";exact ⟨ea,Zx,Zz,rfl,G.xc_Short,G.xn_Short_flag,.inl ⟨he,q⟩⟩
theorem bZV {H H1:Hp} {ea dx:Addr} {o o' o'':HO} (s:Same H H1) (h1:H1 ea=none) (h2:upd H1 ea o dx=none):Same H (del (upd (upd (upd H1 ea o) ea o') dx o'') ea):=λb u e=>by
 have e1:=s b u e
 have n1:b≠ea:=bL e1 h1
 have n3:dx≠ea:=λz=>by rw [z,aD] at h2; cases h2
 have n2:b≠dx:=λz=>by rw [<-z,aK n1,e1] at h2; cases h2
 rw [dX n1,aK n2,aK n1,aK n1];exact e1
theorem bJN {H1:Hp} {ea dx:Addr} {o o' o'':HO} (h2:upd H1 ea o dx=none):upd (upd (upd H1 ea o) ea o') dx o'' ea=some o'/\del (upd (upd (upd H1 ea o) ea o') dx o'') ea dx=some o'':=by
 have n3:dx≠ea:=λz=>by rw [z,aD] at h2; cases h2
 exact ⟨by rw [aK n3.symm,aD],by rw [dX n3,aD]⟩
structure Lk (kvs:List (Key×V)) (f:Nat->Option Int):Prop where
 nd:(kvs.map (·.1)).Nodup
 ks:∀ kv∈kvs,∃ (c:Nat) (n:Int),kv=(Sum.inr (one c),V.int n)
 val:∀ c,bZ kvs (Sum.inr (one c))=(f c).map V.int
theorem Lk.nil:Lk [] (λ_=>none):=⟨List.nodup_nil,(λkv h=>nomatch h),λc=>rfl⟩
theorem key_one {a b:Nat}:((Sum.inr (one a):Key)=Sum.inr (one b)) ↔ a=b:=⟨λh=>one_inj.mp (Sum.inr.inj h),λh=>by rw [h]⟩
theorem aXV {α:Type}:∀ {l:List α} {k:α},l.Nodup->¬ k∈l->(l++[k]).Nodup
 | [],k,_,_=>by simp
 | a::r,k,h,hk=>by
   obtain ⟨h1,h2⟩:=Cb.mp h;refine Cb.mpr ⟨λm=>?_,aXV h2 λm=>hk (Ao _ m)⟩;rcases Bk.mp m with q | q
   · exact h1 q
   · exact hk (by rw [Aw.mp q]; exact As ..)
theorem cXA {kvs:List (Key×V)} {k:Key} (h:bZ kvs k=none):¬ k∈kvs.map (·.1):=λm=>by
 obtain ⟨p,hp,e⟩:=Be.mp m;have q:(kvs.any λkv=>decide (kv.1=k))=true:=Ha.mpr ⟨p,hp,An e⟩
 rw [fL,h] at q;cases q
theorem yF (kvs:List (Key×V)) (k:Key) (v:V) (h:bZ kvs k≠none):(dY kvs k v).map (·.1)=kvs.map (·.1):=by
 unfold dY;have e:(kvs.any λkv=>decide (kv.1=k))=true:=by
   rw [fL];cases q:bZ kvs k with
   | none=>exact absurd q h
   | some _=>rfl
 rw [if_pos e,By];refine Cp λkv _=>?_;show (if kv.1=k then (kv.1,v) else kv).1=kv.1
 split <;> rfl
theorem Lk.put {kvs:List (Key×V)} {f:Nat->Option Int} (h:Lk kvs f) (c:Nat) (n:Int):Lk (dY kvs (Sum.inr (one c)) (.int n)) (λd=>if d=c then some n else f d) where
 nd:=by
   cases e:bZ kvs (Sum.inr (one c)) with
   | none=>rw [iT _ e,Ak]; exact aXV h.nd (cXA e)
   | some v=>rw [yF _ _ _ (by rw [e]; exact λz=>nomatch z)]; exact h.nd
 ks:=λkv hkv=>by
   unfold dY at hkv;split at hkv
   · obtain ⟨kv',h',e⟩:=Be.mp hkv;obtain ⟨c',n',e'⟩:=h.ks kv' h';subst e';dsimp only at e;split at e
     · exact ⟨c',n,e.symm⟩
     · exact ⟨c',n',e.symm⟩
   · rcases Bk.mp hkv with q | q
     · exact h.ks kv q
     · exact ⟨c,n,Aw.mp q⟩
 val:=λd=>by
   rw [bZA];by_cases e:d=c
   · rw [if_pos (key_one.mpr e),if_pos e]; rfl
   · rw [if_neg (λz=>e (key_one.mp z)),if_neg e]; exact h.val d
theorem bX9 {kvs:List (Key×V)} (nd:(kvs.map (·.1)).Nodup) {kv:Key×V} (h:kv∈kvs):bZ kvs kv.1=some kv.2:=by
 induction kvs with
 | nil=>cases h
 | cons p r ih=>
   obtain ⟨n1,n2⟩:=Cb.mp nd;rcases Bd.mp h with e | e
   · subst e; exact cH rfl
   · rw [cD λz=>n1 (by show p.1∈_; rw [z]; exact Be.mpr ⟨kv,e,rfl⟩)]
     exact ih n2 e
theorem uS {α:Type} [DecidableEq α]:∀ {l m:List α},l.Nodup->(∀ x∈l,x∈m)->l.length<=m.length
 | [],m,_,_=>Bw _
 | a::r,m,h,s=>by
   obtain ⟨h1,h2⟩:=Cb.mp h;have q:=uS (l:=r) (m:=m.erase a) h2 λx hx=>(List.mem_erase_of_ne λz=>h1 (by rw [<-z]; exact hx)).mpr (s x (Ao _ hx))
   have ha:=s a (As ..)
   rw [List.length_erase_of_mem ha] at q;have:=List.length_pos_of_mem ha
   rw [Bb];omega
theorem Lk.at_mem {kvs:List (Key×V)} {f:Nat->Option Int} (h:Lk kvs f) {kv:Key×V} (hkv:kv∈kvs):∃ c n,kv=(Sum.inr (one c),V.int n)/\f c=some n:=by
 obtain ⟨c,n,e⟩:=h.ks kv hkv;have v:=bX9 h.nd hkv
 rw [e] at v;have v2:=h.val c
 rw [v2] at v;cases q:f c with
 | none=>rw [q] at v; cases v
 | some m=>rw [q] at v; cases v; exact ⟨c,_,e,q⟩
theorem Lk.keys {kvs kws:List (Key×V)} {f:Nat->Option Int} (h:Lk kvs f) (h':Lk kws f):∀ x∈kvs.map (·.1),x∈kws.map (·.1):=λx hx=>by
 obtain ⟨kv,hkv,rfl⟩:=Be.mp hx;obtain ⟨c,n,rfl,hf⟩:=h.at_mem hkv;have v:=h'.val c
 rw [hf] at v;have q:(kws.any λkv=>decide (kv.1=Sum.inr (one c)))=true:=by rw [fL,v]; rfl
 obtain ⟨p,hp,e⟩:=Ha.mp q;exact Be.mpr ⟨p,hp,Bg e⟩
theorem Lk.deq {kvs kws:List (Key×V)} {f:Nat->Option Int} (h:Lk kvs f) (h':Lk kws f):DEq kvs kws:=by
 refine ⟨?_,λkv hkv=>?_⟩
 · have a:=uS h.nd (h.keys h')
   have b:=uS h'.nd (h'.keys h)
   rw [Ab,Ab] at a b;omega
 · obtain ⟨c,n,rfl,hf⟩:=h.at_mem hkv;exact ⟨rfl,by rw [h'.val c,hf]; rfl⟩
def aM (f:Nat->Option Int) (c:Nat):Int:=(f c).getD 0
def nG (c:Nat):Prop:=bQ c\/dL c
instance (c:Nat):Decidable (nG c):=inferInstanceAs (Decidable (_\/_))
def bT (n:Nat->Int) (c:Nat):Option Int:=if nG c/\0<n c then some (n c) else none
theorem nE {m n:Nat->Int} (h:∀ c,nG c->m c=n c):bT m=bT n:=by
 funext c
 unfold bT;by_cases q:nG c
 · rw [h c q]
 · rw [if_neg λz=>q z.1,if_neg λz=>q z.1]
theorem iM {n:Nat->Int} {c:Nat} (hc:nG c) (h:0<=n c):aM (bT n) c=n c:=by
 unfold aM bT;by_cases q:0<n c
 · rw [if_pos ⟨hc,q⟩]; rfl
 · rw [if_neg λz=>q z.2]; show (0:Int)=n c; omega
theorem Lk.ext {kvs:List (Key×V)} {f g:Nat->Option Int} (h:Lk kvs f) (e:f=g):Lk kvs g:=e ▸ h
theorem jK (f:Nat->Option Int) (c:Nat):((f c).map V.int).getD (.int 0)=.int (aM f c):=by
 unfold aM;cases f c <;> rfl
theorem flags_mem {c:Nat}:c∈flagsT.cps.toList ↔ nG c:=tT
def kvL (g:Nat->Int) (L:List Nat):List (Key×V):=L.map λc=>(Sum.inr (one c),V.int (g c))
def cE (n:Nat->Int) (i:Nat):List Nat:=(flagsT.cps.toList.take i).filter λc=>decide (0<n c)
theorem yL {g:Nat->Int} {L:List Nat} {c:Nat} (h:c ∉ L):bZ (kvL g L) (Sum.inr (one c))=none:=by
 induction L with
 | nil=>rfl
 | cons d r ih=>
   show bZ ((Sum.inr (one d),V.int (g d))::kvL g r) _=none
   rw [cD (λz=>h (by rw [key_one.mp z]; exact As)),ih λz=>h (Ao _ z)]
theorem flags_nd:flagsT.cps.toList.Nodup:=by decide +kernel
theorem plainL_mem {n:Nat->Int} {i c:Nat}:c∈cE n i ↔ c∈flagsT.cps.toList.take i/\0<n c:=by
 unfold cE;rw [Da,Bp]
theorem zR {n:Nat->Int} {i c:Nat} (h:flagsT.cps.toList[i]?=some c):c ∉ cE n i:=λz=>by
 have m:=(plainL_mem.mp z).1
 obtain ⟨j,hj,e⟩:=Cc.mp m;rw [Bs] at hj;rw [List.getElem_take] at e;obtain ⟨hi,e2⟩:=Ae.mp h;have:=(Fw flags_nd).mp (e.trans e2.symm)
 omega
theorem zH {n:Nat->Int} {i c:Nat} (h:flagsT.cps.toList[i]?=some c) (p:0<n c):cE n (i+1)=cE n i++[c]:=by
 unfold cE;rw [Ba,h,Ew];show _++[c].filter _=_
 rw [show [c].filter (λc=>decide (0<n c))=[c] by simp [p]]
theorem aQI {n:Nat->Int} {i c:Nat} (h:flagsT.cps.toList[i]?=some c) (p:¬ 0<n c):cE n (i+1)=cE n i:=by
 unfold cE;rw [Ba,h,Ew];show _++[c].filter _=_
 rw [show [c].filter (λc=>decide (0<n c))=[] by simp; omega,List.append_nil]
theorem jE (n:Nat->Int) (i:Nat):(cE n i).length<=27:=by
 unfold cE;exact Bc (List.length_filter_le ..) (by rw [Bs]; exact Bc (Nat.min_le_right ..) (by decide))
theorem aJJ (n:Nat->Int) (i:Nat):(cE n i).Nodup:=(flags_nd.sublist (Gp ..)).filter _
def aJX (g:Nat->Int) (L:List Nat) (d:Nat):Option Int:=if d∈L then some (g d) else none
theorem bZM (g:Nat->Int) {r:List Nat} {c:Nat} (hc:c ∉ r) (h:Lk (kvL g r) (aJX g r)):Lk (kvL g (r++[c])) (aJX g (r++[c])):=by
 have l:=h.put c (g c)
 rw [iT _ (yL hc)] at l;have e:kvL g (r++[c])=kvL g r++[(Sum.inr (one c),V.int (g c))]:=by unfold kvL; rw [Ak]; rfl
 rw [e];refine l.ext ?_;funext d
 unfold aJX;by_cases hd:d=c
 · subst hd;rw [if_pos rfl,if_pos (Bq _ (Aw.mpr rfl))]
 · rw [if_neg hd];by_cases hr:d∈r
   · rw [if_pos hr,if_pos (Cr _ hr)]
   · rw [if_neg hr,if_neg (λz=>(Bk.mp z).elim hr λy=>hd (Aw.mp y))]
theorem aXZ (g:Nat->Int):∀ (L r:List Nat),(r++L).Nodup->Lk (kvL g r) (aJX g r)->Lk (kvL g (r++L)) (aJX g (r++L))
 | [],r,_,h=>by rw [Br]; exact h
 | c::L,r,nd,h=>by
   have e:r++c::L=(r++[c])++L:=by rw [Gw]; rfl
   have hc:c ∉ r:=λz=>(Dw.mp nd).2.2 c z c As rfl
   rw [e] at nd ⊢;exact aXZ g L (r++[c]) nd (bZM g hc h)
theorem dX7 (g:Nat->Int) {L:List Nat} (nd:L.Nodup):Lk (kvL g L) (λd=>if d∈L then some (g d) else none):=by
 have r:=aXZ g L [] nd (Lk.nil.ext (by funext d; unfold aJX; rw [if_neg (λz=>nomatch z)]))
 exact r
theorem iZ (n:Nat->Int):Lk (kvL n (cE n 27)) (bT n):=by
 refine (dX7 n (aJJ n 27)).ext ?_;funext d
 unfold bT;have e:d∈cE n 27 ↔ nG d/\0<n d:=by
   rw [plainL_mem,Bu (by decide),flags_mem]
 by_cases h:d∈cE n 27
 · rw [if_pos h,if_pos (e.mp h)]
 · rw [if_neg h,if_neg (λz=>h (e.mpr z))]
def eJ:Sp:=λvs H Q _=>∃ (a:Addr) (kvs:List (Key×V)) (f:Nat->Option Int),vs=[.ref a]/\Rd H a (.dK kvs)/\Lk kvs f/\
 ∀ (r:Addr) (H':Hp),H r=none->Same H H'->H' r=some (.dK (kvL (aM f) (cE (aM f) 27)))->Q (.ref r) H'
theorem sc_plain_locker:FnScope ["locker", "plain", "flag"] ["locker"] (aG cX):=by walk_at "sc"
theorem oR {Zw Zz Zx Zy:Addr} {f:Addr} {fd:FuncData} (F:Fun K "plain_locker" "plain_locker" cX f fd) (G:Gs K mg Zw Zz Zx Zy)  : FnOk P w K mg base CX0 1 f fd ["locker"] eJ:=by
 refine F.ok sc_plain_locker (λvs H Q E h=>?_) (λcdv A outer s H vs Q E hr h=>?_)
 · obtain ⟨a,kvs,f,rfl,_⟩:=h; rfl
 obtain ⟨a,kvs,f,rfl,ha,lk,q⟩:=h;refine ⟨_,(@aE _ _ _ _ _ (@aP _ _ 1 _ _ _ _ sc_plain_locker.nd (by rfl) (by exact (Or.inl rfl)) pI (by rfl) (by walk_at "o")) (@aE _ _ _ _ _ (bN Az rfl (rD (kW rfl G.s_FLAGS)) (aO (i:=2) sc_plain_locker.nd rfl (Or.inl rfl)) (@aI _ _ _ (cU (bB cQ4 (fJ Bt Co (qT (Room.u1 hr)) (mv 0) (aA (mv 2) (aA aJ aB))) aJ (bI _)) (@aI _ _ _ (dR (Room.u1 hr) (mv 1) (mv 2) (hV (Room.u1 hr) (mv 0) (mv 2) (λ_ _=>rfl)) rfl)) bO))) (@aI _ _ _ (aW (mv 1))))),?_⟩
 walk_at "go";intro p hp;walk_at "go";refine bJS (λi σ H'=>∃ (v:Option V),σ=[some (.ref a),some (.ref p),v]/\Same H H'/\H' p=some (.dK (kvL (aM f) (cE (aM f) i))))
   ⟨none,rfl,aF hp _,aD⟩ ?_ ?_
 · rintro i c σ H2 hc ⟨v,rfl,s2,hH⟩;have hi:i<27:=(Ae.mp hc).1
   have ha2:Rd H2 a (.dK kvs):=ha.elim (λe=>.inl (s2 _ _ e)) λ⟨o,e⟩=>.inr ⟨o,s2 _ _ e⟩
   have hd2:isD H2 a=true:=ha2.elim nI λ⟨o,e⟩=>bJG e
   have hpl:(kvL (aM f) (cE (aM f) i)).length<sizeLine:=aV (by unfold kvL; rw [Ab]; have:=jE (aM f) i; omega)
   walk_at "go";refine pL (z:=one c) ha2 ?_;rw [lk.val c,jK];walk_at "go";refine iI (λhd=>?_) (λhd=>?_)
   · have hd':=Bg hd
     obtain ⟨n,hn⟩:∃ n,f c=some n:=by
       cases e:f c with
       | none=>rw [show aM f c=0 by unfold aM; rw [e]; rfl] at hd'; omega
       | some n=>exact ⟨n,rfl⟩
     have hcn:aM f c=n:=by unfold aM; rw [hn]; rfl
     walk_at "go";refine qG (z:=one c) ha2 (by rw [lk.val c,hn]; rfl) ?_
     walk_at "go";refine gA (z:=one c) hH hpl ?_;refine ⟨_,rfl,aY hp s2,?_⟩;rw [aD,iT _ (yL (zR hc)),zH hc (by omega)]
     unfold kvL;rw [Ak,<-hcn];rfl
   · have hd':=Ca (Cd.mpr hd)
     walk_at "go";exact ⟨_,rfl,s2,by rw [hH,aQI hc (by omega)]⟩
 · rintro σ H2 ⟨v,rfl,s2,hH⟩;walk_at "go";exact q p H2 hp s2 hH
def cnt (cs:List Nat) (c:Nat):Int:=((cs.countP (· == c):Nat):Int)
theorem jY {cs:List Nat} {i c:Nat} (h:cs[i]?=some c) (d:Nat):cnt (cs.take (i+1)) d=cnt (cs.take i) d+if d=c then 1 else 0:=by
 unfold cnt;rw [Ba,h,List.countP_append];show (((cs.take i).countP (· == d)+[c].countP (· == d):Nat):Int)=_
 by_cases e:d=c
 · subst e;rw [if_pos rfl,List.countP_cons,List.countP_nil,if_pos (by simp)]
   push_cast
   rfl
 · rw [if_neg e,List.countP_cons,List.countP_nil,if_neg (by simp; exact λz=>e z.symm)]
   push_cast
   rfl
theorem dZ9 {cs:List Nat} {i c:Nat} (h:cs[i]?=some c):cnt (cs.take i) c+1<=cnt cs c:=by
 have e:=jY h c
 rw [if_pos rfl] at e;rw [<-e];unfold cnt;have:(cs.take (i+1)).countP (· == c)<=cs.countP (· == c):=List.Sublist.countP_le (Gp _ _)
 omega
theorem pT (cs:List Nat) (c:Nat):0<=cnt cs c:=by unfold cnt; omega
def vD (f:Nat->Option Int) (cs:List Nat) (k:Nat):Prop:=∀ j d,j<k->cs[j]?=some d->cnt (cs.take j) d<aM f d
theorem tX {f:Nat->Option Int} {cs:List Nat} (c:Nat) (h0:0<=aM f c):∀ {k:Nat},vD f cs k->cnt (cs.take k) c<=aM f c
 | 0,_=>by rw [Ej]; exact h0
 | k+1,h=>by
   have ih:=tX c h0 (k:=k) λj d hj=>h j d (by omega)
   cases e:cs[k]? with
   | none=>rw [List.take_add_one,e]; simpa using ih
   | some d=>
     rw [jY e];have hd:=h k d (by omega) e
     by_cases z:c=d
     · subst z;rw [if_pos rfl];omega
     · rw [if_neg z];omega
def wK (aC:Addr):Sp:=λvs H Q E=>∃ (a b:Addr) (kvs:List (Key×V)) (f:Nat->Option Int) (cs:List Nat),vs=[.ref a,.ref b]/\H a=some (.dK kvs)/\Lk kvs f/\(∀ c,0<=aM f c)/\rdL H b=some ((cs.map one).map V.str)/\cs.length<=1000/\(∀ c∈cs,nG c)/\
 (vD f cs cs.length->∀ (r:Addr) (kws:List (Key×V)) (H':Hp),H r=none->Same H H'->H' r=some (.dK kws)->Lk kws (bT λc=>aM f c - cnt cs c)->Q (.ref r) H')/\
 (∀ i c,cs[i]?=some c->vD f cs i->aM f c<=cnt (cs.take i) c->∀ (dx:Addr) (H':Hp),Same H H'->H' dx=some (xdO dx [("flag",.str (one c))])->E (.ref aC) (some dx) H')
theorem sc_taken:FnScope ["locker", "flags", "left", "flag"] ["locker", "flags"] (aG kS):=by walk_at "sc"
theorem bX5 {Zw Zz Zx Zy:Addr} {f:Addr} {fd:FuncData} (F:Fun K "taken" "taken" kS f fd) (G:Gs K mg Zw Zz Zx Zy) (c_plain_locker:Cal P w K mg base 1 "plain_locker" ["locker"] eJ) (c_Short_init:zO P w K mg base 1 Zx ["self", "flag"] (iK Zx)):FnOk P w K mg base (CXr P w) 3 f fd ["locker", "flags"] (wK Zx):=by
 refine F.okX sc_taken (λvs H Q E h=>?_) (λcdv A outer s H vs Q E hr h=>?_)
 · obtain ⟨a,b,kvs,f,cs,rfl,_⟩:=h; rfl
 obtain ⟨a,b,kvs,f,cs,rfl,ha,lk,hf0,hb,hcs,hfl,q,qe⟩:=h;refine ⟨_,(@aE _ _ _ _ _ (@aP _ _ 2 _ _ _ _ sc_taken.nd (by rfl) (by exact (Or.inl rfl)) (aZ c_plain_locker hr (by decide) rfl (aA (mv 0) aB)) (by rfl) (by walk_at "o")) (@aE _ _ _ _ _ (bN PassesOwn.leaving rfl (bH (mv 1)) (aO (i:=3) sc_taken.nd rfl (Or.inl rfl)) (@aE _ _ _ _ _ (cU (bB uT (fJ Bt Co (qT (Room.u1 hr)) (mv 2) (aA (mv 3) (aA aJ aB))) aJ (bI _)) (@aI _ _ _ (nU pG rfl rfl rfl G.c_Short G.xm_Short c_Short_init hr (by decide) (aA (mv 3) aB))) bO) (@aI _ _ _ (dR (Room.u1 hr) (mv 2) (mv 3) (aX jZ (hV (Room.u1 hr) (mv 2) (mv 3) (λ_ _=>rfl)) aJ) rfl)))) (@aI _ _ _ (aW (aZ c_plain_locker hr (by decide) rfl (aA (mv 2) aB)))))),?_⟩
 walk_at "go";refine ⟨a,kvs,f,rfl,.inl ha,lk,λp H1 hp s1 hp1=>?_⟩;have lw:Lk (kvL (aM f) (cE (aM f) 27)) _:=iZ (aM f)
 have hwl:(kvL (aM f) (cE (aM f) 27)).length<=27:=by unfold kvL; rw [Ab]; exact jE _ _
 generalize kvL (aM f) (cE (aM f) 27)=kws at hp1 lw hwl;have hb1:=aH s1 hb
 walk_at "go";refine cF (xs:=(cs.map one).map V.str) (λi σ H'=>∃ (kvs':List (Key×V)) (g:Nat->Option Int) (v:Option V),σ=[some (.ref a),some (.ref b),some (.ref p),v]/\Same H H'/\H' p=some (.dK kvs')/\Lk kvs' g/\(∀ c,aM g c=aM (bT (aM f)) c - cnt (cs.take i) c)/\kvs'.length<=27+i/\vD f cs i)
   ⟨kws,_,_,rfl,s1,hp1,lw,λc=>by rw [Ej]; show _=_ - ((0:Nat):Int); omega,by omega,λj d hj=>by omega⟩ (λi σ H' _ ⟨_,_,_,_,e,_⟩=>aH e hb) ?_ ?_
 · rintro i x σ H2 hx ⟨kvs',g,v,rfl,s2,hH,lg,hg,hl,hen⟩;have hi:i<cs.length:=by have:=(Ae.mp hx).1; rw [Ab,Ab] at this; exact this
   obtain ⟨c,hc⟩:∃ c,cs[i]?=some c:=⟨_,Aa hi⟩;obtain rfl:x=V.str (one c):=by rw [Ag,Ag,hc] at hx; cases hx; rfl
   have hpl:kvs'.length<sizeLine:=aV (by omega)
   have hfc:=hfl c (Ai hc)
   have hgc:=hg c
   rw [iM hfc (hf0 c)] at hgc;have hle:=tX c (hf0 c) hen
   walk_at "go";refine pL (z:=one c) (.inl hH) ?_;rw [lg.val c,jK];walk_at "go";refine iI (λhd=>?_) (λhd=>?_)
   · have hd':=Bg hd
     walk_at "go";refine ⟨by show 1<=sizeLine; decide,λea hea=>⟨ea,_,rfl,aD,λdx hdx=>⟨rfl,some dx,(bJN hdx).1,?_⟩⟩⟩
     exact qe i c hc hen (by omega) dx _ (bZV s2 hea hdx) (bJN hdx).2
   · have hd':=Ca (Cd.mpr hd)
     obtain ⟨n,hn⟩:∃ n,g c=some n:=by
       cases e:g c with
       | none=>exact absurd (show aM g c=0 by unfold aM; rw [e]; rfl) hd'
       | some n=>exact ⟨n,rfl⟩
     have hcn:aM g c=n:=by unfold aM; rw [hn]; rfl
     walk_at "go";refine qG (z:=one c) (.inl hH) (by rw [lg.val c,hn]; rfl) ?_
     walk_at "go";refine gA (z:=one c) hH hpl ?_;refine ⟨_,_,_,rfl,aY hp s2,aD,lg.put c (n - 1),λd=>?_,by have:=dB kvs' (Sum.inr (one c)) (.int (n - 1)); omega,λj d hj hjd=>?_⟩
     · rw [jY hc];have:=hg d
       by_cases e:d=c
       · subst e;show ((if d=d then some (n - 1) else g d):Option Int).getD 0=_
         rw [if_pos rfl,if_pos rfl];show n - 1=_
         omega
       · show ((if d=c then some (n - 1) else g d):Option Int).getD 0=_
         rw [if_neg e,if_neg e];show aM g d=_
         omega
     · by_cases e:j=i
       · subst e;rw [hc] at hjd;cases hjd;omega
       · exact hen j d (by omega) hjd
 · rintro σ H2 ⟨kvs',g,v,rfl,s2,hH,lg,hg,hl,hen⟩;have ecs:((cs.map one).map V.str).length=cs.length:=by rw [Ab,Ab]
   rw [ecs] at hg hl hen;walk_at "go";refine ⟨p,kvs',g,rfl,.inl hH,lg,λr H3 hr s3 hr3=>?_⟩;have l3:Lk (kvL (aM g) (cE (aM g) 27)) _:=iZ (aM g)
   generalize kvL (aM g) (cE (aM g) 27)=kws' at hr3 l3;refine q hen r kws' H3 (bA s2 hr) (s2.trans s3) hr3 (l3.ext (nE λc hc=>?_));rw [hg c,iM hc (hf0 c),Bu (Ah _)]
def oC:Sp:=λvs H Q _=>∃ (a b:Addr) (kvs:List (Key×V)) (f:Nat->Option Int) (cs:List Nat),vs=[.ref a,.ref b]/\H a=some (.dK kvs)/\Lk kvs f/\(∀ c,0<=aM f c)/\rdL H b=some ((cs.map one).map V.str)/\cs.length<=1000/\
 ∀ (r:Addr) (kws:List (Key×V)) (H':Hp),H r=none->Same H H'->H' r=some (.dK kws)->Lk kws (bT λc=>aM f c+cnt cs c)->Q (.ref r) H'
theorem sc_put_in:FnScope ["locker", "flags", "more", "flag"] ["locker", "flags"] (aG iY):=by walk_at "sc"
theorem aJK {Zw Zz Zx Zy:Addr} {f:Addr} {fd:FuncData} (F:Fun K "put_in" "put_in" iY f fd) (G:Gs K mg Zw Zz Zx Zy) (c_plain_locker:Cal P w K mg base 1 "plain_locker" ["locker"] eJ):FnOk P w K mg base CX0 2 f fd ["locker", "flags"] oC:=by
 refine F.ok sc_put_in (λvs H Q E h=>?_) (λcdv A outer s H vs Q E hr h=>?_)
 · obtain ⟨a,b,kvs,f,cs,rfl,_⟩:=h; rfl
 obtain ⟨a,b,kvs,f,cs,rfl,ha,lk,hf0,hb,hcs,q⟩:=h;refine ⟨_,(@aE _ _ _ _ _ (@aP _ _ 2 _ _ _ _ sc_put_in.nd (by rfl) (by exact (Or.inl rfl)) (aZ c_plain_locker hr (by decide) rfl (aA (mv 0) aB)) (by rfl) (by walk_at "o")) (@aE _ _ _ _ _ (bN Az rfl (bH (mv 1)) (aO (i:=3) sc_put_in.nd rfl (Or.inl rfl)) (@aI _ _ _ (dR (Room.u1 hr) (mv 2) (mv 3) (aX cB (fJ Bt Co (qT (Room.u1 hr)) (mv 2) (aA (mv 3) (aA aJ aB))) aJ) rfl))) (@aI _ _ _ (aW (aZ c_plain_locker hr (by decide) rfl (aA (mv 2) aB)))))),?_⟩
 walk_at "go";refine ⟨a,kvs,f,rfl,.inl ha,lk,λp H1 hp s1 hp1=>?_⟩;have lw:Lk (kvL (aM f) (cE (aM f) 27)) _:=iZ (aM f)
 have hwl:(kvL (aM f) (cE (aM f) 27)).length<=27:=by unfold kvL; rw [Ab]; exact jE _ _
 generalize kvL (aM f) (cE (aM f) 27)=kws at hp1 lw hwl;have hb1:=aH s1 hb
 walk_at "go";refine cF (xs:=(cs.map one).map V.str) (λi σ H'=>∃ (kvs':List (Key×V)) (g:Nat->Option Int) (v:Option V),σ=[some (.ref a),some (.ref b),some (.ref p),v]/\Same H H'/\H' p=some (.dK kvs')/\Lk kvs' g/\(∀ c,aM g c=aM (bT (aM f)) c+cnt (cs.take i) c)/\kvs'.length<=27+i)
   ⟨kws,_,_,rfl,s1,hp1,lw,λc=>by rw [Ej]; show _=_+((0:Nat):Int); omega,by omega⟩ (λi σ H' _ ⟨_,_,_,_,e,_⟩=>aH e hb) ?_ ?_
 · rintro i x σ H2 hx ⟨kvs',g,v,rfl,s2,hH,lg,hg,hl⟩;have hi:i<cs.length:=by have:=(Ae.mp hx).1; rw [Ab,Ab] at this; exact this
   obtain ⟨c,hc⟩:∃ c,cs[i]?=some c:=⟨_,Aa hi⟩;obtain rfl:x=V.str (one c):=by rw [Ag,Ag,hc] at hx; cases hx; rfl
   have hpl:kvs'.length<sizeLine:=aV (by omega)
   walk_at "go";refine pL (z:=one c) (.inl hH) ?_;rw [lg.val c,jK];walk_at "go";refine gA (z:=one c) hH hpl ?_;refine ⟨_,_,_,rfl,aY hp s2,aD,lg.put c (aM g c+1),λd=>?_,by have:=dB kvs' (Sum.inr (one c)) (.int (aM g c+1)); omega⟩
   rw [jY hc];have:=hg d
   by_cases e:d=c
   · subst e;show ((if d=d then some (aM g d+1) else g d):Option Int).getD 0=_
     rw [if_pos rfl,if_pos rfl];show aM g d+1=_
     omega
   · show ((if d=c then some (aM g c+1) else g d):Option Int).getD 0=_
     rw [if_neg e,if_neg e];show aM g d=_
     omega
 · rintro σ H2 ⟨kvs',g,v,rfl,s2,hH,lg,hg,hl⟩;walk_at "go";refine ⟨p,kvs',g,rfl,.inl hH,lg,λr H3 hr s3 hr3=>?_⟩;refine q r _ H3 (bA s2 hr) (s2.trans s3) hr3 ((iZ (aM g)).ext (nE λc hc=>?_));rw [hg c,iM hc (hf0 c),Bu (by rw [Ab,Ab]; exact Ah _)]
def lM:Sp:=λvs H Q _=>∃ (cw:List Nat) (k:Nat) (p:Int),vs=[.str (bC cw),.int p]/\p=(k:Int)+1/\k<cw.length/\cw.length<=7/\
 ∀ (r:Addr) (H':Hp),H r=none->Same H H'->H' r=some (.lst (((chs cw k).map one).map V.str))->Q (.ref r) H'
theorem cXW {β:Type} (G:Nat->Option β) (k:Nat):[0,1,2,3].filterMap (λn=>if n<k then G n else none)=(List.range (min k 4)).filterMap G:=by
 match k with
 | 0=>rfl
 | 1=>rfl
 | 2=>rfl
 | 3=>rfl
 | k+4=>
   rw [Hb (by omega)]
   exact mY λn hn=>if_pos (by simp only [List.mem_cons,List.not_mem_nil,or_false] at hn; omega)
def atF (cw:List Nat) (k:Nat) (c:Nat):Option V:=if c - 49<k then (if cw.getD (c - 49) 0=cw.getD k 0 then some (.str (one c)) else none) else none
theorem dJ6 (cw:List Nat) (k:Nat):subsT.cps.toList.filterMap (atF cw k)=(((List.range (min k 4)).filterMap (chF cw k)).map one).map V.str:=by
 rw [zQ,show [49,50,51,52]=[0,1,2,3].map (49+·) from rfl,List.filterMap_map,By,List.map_filterMap,<-cXW];refine mY λn _=>?_;show atF cw k (49+n)=_
 unfold atF chF;rw [show 49+n - 49=n by omega]
 by_cases h1:n<k
 · rw [if_pos h1,if_pos h1];by_cases h2:cw.getD n 0=cw.getD k 0
   · rw [if_pos h2,if_pos h2]; rfl
   · rw [if_neg h2,if_neg h2]; rfl
 · rw [if_neg h1,if_neg h1]
theorem sc_choices_at:FnScope ["word", "place", "letter", "above"] ["word", "place"] (aG dC):=by walk_at "sc"
theorem sC {Zw Zz Zx Zy:Addr} {f:Addr} {fd:FuncData} (F:Fun K "choices_at" "choices_at" dC f fd) (G:Gs K mg Zw Zz Zx Zy)  : FnOk P w K mg base CX0 1 f fd ["word", "place"] lM:=by
 refine F.ok sc_choices_at (λvs H Q E h=>?_) (λcdv A outer s H vs Q E hr h=>?_)
 · obtain ⟨cw,k,p,rfl,_⟩:=h; rfl
 obtain ⟨cw,k,pl,rfl,hpl,hk,h7,q⟩:=h;refine ⟨_,(@aE _ _ _ _ _ (@aP _ _ 2 _ _ _ _ sc_choices_at.nd (by rfl) (by exact (Or.inr rfl)) (bG cC (mv 0) (aX jZ (mv 1) aJ) (λ_ _=>rfl)) (by rfl) (by walk_at "o")) (@aE _ _ _ _ _ (mH (i:=3) sc_choices_at.nd rfl (Or.inl rfl) rfl (rD (kW rfl G.s_SUBSTITUTES)) (fI (N:=["sign", "place", "letter", "word"]) ["word", "place", "letter", "above"] (aG dC) [none,some 1,some 2,some 0] rfl rfl rfl (λx h=>bU h) (by decide +kernel)) (by decide +kernel) rfl (by decide +kernel) (λC s₀ H₀ ex=>(aO (i:=0) (show List.Nodup (["sign", "place", "letter", "word"]:List Str) by decide +kernel) rfl (Or.inl rfl))) (λC s₀ H₀ ex=>(iG (PW.pt (vK (bB bQB (bK aZN rfl G.b_int uW (aA (mv 0) aB)) (mv 1) (bI _)) (pE (bB uT (bG cC (mv 3) (aX jZ (bK aZN rfl G.b_int uW (aA (mv 0) aB)) aJ) (λ_ _=>rfl)) (mv 2) (bI _))))))) (λC s₀ H₀ ex=>(mv 0))) (@aI _ _ _ (aW (aX cB (bR (aA (mv 2) aB)) (mv 3)))))),?_⟩
 have hwl:(bC cw).length=cw.length:=fH cw
 walk_at "go";refine jV (by rw [hwl]; exact bP (by omega)) (mE (k:=k) (by omega) hk) ?_
 walk_at "go";refine dJE (atF cw k) (aV (by decide)) (λi c Hc A B hc' hA=>?_) (λD hD=>?_)
 · have hs:dL c:=mem_subs.mp (Ai hc')
   have h49:49<=c:=hs.1
   walk_at "go";refine ⟨Wk.set rfl (Wk.refl _),?_⟩;walk_at "go";refine vR (pB hs) (by show 1<=640; decide) ?_
   walk_at "go";unfold atF at hA;refine iI (λhd=>?_) (λhd=>?_)
   · have hd':=Bg hd
     have hck:c - 49<k:=by omega
     rw [if_pos hck] at hA;walk_at "go";refine vR (pB hs) (by show 1<=640; decide) ?_
     walk_at "go";refine jV (by rw [hwl]; exact bP (by omega)) (mE (k:=c - 49) (by omega) (by omega)) ?_
     walk_at "go";rw [show decide (({ cps:=#[cw.getD (c - 49) 0] }:Str)={ cps:=#[cw.getD k 0] })=decide (cw.getD (c - 49) 0=cw.getD k 0) from vY _ _];by_cases he:cw.getD (c - 49) 0=cw.getD k 0
     · rw [An he];rw [if_pos he] at hA;walk_at "go";exact hA
     · rw [Am he];rw [if_neg he] at hA;walk_at "go";exact hA
   · have hd':=Ca (Cd.mpr hd)
     have hck:¬ c - 49<k:=by omega
     rw [if_neg hck] at hA;walk_at "go";exact hA
 · rw [show (Str.ofString "1234").cps.toList.filterMap (atF cw k)=_ from dJ6 cw k];walk_at "go";refine ⟨by show 1<=sizeLine; decide,λp hp=>?_⟩
   have hDp:D≠p:=λz=>by rw [z,aD] at hp; cases hp
   have hp0:H p=none:=by rw [aK (Ne.symm hDp)] at hp; exact hp
   have hlen:((((List.range (min k 4)).filterMap (chF cw k)).map one).map V.str).length<=4:=by
     have:=Dj (chF cw k) (List.range (min k 4))
     rw [Bz] at this;rw [Ab,Ab];omega
   walk_at "go";refine jH (xs:=[V.str (one (cw.getD k 0))]) (ys:=(((List.range (min k 4)).filterMap (chF cw k)).map one).map V.str) nJ (by rw [cZC hDp]; exact nJ) (bP (by show 1+_<=_; omega)) λr hr=>?_
   have hr0:H r=none:=by
     by_cases z:r=p
     · rw [z]; exact hp0
     · rw [aK z] at hr;by_cases z2:r=D
       · rw [z2]; exact hD
       · rw [aK z2] at hr; exact hr
   walk_at "go";exact q r _ hr0 ((aF hD _).trans ((aF hp _).trans (aF hr _))) aD
def aQM (cws:List (List Nat)) (k:Nat):List (List V):=(List.range (cws.getD k []).length).map λj:Nat=>[V.int (k:Int),V.int (1+(j:Int))]
def lZ (cws:List (List Nat)) (i:Nat):List (List V):=((List.range i).map (aQM cws)).flatten
theorem jU (cws:Q5) (i:Nat):lZ cws (i+1)=lZ cws i++aQM cws i:=by
 unfold lZ;rw [Ci,Ak,List.flatten_append];simp
theorem cQU {cws:Q5} {k:Nat} (h7:∀ c∈cws,c.length<=7):(aQM cws k).length<=7:=by
 unfold aQM;rw [Ab,Bz,Ac];cases e:cws[k]? with
 | none=>exact Bw _
 | some c=>exact h7 c (Ai e)
theorem lT {cws:Q5} (h7:∀ c∈cws,c.length<=7):∀ i,(lZ cws i).length<=7 * i
 | 0=>Ah _
 | i+1=>by
   rw [jU,Aj];have:=lT h7 i
   have:=cQU (k:=i) h7
   omega
theorem rJ {cws:Q5} {i:Nat} {x:V} (h:((cws.map bC).map V.str)[i]?=some x):∃ c,cws[i]?=some c/\c∈cws/\x=.str (bC c):=by
 rw [Ag,Ag] at h;cases e:cws[i]? with
 | none=>rw [e] at h; cases h
 | some c=>rw [e] at h; cases h; exact ⟨c,rfl,Ai e,rfl⟩
theorem aJ1 {xs:List V} (h:xs.all cA=true):lC xs xs=true:=by
 rw [nS rfl,Cq];intro j hj;exact gS (iU h j)
def oO:Sp:=λvs H Q _=>∃ (a:Addr) (cws:List (List Nat)),vs=[.ref a]/\rdL H a=some ((cws.map bC).map V.str)/\cws.length<=8/\(∀ c∈cws,c.length<=7)/\
 ∀ (r:Addr) (ps:List Addr) (H':Hp),H r=none->Same H H'->H' r=some (.lst (ps.map V.ref))->Tups H H' ps (lZ cws cws.length)->Q (.ref r) H'
theorem sc_wants_of:FnScope ["words", "wants", "number", "word"] ["words"] (aG eM):=by walk_at "sc"
theorem yT {Zw Zz Zx Zy:Addr} {f:Addr} {fd:FuncData} (F:Fun K "wants_of" "wants_of" eM f fd) (G:Gs K mg Zw Zz Zx Zy)  : FnOk P w K mg base CX0 1 f fd ["words"] oO:=by
 refine F.ok sc_wants_of (λvs H Q E h=>?_) (λcdv A outer s H vs Q E hr h=>?_)
 · obtain ⟨a,cws,rfl,_⟩:=h; rfl
 obtain ⟨a,cws,rfl,ha,h8,h7,q⟩:=h;refine ⟨_,(@aE _ _ _ _ _ (@aP _ _ 1 _ _ _ _ sc_wants_of.nd (by rfl) (by exact (Or.inl rfl)) (bR aB) (by rfl) (by walk_at "o")) (@aE _ _ _ _ _ (bN Az rfl (uY rfl G.b_enumerate (aA (mv 0) aB)) (kX (K:=K) (i:=2) (j:=3) (by rfl) (by rfl) sc_wants_of.nd (by rfl) (by exact (Or.inr rfl)) (by exact Or.inl rfl) (by rfl) (by exact (Or.inl rfl)) (by exact Or.inl rfl)) (@aI _ _ _ (cG (cV Bj Ee Ef yA (mv 1) (aA (cJ rfl (uE rfl G.b_range (aA aJ (aA (aX cB (aU eE rfl G.b_len cI (aA (mv 3) aB)) aJ) aB))) (fI (N:=["place", "number"]) ["words", "wants", "number", "word"] (aG eM) [none,some 2] rfl rfl rfl (λx h=>bU h) (by decide +kernel)) (by decide +kernel) rfl (by decide +kernel) (λC s₀ H₀ ex=>(aO (i:=0) (show List.Nodup (["place", "number"]:List Str) by decide +kernel) rfl (Or.inl rfl))) (λC s₀ H₀ ex=>fD) (λC s₀ H₀ ex=>(kF (aA (mv 1) (aA (mv 0) aB))))) aB))))) (@aI _ _ _ (aW (mv 1))))),?_⟩
 walk_at "go";refine ⟨by decide,λp hp=>?_⟩
 have ha1:=aH (aF hp (HO.lst [])) ha
 walk_at "go";refine aZL (xs:=(cws.map bC).map V.str) (λi σ H'=>∃ (ps:List Addr) (v1 v2:Option V),σ=[some (.ref a),some (.ref p),v1,v2]/\Same H H'/\H' p=some (.lst (ps.map V.ref))/\Tups H H' ps (lZ cws i))
   ⟨[],_,_,rfl,aF hp _,aD,.nil⟩ (λj σ H' _ ⟨_,_,_,_,e,_⟩=>aH e ha) ?_ ?_
 · rintro i x σ H2 pt hx ⟨ps,v1,v2,rfl,s2,hH,tp⟩ hpt;have hi:i<cws.length:=by have:=(Ae.mp hx).1; rw [Ab,Ab] at this; exact this
   obtain ⟨cw,hcw,hm,rfl⟩:=rJ hx;have hc7:=h7 cw hm
   have hwl:(bC cw).length=cw.length:=fH cw
   walk_at "go";rw [hwl];refine ⟨⟨by omega,by omega,by omega,by omega⟩,?_⟩
   rw [show ((cw.length:Int)+1 - 1).toNat=cw.length by omega]
   have s3:=s2.trans (aF hpt (HO.tup [V.int ((0+i:Nat):Int),V.str (bC cw)]))
   have hH3:=aF hpt (HO.tup [V.int ((0+i:Nat):Int),V.str (bC cw)]) _ _ hH
   have tp3:=tp.keep (aF hpt (HO.tup [V.int ((0+i:Nat):Int),V.str (bC cw)]))
   generalize upd H2 pt (HO.tup [V.int ((0+i:Nat):Int),V.str (bC cw)])=H3 at s3 hH3 tp3 ⊢;refine aJR (λj=>[V.int ((0+i:Nat):Int),V.int (1+(j:Int))]) (aV (by omega)) (λj Hc A B hj hs hA=>?_) (λD Hd qs hD sD hDd hqn tq=>?_)
   · walk_at "go";refine ⟨Wk.set rfl (Wk.refl _),?_⟩;walk_at "go";exact ⟨by show 2<=sizeLine; decide,λpp hpp=>hA pp _ hpp (aF hpp _) aD⟩
   · have hpd:=sD _ _ hH3
     have hpl:ps.length<=7 * i:=by rw [tp.1]; exact lT h7 i
     have e:(List.range cw.length).map (λj:Nat=>[V.int ((0+i:Nat):Int),V.int (1+(j:Int))])=aQM cws i:=by
       unfold aQM;rw [Ac,hcw,Nat.zero_add];rfl
     rw [e] at tq;walk_at "go";refine ⟨ps++qs,_,_,rfl,aY hp (s3.trans sD),by rw [aD,Ak],?_⟩
     rw [jU];exact ((tp3.keep sD).app (tq.older s3)).put hpd
 · rintro σ H2 ⟨ps,v1,v2,rfl,s2,hH,tp⟩;walk_at "go";rw [show ((cws.map bC).map V.str).length=cws.length by rw [Ab,Ab]] at tp
   exact q p ps H2 hp s2 hH tp
def gY (cws:List (List Nat)) (i:Nat):Nat:=((cws.take i).map List.length).sum
def lW (cws:List (List Nat)) (cs:List Nat) (i:Nat):List V:=(((cs.drop (gY cws i)).take (cws.getD i []).length).map one).map V.str
theorem tK {cws:Q5} {i:Nat} {cw:List Nat} (h:cws[i]?=some cw):gY cws (i+1)=gY cws i+cw.length:=by
 unfold gY;rw [Ba,h,Ak,List.sum_append];simp
theorem cZA {xs:List V} {i j:Nat} (hj:i<=j):rP xs (some (i:Int)) (some (j:Int))=(xs.drop i).take (j - i):=by
 unfold rP;show (xs.drop (if (i:Int)<0 then ((i:Int)+(xs.length:Int)).toNat else min (i:Int).toNat xs.length)).take ((if (j:Int)<0 then ((j:Int)+(xs.length:Int)).toNat else min (j:Int).toNat xs.length) - (if (i:Int)<0 then ((i:Int)+(xs.length:Int)).toNat else min (i:Int).toNat xs.length))=_
 rw [if_neg (by omega),if_neg (by omega),Dv,Dv]
 by_cases h1:i<=xs.length
 · rw [Nat.min_eq_left h1];by_cases h2:j<=xs.length
   · rw [Nat.min_eq_left h2]
   · rw [Hb (by omega),Bu (by rw [Ck]; omega),Bu (by rw [Ck]; omega)]
 · rw [Hb (show xs.length<=i by omega),Gy (Ah _),Gy (by omega),List.take_nil,List.take_nil]
def mM:Sp:=λvs H Q _=>∃ (a b:Addr) (cws:List (List Nat)) (cs:List Nat),vs=[.ref a,.ref b]/\rdL H a=some ((cws.map bC).map V.str)/\rdL H b=some ((cs.map one).map V.str)/\cws.length<=8/\(∀ c∈cws,c.length<=7)/\
 ∀ (r:Addr) (ps:List Addr) (H':Hp),H r=none->Same H H'->H' r=some (.lst (ps.map V.ref))->(∀ p∈ps,p≠r)->Lsts H H' ps ((List.range cws.length).map (lW cws cs))->Q (.ref r) H'
theorem sc_hoists_of:FnScope ["words", "flags", "hoists", "start", "word", "end"] ["words", "flags"] (aG fA):=by walk_at "sc"
theorem vN {Zw Zz Zx Zy:Addr} {f:Addr} {fd:FuncData} (F:Fun K "hoists_of" "hoists_of" fA f fd) (G:Gs K mg Zw Zz Zx Zy)  : FnOk P w K mg base CX0 1 f fd ["words", "flags"] mM:=by
 refine F.ok sc_hoists_of (λvs H Q E h=>?_) (λcdv A outer s H vs Q E hr h=>?_)
 · obtain ⟨a,b,cws,cs,rfl,_⟩:=h; rfl
 obtain ⟨a,b,cws,cs,rfl,ha,hb,h8,h7,q⟩:=h;refine ⟨_,(@aE _ _ _ _ _ (@aP _ _ 2 _ _ _ _ sc_hoists_of.nd (by rfl) (by exact (Or.inl rfl)) (bR aB) (by rfl) (by walk_at "o")) (@aE _ _ _ _ _ (@aP _ _ 3 _ _ _ _ sc_hoists_of.nd (by rfl) (by exact (Or.inl rfl)) aJ (by rfl) (by walk_at "o")) (@aE _ _ _ _ _ (bN Az rfl (bH (mv 0)) (aO (i:=4) sc_hoists_of.nd rfl (Or.inl rfl)) (@aE _ _ _ _ _ (@aP _ _ 5 _ _ _ _ sc_hoists_of.nd (by rfl) (by exact (Or.inl rfl)) (aX cB (mv 3) (aU eE rfl G.b_len cI (aA (mv 4) aB))) (by rfl) (by walk_at "o")) (@aE _ _ _ _ _ (cG (cV Bj Cf Cg mX (mv 2) (aA (bK iH rfl G.b_list dG (aA (yV eQG (mv 1) (vP (mv 3)) (vP (mv 5))) aB)) aB))) (@aI _ _ _ (@aP _ _ 3 _ _ _ _ sc_hoists_of.nd (by rfl) (by exact (Or.inl rfl)) (mv 5) (by rfl) (by walk_at "o")))))) (@aI _ _ _ (aW (mv 2)))))),?_⟩
 have hll:((cws.map bC).map V.str).length=cws.length:=by rw [Ab,Ab]
 walk_at "go";refine ⟨by decide,λp hp=>?_⟩
 have ha1:=aH (aF hp (HO.lst [])) ha
 walk_at "go";refine cF (xs:=(cws.map bC).map V.str) (λi σ H'=>∃ (ps:List Addr) (v4 v5:Option V),σ=[some (.ref a),some (.ref b),some (.ref p),some (.int ((gY cws i:Nat):Int)),v4,v5]/\Same H H'/\H' p=some (.lst (ps.map V.ref))/\(∀ x∈ps,x≠p)/\ps.length=i/\Lsts H H' ps ((List.range i).map (lW cws cs)))
   ⟨[],_,_,rfl,aF hp _,aD,(λx hx=>nomatch hx),rfl,.nil⟩ (λj σ H' _ ⟨_,_,_,_,e,_⟩=>aH e ha) ?_ ?_
 · rintro i x σ H2 hx ⟨ps,v4,v5,rfl,s2,hH,hne,hpl,tp⟩;have hi:i<cws.length:=by have:=(Ae.mp hx).1; rw [hll] at this; exact this
   obtain ⟨cw,hcw,hm,rfl⟩:=rJ hx;have hc7:=h7 cw hm
   have hwl:(bC cw).length=cw.length:=fH cw
   have hb2:=aH s2 hb
   walk_at "go";rw [hwl];intro r1 hr1;rw [show ((gY cws i:Nat):Int)+((cw.length:Nat):Int)=((gY cws i+cw.length:Nat):Int) by push_cast; rfl,cZA (by omega),show gY cws i+cw.length - gY cws i=cw.length by omega]
   have hrow_e:(((cs.map one).map V.str).drop (gY cws i)).take cw.length=lW cws cs i:=by
     unfold lW;rw [Ac,hcw,List.map_take,List.map_take,List.map_drop,List.map_drop];rfl
   rw [hrow_e];walk_at "go";intro r2 hr2;have hp1:r2≠p:=λz=>by
     have:=aF hr1 (HO.lst (lW cws cs i)) _ _ hH
     rw [<-z,hr2] at this;cases this
   have s3:Same H2 (upd (upd H2 r1 (HO.lst (lW cws cs i))) r2 (HO.lst (lW cws cs i))):=(aF hr1 _).trans (aF hr2 _)
   have hr3:(upd (upd H2 r1 (HO.lst (lW cws cs i))) r2 (HO.lst (lW cws cs i))) r2=some (.lst (lW cws cs i)):=aD
   have hr20:H2 r2=none:=bA (aF hr1 _) hr2
   generalize upd (upd H2 r1 (HO.lst (lW cws cs i))) r2 (HO.lst (lW cws cs i))=H3 at s3 hr3 ⊢;have hH3:=s3 _ _ hH
   have hm3:=bF hH3
   walk_at "go";have hne2:∀ x∈ps++[r2],x≠p:=λx hx=>by
     rcases Bk.mp hx with e | e
     · exact hne x e
     · rw [Aw.mp e]; exact hp1
   refine ⟨ps++[r2],some (.str (bC cw)),some (.int ((gY cws i+cw.length:Nat):Int)),?_,aY hp (s2.trans s3),by rw [aD,Ak]; rfl,hne2,by rw [Aj,hpl]; rfl,?_⟩
   · rw [tK hcw];rfl
   · rw [Ci,Ak];exact ((tp.keep s3).snoc (bA s2 hr20) hr3).put hne2
 · rintro σ H2 ⟨ps,v4,v5,rfl,s2,hH,hne,hpl,tp⟩;walk_at "go";rw [hll] at tp;exact q p ps H2 hp s2 hH hne tp
theorem aXB:FnScope ["text"] ["text"] (aG gR):=by walk_at "sc"
theorem aXE {Zw Zz Zx Zy:Addr} {f:Addr} {fd:FuncData} (F:Fun K "is_flag" "is_flag" gR f fd) (G:Gs K mg Zw Zz Zx Zy)  : FnOk P w K mg base CX0 1 f fd ["text"] qH:=by
 refine F.ok aXB (λvs H Q E h=>?_) (λcdv A outer s H vs Q E hr h=>?_)
 · obtain ⟨z,rfl,_⟩:=h; rfl
 obtain ⟨z,rfl,hl,q⟩:=h;refine ⟨_,(@aI _ _ _ (aW (dZE (nF uT (aU eE rfl G.b_len cI (aA (mv 0) aB)) aJ (bI _)) (bZR (nF aXW (mv 0) (kW rfl G.s_FLAGS) (by rfl)))))),?_⟩
 walk_at "go";refine iI (λhc=>?_) (λhc=>?_)
 · have e:jP z=subIn z flagsT:=if_pos (by have:=Bg hc; omega)
   rw [e] at q;walk_at "go";exact q
 · have e:jP z=false:=oE (by have:=Ca (Cd.mpr hc); omega)
   rw [e] at q;exact q
theorem vS:FnScope ["text", "place"] ["text", "place"] (aG eY):=by walk_at "sc"
theorem wC {Zw Zz Zx Zy:Addr} {f:Addr} {fd:FuncData} (F:Fun K "may_stand" "may_stand" eY f fd) (G:Gs K mg Zw Zz Zx Zy) (c_is_flag:Cal P w K mg base 1 "is_flag" ["text"] qH):FnOk P w K mg base CX0 2 f fd ["text", "place"] mT:=by
 refine F.ok vS (λvs H Q E h=>?_) (λcdv A outer s H vs Q E hr h=>?_)
 · obtain ⟨z,p,rfl,_⟩:=h; rfl
 obtain ⟨z,p,rfl,hl,q⟩:=h;refine ⟨_,(@aE _ _ _ _ _ (cU (iE (cW (aZ c_is_flag hr (by decide) rfl (aA (mv 0) aB)))) (@aI _ _ _ (aW fO)) bO) (@aE _ _ _ _ _ (cU (bB aXW (mv 0) (kW rfl G.s_SUBSTITUTES) (by rfl)) (@aI _ _ _ (aW (nF bQB (bK aZN rfl G.b_int uW (aA (mv 0) aB)) (mv 1) (bI _)))) bO) (@aI _ _ _ (aW fO)))),?_⟩
 walk_at "go";refine ⟨z,rfl,hl,?_⟩;walk_at "go";refine iI (λhc=>?_) (λhc=>?_)
 · have hf:jP z=false:=by simpa using hc
   have e:dJ z p=false:=by
     by_cases h1:z.length=1
     · obtain ⟨c,rfl⟩:=pN h1;rw [rF] at hf;have hf:=Ca hf
       rw [mQ];exact Am λst=>hf (st.elim .inl λz=>.inr z.1)
     · exact if_neg h1
   rw [e] at q;walk_at "go";exact q
 · have hf:jP z=true:=by simpa using hc
   obtain ⟨c,rfl,hcc⟩:=aJC hf;walk_at "go";rw [if_neg Aq,show subIn (one c) (Str.ofString "1234")=decide (dL c) from lN c];rw [mQ] at q;refine iI (λhd=>?_) (λhd=>?_)
   · have hs:=Bg hd
     walk_at "go";refine vR (pB hs) (by show 1<=640; decide) ?_
     walk_at "go";rw [show decide (kH c p)=decide ((c:Int) - 48<p) from Dr.mpr ⟨λst=>st.elim (λl=>absurd hs (iC l)) (·.2),λl=>.inr ⟨hs,l⟩⟩] at q;exact q
   · have hs:=Ca (Cd.mpr hd)
     walk_at "go";rw [An (show kH c p from .inl (hcc.resolve_right hs))] at q;exact q
theorem yU:FnScope ["flags"] ["flags"] (aG fV):=by walk_at "sc"
theorem xP {Zw Zz Zx Zy:Addr} {f:Addr} {fd:FuncData} (F:Fun K "is_hoist" "is_hoist" fV f fd) (G:Gs K mg Zw Zz Zx Zy) (c_may_stand:Cal P w K mg base 2 "may_stand" ["text", "place"] mT):FnOk P w K mg base CX0 3 f fd ["flags"] oK:=by
 refine F.ok yU (λvs H Q E h=>?_) (λcdv A outer s H vs Q E hr h=>?_)
 · obtain ⟨a,zs,rfl,_⟩:=h; rfl
 obtain ⟨a,zs,rfl,ha,hl,hz,q⟩:=h;refine ⟨_,(@aE _ _ _ _ _ (cU (PW.pt (iW (bB bQB (aU eE rfl G.b_len cI (aA (mv 0) aB)) aJ (bI _)) (jG (bB cQ4 (aU eE rfl G.b_len cI (aA (mv 0) aB)) (cZ4 rfl G.s_MOST_PLACES) (bI _))))) (@aI _ _ _ (aW fO)) bO) (@aI _ _ _ (aW (aU (eQ4 rfl) rfl G.b_all dX4 (aA (cJ rfl (bJB rfl G.b_enumerate (aA (mv 0) aB) (cXO aJ dQY)) (wF (N:=["place", "text"]) (by decide +kernel) (by decide +kernel)) (by decide +kernel) rfl (by decide +kernel) (λC s₀ H₀ ex=>(kX (K:=K) (i:=0) (j:=1) (by rfl) (by rfl) (show List.Nodup (["place", "text"]:List Str) by decide +kernel) (by rfl) (by exact Or.inl rfl) (by exact Or.inr rfl) (by rfl) (by exact Or.inl rfl) (by exact Or.inr rfl))) (λC s₀ H₀ ex=>fD) (λC s₀ H₀ ex=>(aZ c_may_stand hr (by decide) rfl (aA (mv 1) (aA (mv 0) aB))))) aB))))),?_⟩
 have hll:(zs.map V.str).length=zs.length:=Ab ..
 walk_at "go";rw [hll];refine iI (λhc=>?_) (λhc=>?_)
 · walk_at "go";have e:cK zs=false:=if_pos (.inl (by have:=Bg hc; omega))
   have r:=q H (Same.refl H)
   rw [e] at r;exact r
 · have hc':=Ca (Cd.mpr hc)
   walk_at "go";rw [hll];refine iI (λhd=>?_) (λhd=>?_)
   · walk_at "go";have e:cK zs=false:=if_pos (.inr (by have:=Bg hd; omega))
     have r:=q H (Same.refl H)
     rw [e] at r;exact r
   · have hd':=Ca (Cd.mpr hd)
     walk_at "go";refine ⟨⟨by omega,by omega⟩,?_⟩
     walk_at "go";refine cXV (λi x=>match x with | .str z=>some (.bl (dJ z ((1+i:Nat):Int))) | _=>none) ha (by rw [hll]; exact aV (by omega)) (λi x Hc p A B hx sm hp hA=>?_) (λD Hd hD sd hr=>?_)
     · obtain ⟨z,hzi,rfl⟩:=lS hx;walk_at "go";refine ⟨Wk.set rfl (Wk.set rfl (Wk.refl _)),?_⟩;walk_at "go";refine ⟨z,_,rfl,hz z (Ai hzi),?_⟩;exact hA _ (Same.refl _)
     · have e1:((List.range (zs.map V.str).length).filterMap λi=>(λi x=>match x with | .str z=>some (V.bl (dJ z ((1+i:Nat):Int))) | _=>none:Nat->V->Option V) i ((zs.map V.str).getD i .non))=((List.range zs.length).map λi=>dJ (zs.getD i ⟨#[]⟩) ((1+i:Nat):Int)).map V.bl:=by
         rw [hll,By];refine (mY (g:=λi=>some (V.bl (dJ (zs.getD i ⟨#[]⟩) ((1+i:Nat):Int)))) λi hi=>?_).trans (aZP _ _);have hi':=Bm.mp hi
         rw [Ac,Ag,Aa hi',Ac,Aa hi'];rfl
       rw [e1] at hr;walk_at "go";refine dJX hr ?_;have e2:cK zs=((List.range zs.length).map λi=>dJ (zs.getD i ⟨#[]⟩) ((1+i:Nat):Int)).all id:=by
         unfold cK;rw [if_neg (by omega),List.all_map]
         rfl
       have r:=q _ sd
       rw [e2] at r;exact r
theorem sc_read_of:FnScope ["flags", "word", "flag"] ["flags"] (aG gN):=by walk_at "sc"
theorem aQP {Zw Zz Zx Zy:Addr} {f:Addr} {fd:FuncData} (F:Fun K "read_of" "read_of" gN f fd) (G:Gs K mg Zw Zz Zx Zy) (c_is_hoist:Cal P w K mg base 3 "is_hoist" ["flags"] oK):FnOk P w K mg base (CXr P w) 4 f fd ["flags"] (qO Zy):=by
 refine F.okX sc_read_of (λvs H Q E h=>?_) (λcdv A outer s H vs Q E hr h=>?_)
 · obtain ⟨a,zs,rfl,_⟩:=h; rfl
 obtain ⟨a,zs,rfl,ha,hl,hz,q,qe⟩:=h;refine ⟨_,(@aE _ _ _ _ _ (cU (iE (cW (aZ c_is_hoist hr (by decide) rfl (aA (mv 0) aB)))) (@aI _ _ _ (bJV pG rfl rfl rfl G.c_NoHoist G.x_NoHoist Fu (@dXG _ _ _ _ _ _ aB))) bO) (@aE _ _ _ _ _ (@aP _ _ 1 _ _ _ _ sc_read_of.nd (by rfl) (by exact (Or.inl rfl)) gG (by rfl) (by walk_at "o")) (@aE _ _ _ _ _ (PS.nox (bN Az rfl (bH (mv 0)) (aO (i:=2) sc_read_of.nd rfl (Or.inl rfl)) (@aI _ _ _ (cU (bB aXW (mv 2) (kW rfl G.s_SUBSTITUTES) (by rfl)) (@aI _ _ _ (@aP _ _ 1 _ _ _ _ sc_read_of.nd (by rfl) (by exact (Or.inl rfl)) (aX cB (mv 1) (bG cC (mv 1) (aX jZ (bK aZN rfl G.b_int uW (aA (mv 2) aB)) aJ) (λ_ _=>rfl))) (by rfl) (by walk_at "o"))) (@aI _ _ _ (@aP _ _ 1 _ _ _ _ sc_read_of.nd (by rfl) (by exact (Or.inl rfl)) (aX cB (mv 1) (mv 2)) (by rfl) (by walk_at "o"))))))) (@aI _ _ _ (aW (mv 1)))))),?_⟩
 walk_at "go";refine ⟨a,zs,rfl,ha,hl,hz,λH1 s1=>?_⟩;have ha1:=aH s1 ha
 walk_at "go";cases hh:cK zs with
 | false=>
   walk_at "go";exact ⟨by show 1<=sizeLine; decide,qe hh H1 s1⟩
 | true=>
   walk_at "go";have h7:=fU hh
   refine cF (xs:=zs.map V.str) (λi σ H'=>∃ v,σ=[some (.ref a),some (.str (bC (rdC ((zs.map lG).take i)))),v]/\H'=H1)
     ⟨none,rfl,rfl⟩ (λi σ H' _ ⟨_,_,e⟩=>by rw [e]; exact ha1) ?_ ?_
   · rintro i x σ H' hx ⟨v,rfl,rfl⟩;obtain ⟨z,hzi,rfl⟩:=lS hx;obtain ⟨c,rfl,hci,hcc⟩:=lU hh hzi;have hi:i<(zs.map lG).length:=(Ae.mp hci).1
     have hll:(zs.map lG).length=zs.length:=Ab ..
     have hrl:(rdC ((zs.map lG).take i)).length=i:=jJ (by omega)
     have hst:=nA hci
     generalize rdC ((zs.map lG).take i)=wd at hrl hst ⊢;have hwl:(bC wd).length=i:=(fH wd).trans hrl
     walk_at "go";rw [if_neg Aq,show subIn (one c) (Str.ofString "1234")=decide (dL c) from lN c];refine iI (λhd=>?_) (λhd=>?_)
     · have hs:=Bg hd
       have hlt:c - 49<i:=(hcc.resolve_left λl=>iC l hs).2
       have h49:49<=c:=hs.1
       walk_at "go";refine vR (pB hs) (by show 1<=640; decide) ?_
       walk_at "go";have e1:atI (bC wd).cps.toList ((c:Int) - 48 - 1)=some (wd.getD (c - 49) 0):=by
         rw [show ((c:Int) - 48 - 1)=((c - 49:Nat):Int) by omega]
         refine eI ?_;rw [nM,Ac,Aa (by omega)]
         rfl
       have h2:(⟨#[wd.getD (c - 49) 0]⟩:Str).length=1:=rfl
       refine jV (by rw [hwl]; exact bP (by omega)) e1 ?_
       walk_at "go";refine ⟨some (.str (one c)),?_,rfl⟩;rw [hst,show stp wd c=wd.getD (c - 49) 0 from if_pos hs,<-jB];rfl
     · have hs:=Ca (Cd.mpr hd)
       have h2:(one c).length=1:=rfl
       walk_at "go";refine ⟨some (.str (one c)),?_,rfl⟩;rw [hst,show stp wd c=c from if_neg hs,<-jB];rfl
   · rintro σ H' ⟨v,rfl,rfl⟩;walk_at "go";have e:(zs.map lG).take (zs.map V.str).length=zs.map lG:=Bu (by rw [Ab,Ab]; exact Ah _)
     rw [e];exact q hh _ s1
abbrev Wt:=Nat×Nat
def cL (w:Wt):List Key:=[Sum.inl (w.1:Int),Sum.inl (w.2:Int)]
theorem kM {a b:Wt} (h:cL a=cL b):a=b:=by
 unfold cL at h;injection h with h1 h2
 injection h2 with h2 _
 have e1:=Sum.inl.inj h1
 have e2:=Sum.inl.inj h2
 exact Prod.ext (by omega) (by omega)
def dM (m:List (Wt×Nat)) (w:Wt):Option Nat:=(m.find? λx=>decide (x.1=w)).map (·.2)
def eO (m:List (Wt×Nat)) (f:Nat):List Wt:=(m.filter λx=>decide (x.2=f)).map (·.1)
def ctm (m:List (Wt×Nat)) (f:Nat):Nat:=m.countP λx=>decide (x.2=f)
theorem fW {x:Wt×Nat} {m:List (Wt×Nat)} {w:Wt}:dM (x::m) w=if x.1=w then some x.2 else dM m w:=by
 unfold dM;rw [List.find?_cons];by_cases h:x.1=w
 · simp [h]
 · simp [h]
theorem yJ {m:List (Wt×Nat)} {w:Wt} {f:Nat} (h:dM m w=some f):(w,f)∈m:=by
 induction m with
 | nil=>cases h
 | cons x m ih=>
   rw [fW] at h;by_cases e:x.1=w
   · rw [if_pos e] at h;cases h;rw [<-e];exact As
   · rw [if_neg e] at h;exact Ao _ (ih h)
theorem mW {m:List (Wt×Nat)} (nd:(m.map (·.1)).Nodup) {w:Wt} {f:Nat} (h:(w,f)∈m):dM m w=some f:=by
 induction m with
 | nil=>cases h
 | cons x m ih=>
   rw [fW];rw [Au,Cb] at nd;rcases Bd.mp h with e | e
   · rw [<-e,if_pos rfl]
   · rw [if_neg (λz=>nd.1 (by rw [z]; exact Be.mpr ⟨_,e,rfl⟩)),ih nd.2 e]
theorem hget_none {m:List (Wt×Nat)} {w:Wt}:dM m w=none ↔ w ∉ m.map (·.1):=by
 induction m with
 | nil=>exact ⟨λ_ z=>(nomatch z),λ_=>rfl⟩
 | cons x m ih=>
   rw [fW,Au,Bd];by_cases e:x.1=w
   · rw [if_pos e];exact ⟨λz=>(nomatch z),λz=>absurd (Or.inl e.symm) z⟩
   · rw [if_neg e,ih];exact ⟨λz y=>y.elim (λq=>e q.symm) z,λz y=>z (Or.inr y)⟩
theorem by_mem {m:List (Wt×Nat)} {f:Nat} {w:Wt}:w∈eO m f ↔ (w,f)∈m:=by
 unfold eO;rw [Be];constructor
 · rintro ⟨x,hx,rfl⟩;rw [Da,Bp] at hx;rw [<-hx.2];exact hx.1
 · intro h;exact ⟨(w,f),Da.mpr ⟨h,An rfl⟩,rfl⟩
theorem aQL (m:List (Wt×Nat)) (f:Nat):(eO m f).length=ctm m f:=by
 unfold eO ctm;rw [Ab,Fj]
structure Asking (ch:Wt->List Nat) (m:List (Wt×Nat)) (first:Wt) (A:List (Nat×Wt)):Prop where
 nd:(A.map (·.1)).Nodup
 ok:∀ (j:Nat) f w,A[j]?=some (f,w)->f∈ch w/\(w=first\/∃ (g:Nat) (i:Nat) (v:Wt),i<j/\A[i]?=some (g,v)/\dM m w=some g)
def bY (m:List (Wt×Nat)) (first:Wt) (A:List (Nat×Wt)):List Wt:=first::(A.map (·.1)).flatMap (eO m)
theorem lQ (m:List (Wt×Nat)) (first:Wt) (A:List (Nat×Wt)) (f:Nat) (w:Wt):bY m first (A++[(f,w)])=bY m first A++eO m f:=by
 unfold bY;rw [Ak,Dh];simp
theorem reach_mem {m:List (Wt×Nat)} {first:Wt} {A:List (Nat×Wt)} {w:Wt}:w∈bY m first A ↔ w=first\/∃ f∈A.map (·.1),(w,f)∈m:=by
 unfold bY;rw [Bd,Ff];constructor
 · rintro (h | ⟨f,hf,h⟩)
   · exact .inl h
   · exact .inr ⟨f,hf,by_mem.mp h⟩
 · rintro (h | ⟨f,hf,h⟩)
   · exact .inl h
   · exact .inr ⟨f,hf,by_mem.mpr h⟩
theorem qA (m:List (Wt×Nat)):∀ {fs:List Nat},fs.Nodup->(fs.flatMap (eO m)).length=m.countP (λx=>decide (x.2∈fs))
 | [],_=>by simp
 | f::fs,nd=>by
   rw [El,Aj,aQL,qA m (Cb.mp nd).2];have hf:=(Cb.mp nd).1
   unfold ctm;clear nd;induction m with
   | nil=>rfl
   | cons x m ih=>
     rw [Ds,Ds,Ds,<-ih];by_cases h1:x.2=f
     · rw [if_pos (An h1),if_neg (by rw [Bp,h1]; exact hf),if_pos (An (by rw [h1]; exact As))]
       omega
     · rw [if_neg (by rw [Bp]; exact h1)]
       by_cases h2:x.2∈fs
       · rw [if_pos (An h2),if_pos (An (Ao _ h2))];omega
       · rw [if_neg (by rw [Bp]; exact h2),if_neg (by rw [Bp]; exact λz=>(Bd.mp z).elim h1 h2)]
         omega
theorem nN {m:List (Wt×Nat)} {first:Wt} {A:List (Nat×Wt)} (nd:(A.map (·.1)).Nodup):(bY m first A).length<=1+m.length:=by
 unfold bY;rw [Bb,qA m nd];have:=List.countP_le_length (p:=λx:Wt×Nat=>decide (x.2∈A.map (·.1))) (l:=m)
 omega
theorem Asking.snoc {ch:Wt->List Nat} {m:List (Wt×Nat)} {first w:Wt} {A:List (Nat×Wt)} {f:Nat} (ndm:(m.map (·.1)).Nodup) (h:Asking ch m first A) (hf:f ∉ A.map (·.1)) (hc:f ∈ ch w) (hw:w ∈ bY m first A):Asking ch m first (A++[(f,w)]):=by
 refine ⟨?_,λj g v hj=>?_⟩
 · rw [Ak];exact List.nodup_append.mpr ⟨h.nd,by simp,λx hx y hy=>by rw [List.mem_singleton.mp hy]; intro z; have z2:x=f:=z; rw [z2] at hx; exact hf hx⟩
 · by_cases hlt:j<A.length
   · rw [Ap hlt] at hj;obtain ⟨h1,h2⟩:=h.ok j g v hj;refine ⟨h1,h2.imp id ?_⟩;rintro ⟨g',i,v',hi,hA,hg⟩;exact ⟨g',i,v',hi,by rw [Ap (by omega)]; exact hA,hg⟩
   · have hj2:j=A.length:=by
       have:=(Ae.mp hj).1
       rw [Aj] at this;have:j<A.length+1:=this
       omega
     subst hj2;rw [Av (Ah _),Fz] at hj;cases hj;refine ⟨hc,?_⟩;rcases reach_mem.mp hw with e | ⟨g',hg',hm⟩
     · exact .inl e
     · obtain ⟨x,hx,rfl⟩:=Be.mp hg';obtain ⟨i,hi,ei⟩:=Cc.mp hx;exact .inr ⟨x.1,i,x.2,hi,by rw [Ap hi,Aa hi,ei],mW ndm hm⟩
structure Asked (ch:Wt->List Nat) (m:List (Wt×Nat)) (first:Wt) (A:List (Nat×Wt)):Prop extends Asking ch m first A where
 all1:∀ f∈ch first,f∈A.map (·.1)
 all:∀ w g,(w,g)∈m->g∈A.map (·.1)->∀ f∈ch w,f∈A.map (·.1)
theorem Asking.done {ch:Wt->List Nat} {m:List (Wt×Nat)} {first:Wt} {A:List (Nat×Wt)} (h:Asking ch m first A) (hc:∀ w∈bY m first A,∀ f∈ch w,f∈A.map (·.1)):Asked ch m first A :=
 ⟨h,hc first (reach_mem.mpr (.inl rfl)),λw g hm hg=>hc w (reach_mem.mpr (.inr ⟨g,hg,hm⟩))⟩
def vQ (m:List (Wt×Nat)) (w:Wt) (f:Nat):List (Wt×Nat):=if (dM m w).isSome=true then m.map λx=>if x.1=w then (x.1,f) else x else m++[(w,f)]
theorem bX1 {m:List (Wt×Nat)} {w v:Wt} {f:Nat}:dM (m.map λx=>if x.1=w then (x.1,f) else x) v=(dM m v).map λg=>if v=w then f else g:=by
 induction m with
 | nil=>rfl
 | cons x m ih=>
   rw [Au,fW,fW,ih];by_cases e:x.1=w
   · rw [if_pos e];by_cases e2:x.1=v
     · rw [if_pos e2,if_pos e2,Em,if_pos (e2.symm.trans e)]
     · rw [if_neg e2,if_neg e2]
   · rw [if_neg e];by_cases e2:x.1=v
     · rw [if_pos e2,if_pos e2,Em,if_neg (λz=>e (e2.trans z))]
     · rw [if_neg e2,if_neg e2]
theorem keys_map {m:List (Wt×Nat)} {w:Wt} {f:Nat}:(m.map λx=>if x.1=w then (x.1,f) else x).map (·.1)=m.map (·.1):=by
 rw [By];refine Cp λx _=>?_;show (if x.1=w then (x.1,f) else x).1=x.1
 by_cases e:x.1=w
 · rw [if_pos e]
 · rw [if_neg e]
theorem dZ3 {m:List (Wt×Nat)} {w:Wt} {f g:Nat} (nd:(m.map (·.1)).Nodup) (h:dM m w=some g) (c:Nat) :
   ctm (m.map λx=>if x.1=w then (x.1,f) else x) c+(if c=g then 1 else 0)=ctm m c+(if c=f then 1 else 0):=by
 induction m with
 | nil=>cases h
 | cons x m ih=>
   rw [Au,Cb] at nd;rw [fW] at h;unfold ctm at ih ⊢;rw [Au,Ds,Ds];by_cases e:x.1=w
   · rw [if_pos e] at h;cases h;have hm:(m.map λx=>if x.1=w then (x.1,f) else x)=m:=by
       refine (Cp λy hy=>?_).trans (List.map_id _);show (if y.1=w then (y.1,f) else y)=y
       rw [if_neg (λz=>nd.1 (by rw [e,<-z]; exact Be.mpr ⟨y,hy,rfl⟩))]
     rw [if_pos e,hm];have e1:(decide ((x.1,f).2=c)=true)=(c=f):=by rw [Bp]; exact propext ⟨λz=>z.symm,λz=>z.symm⟩
     have e2:(decide (x.2=c)=true)=(c=x.2):=by rw [Bp]; exact propext ⟨λz=>z.symm,λz=>z.symm⟩
     simp only [e1,e2];omega
   · rw [if_neg e] at h;rw [if_neg e];have r:=ih nd.2 h
     omega
structure Along (ch:Wt->List Nat) (m0:List (Wt×Nat)) (A:List (Nat×Wt)) (f0:Nat) (m:List (Wt×Nat)) (c j:Nat) (w:Wt):Prop where
 keys:m.map (·.1)=m0.map (·.1)
 ok:∀ v f,(v,f)∈m->f∈ch v
 ct:∀ f,ctm m f+(if f=c then 1 else 0)=ctm m0 f+(if f=f0 then 1 else 0)
 at_:A[j]?=some (c,w)
 same:∀ v g i u,dM m0 v=some g->A[i]?=some (g,u)->i<j->dM m v=some g
theorem aZX {A:List (Nat×Wt)} (nd:(A.map (·.1)).Nodup) {i j g:Nat} {u v:Wt} (hi:A[i]?=some (g,u)) (hj:A[j]?=some (g,v)):i=j:=by
 obtain ⟨h1,e1⟩:=Ae.mp hi;obtain ⟨h2,e2⟩:=Ae.mp hj;refine (Fw (h₀:=by rw [Ab]; exact h1) (h₁:=by rw [Ab]; exact h2) nd).mp ?_
 rw [Fy,Fy,e1,e2]
theorem Along.step {ch:Wt->List Nat} {m0 m:List (Wt×Nat)} {A:List (Nat×Wt)} {f0 c j g i:Nat} {first w v:Wt} (ha:Asking ch m0 first A) (nd0:(m0.map (·.1)).Nodup) (h:Along ch m0 A f0 m c j w) (hg:dM m0 w=some g) (hi:A[i]?=some (g,v)) (hij:i<j) :
   dM m w=some g/\Along ch m0 A f0 (m.map λx=>if x.1=w then (x.1,c) else x) g i v:=by
 have nd:(m.map (·.1)).Nodup:=by rw [h.keys]; exact nd0
 have hw:=h.same w g i v hg hi hij
 refine ⟨hw,keys_map.trans h.keys,λu f hu=>?_,λf=>?_,hi,λu g' i' u' h1 h2 h3=>?_⟩
 · obtain ⟨x,hx,e⟩:=Be.mp hu;by_cases ex:x.1=w
   · rw [if_pos ex] at e;cases e;rw [ex];exact (ha.ok j c w h.at_).1
   · rw [if_neg ex] at e;exact h.ok u f (e ▸ hx)
 · have r1:=dZ3 (f:=c) nd hw f
   have r2:=h.ct f
   omega
 · rw [bX1,h.same u g' i' u' h1 h2 (by omega),Em]
   by_cases e:u=w
   · subst e;rw [hg] at h1;cases h1;exact absurd (aZX ha.nd hi h2) (by omega)
   · rw [if_neg e]
theorem Along.last {ch:Wt->List Nat} {m0 m:List (Wt×Nat)} {A:List (Nat×Wt)} {f0 c j:Nat} {first:Wt} (ha:Asking ch m0 first A) (hf:first ∉ m0.map (·.1)) (h:Along ch m0 A f0 m c j first) :
   dM m first=none/\(m++[(first,c)]).map (·.1)=m0.map (·.1)++[first]/\(∀ v f,(v,f)∈m++[(first,c)]->f∈ch v)/\∀ f,ctm (m++[(first,c)]) f=ctm m0 f+(if f=f0 then 1 else 0):=by
 refine ⟨hget_none.mpr (by rw [h.keys]; exact hf),by rw [Ak,h.keys]; rfl,λv f hv=>?_,λf=>?_⟩
 · rcases Bk.mp hv with e | e
   · exact h.ok v f e
   · cases Aw.mp e;exact (ha.ok j c first h.at_).1
 · have r:=h.ct f
   unfold ctm at r ⊢;rw [List.countP_append];have e:List.countP (λx:Wt×Nat=>decide (x.2=f)) [(first,c)]=if f=c then 1 else 0:=by
     rw [List.countP_singleton];by_cases z:f=c
     · rw [if_pos z,if_pos (An z.symm)]
     · rw [if_neg z,if_neg (by rw [Bp]; exact λy=>z y.symm)]
   rw [e];exact r
def jT (m:List (Wt×Nat)) (first:Wt) (A:List (Nat×Wt)) (wl:List Wt):List Wt:=wl.filter λw=>decide (w=first) || (match dM m w with | some g=>decide (g∈A.map (·.1)) | none=>false)
def jS (m:List (Wt×Nat)) (first:Wt) (A:List (Nat×Wt)) (w:Wt):Bool:=decide (w=first) || (match dM m w with | some g=>decide (g∈A.map (·.1)) | none=>false)
theorem xU {m:List (Wt×Nat)} {first w:Wt} {A:List (Nat×Wt)} (h:w=first):jS m first A w=true:=by
 unfold jS;rw [An h,Bool.true_or]
theorem qD {m:List (Wt×Nat)} {first w:Wt} {A:List (Nat×Wt)} (h:w≠first) (e:dM m w=none):jS m first A w=false:=by
 unfold jS;rw [Am h,e];rfl
theorem qJ {m:List (Wt×Nat)} {first w:Wt} {A:List (Nat×Wt)} {g:Nat} (h:w≠first) (e:dM m w=some g):jS m first A w=decide (g∈A.map (·.1)):=by
 unfold jS;rw [Am h,e,Fl]
theorem qY {m:List (Wt×Nat)} {first:Wt} {A:List (Nat×Wt)} {ws:List Wt} {w:Wt}:jT m first A (ws++[w])=jT m first A ws++if jS m first A w=true then [w] else []:=by
 have e:∀ l,jT m first A l=l.filter (jS m first A):=λl=>rfl
 rw [e,e,Ew,Ga];rfl
theorem lackW_mem {m:List (Wt×Nat)} {first w:Wt} {A:List (Nat×Wt)} {ws:List Wt}:w∈jT m first A ws ↔ w∈ws/\jS m first A w=true:=by
 have e:∀ l,jT m first A l=l.filter (jS m first A):=λl=>rfl
 rw [e,Da]
theorem bZ2 {m:List (Wt×Nat)} {first:Wt} {A:List (Nat×Wt)} {l r:List Wt} (hk:m.map (·.1)=l) (nd:(l++first::r).Nodup):(jT m first A (l++first::r)).length=1+m.countP (λx=>decide (x.2∈A.map (·.1))):=by
 have hl:(m.map (·.1)).Nodup:=by rw [hk]; exact (Dw.mp nd).1
 have hfl:first ∉ l:=λz=>(Dw.mp nd).2.2 first z first As rfl
 have hfr:first ∉ r:=(Cb.mp (Dw.mp nd).2.1).1
 have hrl:∀ w ∈ r,w ∉ l:=λw hw z=>(Dw.mp nd).2.2 w z w (Ao _ hw) rfl
 unfold jT;rw [Ew,Aj,Ga,if_pos (by rw [An rfl]; rfl),Bb]
 have er:r.filter (λw=>decide (w=first) || (match dM m w with | some g=>decide (g∈A.map (·.1)) | none=>false))=[]:=by
   refine Gz.mpr λw hw=>?_;have e:dM m w=none:=hget_none.mpr (by rw [hk]; exact hrl w hw)
   rw [Am (show ¬ w=first from λz=>by rw [z] at hw; exact hfr hw),e,Fl]
   exact Aq
 have el:(l.filter (λw=>decide (w=first) || (match dM m w with | some g=>decide (g∈A.map (·.1)) | none=>false))).length=m.countP (λx=>decide (x.2∈A.map (·.1))):=by
   rw [<-hk,List.filter_map,Ab,<-Fj];refine List.countP_congr λx hx=>?_;show (decide (x.1=first) || (match dM m x.1 with | some g=>decide (g∈A.map (·.1)) | none=>false))=true ↔ _
   rw [mW hl (w:=x.1) (f:=x.2) hx,Am (λz=>hfl (by rw [<-z,<-hk]; exact Be.mpr ⟨x,hx,rfl⟩)),Fl]
 rw [er,el,List.length_nil];omega
theorem dXI (m:List (Wt×Nat)):∀ {fs:List Nat},fs.Nodup->m.countP (λx=>decide (x.2∈fs))=(fs.map (ctm m)).sum:=fun {fs} nd=>by
 rw [<-qA m nd];induction fs with
 | nil=>rfl
 | cons f fs ih=>rw [El,Aj,aQL,Au,Ct,ih (Cb.mp nd).2]
def lJ (cws:List (List Nat)) (k:Nat):List Wt:=(List.range (cws.getD k []).length).map λj=>(k,1+j)
def wlP (cws:List (List Nat)) (i:Nat):List Wt:=(List.range i).flatMap (lJ cws)
def wl (cws:List (List Nat)):List Wt:=wlP cws cws.length
def wV (w:Wt):List V:=[.int (w.1:Int),.int (w.2:Int)]
theorem jX (cws:Q5) (i:Nat):wlP cws (i+1)=wlP cws i++lJ cws i:=by
 unfold wlP;rw [Ci,Dh];simp
theorem pV (cws:Q5):∀ i,lZ cws i=(wlP cws i).map wV
 | 0=>rfl
 | i+1=>by
   rw [jU,jX,Ak,pV cws i];congr 1
   unfold aQM lJ;rw [By];refine Cp λj _=>?_;show [V.int ((i:Nat):Int),V.int (1+(j:Int))]=[V.int ((i:Nat):Int),V.int ((1+j:Nat):Int)]
   rw [show ((1+j:Nat):Int)=1+(j:Int) by omega]
theorem wlP_mem {cws:Q5} {w:Wt}:∀ {i:Nat},w∈wlP cws i ↔ w.1<i/\1<=w.2/\w.2<=(cws.getD w.1 []).length:=fun {i}=>by
 unfold wlP lJ;rw [Ff];constructor
 · rintro ⟨k,hk,h⟩;obtain ⟨j,hj,rfl⟩:=Be.mp h;have:=Bm.mp hk
   have:=Bm.mp hj
   exact ⟨by omega,by show 1<=1+j; omega,by show 1+j<=(cws.getD k []).length; omega⟩
 · rintro ⟨h1,h2,h3⟩;refine ⟨w.1,Bm.mpr h1,Be.mpr ⟨w.2 - 1,Bm.mpr (by omega),?_⟩⟩
   exact Prod.ext rfl (by show 1+(w.2 - 1)=w.2; omega)
theorem lO (cws:Q5):∀ i,(wlP cws i).Nodup
 | 0=>List.nodup_nil
 | i+1=>by
   rw [jX];refine Dw.mpr ⟨lO cws i,?_,λa ha b hb e=>?_⟩
   · unfold lJ;exact List.Pairwise.map _ (λa b h=>λz=>h (by have:=Cw Prod.snd z; have e:1+a=1+b:=this; omega)) List.nodup_range
   · subst e;have h1:=(wlP_mem.mp ha).1
     unfold lJ at hb;obtain ⟨j,_,rfl⟩:=Be.mp hb;exact absurd h1 (Di _)
theorem mF {cws:Q5} (h7:∀ c∈cws,c.length<=7) (i:Nat):(wlP cws i).length<=7 * i:=by
 have:=lT h7 i
 rw [pV,Ab] at this;exact this
def chW (cws:List (List Nat)) (w:Wt):List Nat:=chs (cws.getD w.1 []) (w.2 - 1)
def eF (ws:List Wt) (ds:List Addr):List (List Key×V):=List.zipWith (λw d=>(cL w,V.ref d)) ws ds
def eX2 (H:Hp) (r:Addr) (cws:List (List Nat)) (i:Nat):Prop:=∃ ds:List Addr,ds.length=i/\H r=some (.dT (eF ((wl cws).take i) ds))/\∀ (j:Nat) w d,j<i->(wl cws)[j]?=some w->ds[j]?=some d->H d=some (.lst (((chW cws w).map one).map V.str))
theorem aJZ {ws:List Wt} {ds:List Addr} (nd:ws.Nodup) (hl:ds.length=ws.length) {j:Nat} {w:Wt} {d:Addr} (hw:ws[j]?=some w) (hd:ds[j]?=some d):bZ (eF ws ds) (cL w)=some (.ref d):=by
 induction ws generalizing ds j with
 | nil=>cases hw
 | cons x ws ih=>
   cases ds with
   | nil=>cases hl
   | cons e ds=>
     show bZ ((cL x,V.ref e)::eF ws ds) _=_
     cases j with
     | zero=>cases hw; cases hd; exact cH rfl
     | succ j=>
       have hm:=Ai (show ws[j]?=some w from hw)
       rw [cD (λz=>(Cb.mp nd).1 (by rw [kM z]; exact hm))]
       exact ih (List.nodup_cons.mp nd).2 (by simpa using hl) hw hd
theorem aQZ {ws:List Wt} {ds:List Addr} {w:Wt} (h:w ∉ ws):bZ (eF ws ds) (cL w)=none:=by
 induction ws generalizing ds with
 | nil=>rfl
 | cons x ws ih=>
   cases ds with
   | nil=>rfl
   | cons e ds=>
     show bZ ((cL x,V.ref e)::eF ws ds) _=_
     rw [cD (λz=>h (by rw [kM z]; exact As))]
     exact ih λz=>h (Ao _ z)
theorem sT {ws:List Wt} {ds:List Addr} (hl:ds.length=ws.length):(eF ws ds).length=ws.length:=by
 unfold eF;rw [List.length_zipWith];omega
theorem aQ3 {ws:List Wt} {ds:List Addr} {w:Wt} {d:Addr} (hl:ds.length=ws.length):eF (ws++[w]) (ds++[d])=eF ws ds++[(cL w,V.ref d)]:=by
 unfold eF;rw [List.zipWith_append (by omega)]
 rfl
def lL:Sp:=λvs H Q _=>∃ (a:Addr) (cws:List (List Nat)),vs=[.ref a]/\rdL H a=some ((cws.map bC).map V.str)/\cws.length<=8/\(∀ c∈cws,c.length<=7)/\
 ∀ (r:Addr) (H':Hp),H r=none->Same H H'->eX2 H' r cws (wl cws).length->Q (.ref r) H'
theorem sc_choices_of:FnScope ["words", "choices", "want"] ["words"] (aG dO):=by walk_at "sc"
theorem rZ {Zw Zz Zx Zy:Addr} {f:Addr} {fd:FuncData} (F:Fun K "choices_of" "choices_of" dO f fd) (G:Gs K mg Zw Zz Zx Zy) (c_wants_of:Cal P w K mg base 1 "wants_of" ["words"] oO) (c_choices_at:Cal P w K mg base 1 "choices_at" ["word", "place"] lM):FnOk P w K mg base CX0 2 f fd ["words"] lL:=by
 refine F.ok sc_choices_of (λvs H Q E h=>?_) (λcdv A outer s H vs Q E hr h=>?_)
 · obtain ⟨a,cws,rfl,_⟩:=h; rfl
 obtain ⟨a,cws,rfl,ha,h8,h7,q⟩:=h;refine ⟨_,(@aE _ _ _ _ _ (@aP _ _ 1 _ _ _ _ sc_choices_of.nd (by rfl) (by exact (Or.inl rfl)) qP (by rfl) (by walk_at "o")) (@aE _ _ _ _ _ (bN Az rfl (bH (aZ c_wants_of hr (by decide) rfl (aA (mv 0) aB))) (aO (i:=2) sc_choices_of.nd rfl (Or.inl rfl)) (@aI _ _ _ (dR (Room.u1 hr) (mv 1) (mv 2) (aZ c_choices_at hr (by decide) rfl (aA (bG cC (mv 0) (bG cC (mv 2) aJ (λ_ _=>rfl)) (λ_ _=>rfl)) (aA (bG cC (mv 2) aJ (λ_ _=>rfl)) aB))) rfl))) (@aI _ _ _ (aW (mv 1))))),?_⟩
 walk_at "go";intro pc hpc;walk_at "go";refine ⟨a,cws,rfl,aH (aF hpc _) ha,h8,h7,λr ps H1 hr s1 e1 tp=>?_⟩;have s01:=(aF hpc (.dT [])).trans s1
 have ec1:=s1 _ _ (aD (H:=H) (a:=pc) (o:=.dT []))
 have hlw:(wl cws).length<=56:=Bc (mF h7 _) (by omega)
 rw [pV] at tp;have hpl:ps.length=(wl cws).length:=by rw [tp.1,Ab]; rfl
 have hpm:(ps.map V.ref).length=(wl cws).length:=by rw [Ab,hpl]
 have tat:∀ (j:Nat) p w,ps[j]?=some p->(wl cws)[j]?=some w->H1 p=some (.tup (wV w)):=λj p w hp hw=>(tp.2 j p _ hp (by rw [Ag]; exact Cw (Option.map wV) hw)).2
 have r1:=aL e1
 have hcr:pc≠r:=λz=>by rw [<-z,aD] at hr; cases hr
 walk_at "go";refine cF (xs:=ps.map V.ref) (λi σ H'=>∃ (v:Option V),σ=[some (.ref a),some (.ref pc),v]/\Same H H'/\(∀ b u,b≠pc->H1 b=some u->H' b=some u)/\eX2 H' pc cws i)
   ⟨_,rfl,s01,λb u _ h=>h,[],rfl,ec1,λj w d hj=>absurd hj (Fa _)⟩ (λi σ H' _ ⟨_,_,_,k,_⟩=>aL (k _ _ (Ne.symm hcr) e1)) ?_ ?_
 · rintro i x σ H2 hx ⟨v,rfl,s2,k2,ds,dl,ed,hds⟩;rw [Ag] at hx;cases e:ps[i]? with
   | none=>rw [e] at hx; cases hx
   | some p=>
     rw [e] at hx;cases hx;have hi:i<(wl cws).length:=by rw [<-hpl]; exact (Ae.mp e).1
     have ew:(wl cws)[i]?=some (wl cws)[i]:=Aa hi
     have hm:=wlP_mem.mp (Bv hi)
     have htp1:=tat i p _ e ew
     have hpne:p≠pc:=λz=>by rw [z,ec1] at htp1; cases htp1
     have ht:=k2 _ _ hpne htp1
     have hnew:(wl cws)[i] ∉ (wl cws).take i:=λz=>by
       obtain ⟨j,hj,ej⟩:=Cc.mp z;rw [Bs] at hj;rw [List.getElem_take] at ej;have:=(Fw (lO cws cws.length)).mp ej
       omega
     have htk:(wl cws).take (i+1)=(wl cws).take i++[(wl cws)[i]]:=by rw [Ba,ew]; rfl
     generalize hw:(wl cws)[i]=w at hm ht hnew htk ew;obtain ⟨h1,h2,h3⟩:=hm;have ecw:cws[w.1]?=some (cws.getD w.1 []):=by rw [Ac,Aa h1]; rfl
     have h7w:=h7 _ (Ai ecw)
     have ha2:=aH s2 ha
     walk_at "go";refine gD ht (v:=.int (w.1:Int)) rfl ?_;walk_at "go";refine cQ ha2 (v:=.str (bC (cws.getD w.1 []))) (eI (by rw [Ag,Ag,ecw]; rfl)) ?_
     walk_at "go";refine gD ht (v:=.int (w.2:Int)) rfl ?_;walk_at "go";refine ⟨cws.getD w.1 [],w.2 - 1,_,rfl,by omega,by omega,h7w,λd H3 hd s3 e3=>?_⟩
     walk_at "go";have dl2:ds.length=((wl cws).take i).length:=by rw [dl,Bs]; omega
     refine pC (k:=cL w) (s3 _ _ ed) (s3 _ _ ht) (aV (by rw [sT dl2,Bs]; omega)) ?_
     have hdp:d≠pc:=λz=>by rw [z,ed] at hd; cases hd
     refine ⟨_,rfl,aY hpc (s2.trans s3),λb u hb hu=>by rw [aK hb]; exact s3 _ _ (k2 b u hb hu),ds++[d],by rw [Aj,dl]; rfl,?_,λj v' d' hj hv hd'=>?_⟩
     · rw [aD,iT _ (aQZ hnew),htk,aQ3 dl2]
     · by_cases hjl:j<i
       · rw [Ap (by omega)] at hd'
         have hold:=hds j v' d' hjl hv hd'
         rw [aK (λz=>by rw [z,ed] at hold; cases hold)]
         exact s3 _ _ hold
       · have hj2:j=i:=by omega
         subst hj2;rw [ew] at hv;cases hv;rw [Av (by omega),dl,Fz] at hd'
         cases hd';rw [aK hdp];exact e3
 · rintro σ H2 ⟨v,rfl,s2,k2,hch⟩;rw [hpm] at hch;walk_at "go";exact q pc H2 hpc s2 hch
def zJ (w:Wt) (A:List (Nat×Wt)) (f:Nat):List (Nat×Wt):=if f∈A.map (·.1) then A else A++[(f,w)]
def eC (ch:Wt->List Nat) (m:List (Wt×Nat)) (first:Wt):Nat->List (Nat×Wt)
 | 0=>[]
 | t+1=>match (bY m first (eC ch m first t))[t]? with
   | some w=>(ch w).foldl (zJ w) (eC ch m first t)
   | none=>eC ch m first t
theorem qN {ch:Wt->List Nat} {m:List (Wt×Nat)} {first:Wt} {t:Nat} (h:(bY m first (eC ch m first t)).length<=t):∀ k,eC ch m first (t+k)=eC ch m first t
 | 0=>rfl
 | k+1=>by
   have ih:=qN h k
   show (match (bY m first (eC ch m first (t+k)))[t+k]? with
     | some w=>(ch w).foldl (zJ w) (eC ch m first (t+k))
     | none=>eC ch m first (t+k))=_
   rw [ih,Fn (by omega)]
def oY (ch:Wt->List Nat) (m:List (Wt×Nat)) (first:Wt):List (Nat×Wt):=eC ch m first 57
theorem cX3 {ch:Wt->List Nat} {m:List (Wt×Nat)} {first:Wt} {t:Nat} (h:(bY m first (eC ch m first t)).length<=t) (ht:t<=57):eC ch m first t=oY ch m first:=by
 unfold oY;have e:57=t+(57 - t):=by omega
 rw [e,qN h (57 - t)]
inductive AlongR (A:List (Nat×Wt)):Nat->List (Wt×Nat)->List (Wt×Nat)->Prop
 | stop {c j:Nat} {w:Wt} {m:List (Wt×Nat)}:A[j]?=some (c,w)->dM m w=none->AlongR A c m (vQ m w c)
 | step {c j g:Nat} {w:Wt} {m m':List (Wt×Nat)}:A[j]?=some (c,w)->dM m w=some g->AlongR A g (vQ m w c) m'->AlongR A c m m'
theorem uQ {A:List (Nat×Wt)} (nd:(A.map (·.1)).Nodup) {c i j:Nat} {u v:Wt} (hi:A[i]?=some (c,u)) (hj:A[j]?=some (c,v)):u=v:=by
 have e:=aZX nd hi hj
 subst e;rw [hi] at hj;cases hj;rfl
theorem AlongR.one {A:List (Nat×Wt)} (nd:(A.map (·.1)).Nodup) {c:Nat} {m m1:List (Wt×Nat)} (h:AlongR A c m m1):∀ {m2},AlongR A c m m2->m1=m2:=by
 induction h with
 | stop ha hg=>
   intro m2 h2;cases h2 with
   | stop hb hg2=>rw [uQ nd ha hb]
   | step hb hg2 _=>rw [uQ nd hb ha,hg] at hg2; cases hg2
 | step ha hg _ ih=>
   intro m2 h2;cases h2 with
   | stop hb hg2=>rw [uQ nd hb ha,hg] at hg2; cases hg2
   | step hb hg2 r=>
     obtain rfl:=uQ nd ha hb;rw [hg] at hg2;cases hg2;exact ih r
def tE (n:Nat->Int) (m:List (Wt×Nat)) (A:List (Nat×Wt)):List Nat:=(A.map (·.1)).filter λc=>decide (0<n c - (ctm m c:Int))
inductive StateR (cws:List (List Nat)) (n:Nat->Int):Nat->List (Wt×Nat)->Prop
 | zero:StateR cws n 0 []
 | succ {i c:Nat} {m m':List (Wt×Nat)} {w:Wt}:StateR cws n i m->(wl cws)[i]?=some w->((oY (chW cws) m w).map (·.1)).Nodup->(tE n m (oY (chW cws) m w)).head?=some c->AlongR (oY (chW cws) m w) c m m'->StateR cws n (i+1) m'
theorem StateR.one {cws:Q5} {n:Nat->Int} {i:Nat} {m:List (Wt×Nat)} (h:StateR cws n i m):∀ {m'},StateR cws n i m'->m=m':=by
 induction h with
 | zero=>intro m' h2; cases h2; rfl
 | succ _ hw nd hf ha ih=>
   intro m2 h2;cases h2 with
   | succ s2 hw2 _ hf2 ha2=>
     obtain rfl:=ih s2;rw [hw] at hw2;cases hw2;rw [hf] at hf2;cases hf2;exact ha.one nd ha2
theorem StateR.down {cws:Q5} {n:Nat->Int} {i j:Nat} {m:List (Wt×Nat)} (h:StateR cws n j m):i<j->∃ m1 w c,StateR cws n i m1/\(wl cws)[i]?=some w/\(tE n m1 (oY (chW cws) m1 w)).head?=some c:=by
 induction h with
 | zero=>exact λz=>absurd z (Fa _)
 | @succ k c m m' w s hw nd hf ha ih=>
   intro hi;by_cases e:i=k
   · subst e;exact ⟨m,w,c,s,hw,hf⟩
   · exact ih (by omega)
def LackIs (cws:List (List Nat)) (n:Nat->Int) (W:List Wt) (F:List Nat):Prop:=∃ (i:Nat) (m:List (Wt×Nat)) (w:Wt),StateR cws n i m/\(wl cws)[i]?=some w/\tE n m (oY (chW cws) m w)=[]/\W=jT m w (oY (chW cws) m w) (wl cws)/\F=flagsT.cps.toList.filter λc=>decide (c∈(oY (chW cws) m w).map (·.1))
theorem cQ2 {l:List Nat} {c:Nat} (h:l=[]) (h':l.head?=some c):False:=by
 rw [h] at h';cases h'
theorem LackIs.one {cws:Q5} {n:Nat->Int} {W W':List Wt} {F F':List Nat} (h:LackIs cws n W F) (h':LackIs cws n W' F'):W=W'/\F=F':=by
 obtain ⟨i,m,w,s,hw,hf,hW,hF⟩:=h;obtain ⟨j,m2,w2,s2,hw2,hf2,hW2,hF2⟩:=h';have key:∀ {i j:Nat} {m m2:List (Wt×Nat)} {w:Wt},StateR cws n i m->(wl cws)[i]?=some w->tE n m (oY (chW cws) m w)=[]->StateR cws n j m2->¬ i<j:=fun {i j m m2 w} s hw hf s2 l=>by
   obtain ⟨m1,w1,c,s1,hw1,hf1⟩:=s2.down l;have em:m=m1:=s.one s1
   have ew:w=w1:=Bo (hw.symm.trans hw1)
   rw [<-em,<-ew] at hf1;exact cQ2 hf hf1
 have e:i=j:=Nat.le_antisymm (Nat.not_lt.mp (key s2 hw2 hf2 s)) (Nat.not_lt.mp (key s hw hf s2))
 rw [<-e] at s2 hw2;have em:m=m2:=s.one s2
 have ew:w=w2:=Bo (hw.symm.trans hw2)
 rw [hW,hW2,hF,hF2,em,ew];exact ⟨rfl,rfl⟩
def dZV (cws:List (List Nat)) (n:Nat->Int) (fs:List Nat):Prop:=∃ m,StateR cws n (wl cws).length m/\fs=m.map (·.2)
def gW (m:List (Wt×Nat)):List (List Key×V):=m.map λx=>(cL x.1,V.str (one x.2))
theorem kG (m:List (Wt×Nat)) (w:Wt):bZ (gW m) (cL w)=(dM m w).map λf=>V.str (one f):=by
 induction m with
 | nil=>rfl
 | cons x m ih=>
   show bZ ((cL x.1,V.str (one x.2))::gW m) _=_
   rw [fW];by_cases e:x.1=w
   · rw [if_pos e,cH (by show cL x.1=cL w; rw [e])]
     rfl
   · rw [if_neg e,cD (λz=>e (kM z)),ih]
def gF (A:List (Nat×Wt)) (bs:List Addr):List (Key×V):=List.zipWith (λx b=>(Sum.inr (one x.1),V.ref b)) A bs
theorem kZ {A:List (Nat×Wt)} {bs:List Addr} (hl:bs.length=A.length) (f:Nat):(bZ (gF A bs) (Sum.inr (one f))).isSome=decide (f∈A.map (·.1)):=by
 induction A generalizing bs with
 | nil=>rfl
 | cons x A ih=>
   cases bs with
   | nil=>cases hl
   | cons b bs=>
     show (bZ ((Sum.inr (one x.1),V.ref b)::gF A bs) _).isSome=_
     by_cases e:x.1=f
     · rw [cH (by show (Sum.inr (one x.1):Key)=Sum.inr (one f); rw [e]),An (by rw [<-e]; exact As)]
       rfl
     · rw [cD (λz=>e (key_one.mp z)),ih (by simpa using hl)]
       exact Dr.mpr ⟨λz=>Ao _ z,λz=>(Bd.mp z).resolve_left λy=>e y.symm⟩
theorem aJD {A:List (Nat×Wt)} {bs:List Addr} (hl:bs.length=A.length) {f:Nat} (h:f ∉ A.map (·.1)):bZ (gF A bs) (Sum.inr (one f))=none:=by
 have r:=kZ hl f
 rw [Am h] at r;cases e:bZ (gF A bs) (Sum.inr (one f)) with
 | none=>rfl
 | some v=>rw [e] at r; cases r
theorem aJN {A:List (Nat×Wt)} {bs:List Addr} {x:Nat×Wt} {b:Addr} (hl:bs.length=A.length):gF (A++[x]) (bs++[b])=gF A bs++[(Sum.inr (one x.1),V.ref b)]:=by
 unfold gF;rw [List.zipWith_append (by omega)]
 rfl
theorem pJ {A:List (Nat×Wt)} {bs:List Addr} (hl:bs.length=A.length):(gF A bs).length=A.length:=by
 unfold gF;rw [List.length_zipWith];omega
theorem bXQ {A:List (Nat×Wt)} {bs:List Addr} (nd:(A.map (·.1)).Nodup) (hl:bs.length=A.length) {j f:Nat} {w:Wt} {b:Addr} (hA:A[j]?=some (f,w)) (hb:bs[j]?=some b):bZ (gF A bs) (Sum.inr (one f))=some (.ref b):=by
 induction A generalizing bs j with
 | nil=>cases hA
 | cons x A ih=>
   cases bs with
   | nil=>cases hl
   | cons e bs=>
     show bZ ((Sum.inr (one x.1),V.ref e)::gF A bs) _=_
     rw [Au,Cb] at nd;cases j with
     | zero=>cases hA; cases hb; exact cH rfl
     | succ j=>
       have hm:f∈A.map (·.1):=Be.mpr ⟨(f,w),Ai (show A[j]?=some (f,w) from hA),rfl⟩
       rw [cD (λz=>nd.1 (by rw [key_one.mp z]; exact hm))]
       exact ih nd.2 (by simpa using hl) hA hb
def WtsAt (H:Hp) (rs:List Addr) (ws:List Wt):Prop:=rs.length=ws.length/\∀ (j:Nat) r w,rs[j]?=some r->ws[j]?=some w->H r=some (.tup (wV w))
theorem WtsAt.keep {H H':Hp} {rs:List Addr} {ws:List Wt} (h:WtsAt H rs ws) (k:∀ r w,H r=some (.tup (wV w))->H' r=some (.tup (wV w))):WtsAt H' rs ws:=⟨h.1,λj r w hr hw=>k _ _ (h.2 j r w hr hw)⟩
theorem WtsAt.app {H:Hp} {rs qs:List Addr} {ws vs:List Wt} (h:WtsAt H rs ws) (g:WtsAt H qs vs):WtsAt H (rs++qs) (ws++vs):=by
 refine ⟨by rw [Aj,Aj,h.1,g.1],λj r w hr hw=>?_⟩
 by_cases hj:j<rs.length
 · rw [Ap hj] at hr;rw [Ap (by rw [<-h.1]; exact hj)] at hw
   exact h.2 j r w hr hw
 · rw [Av (by omega)] at hr
   rw [Av (by rw [<-h.1]; omega),<-h.1] at hw
   exact g.2 _ r w hr hw
theorem WtsAt.one {H:Hp} {r:Addr} {w:Wt} (h:H r=some (.tup (wV w))):WtsAt H [r] [w]:=⟨rfl,λj q v hq hv=>by
 cases j with
 | zero=>cases hq; cases hv; exact h
 | succ j=>cases hq⟩
def ChRd (H:Hp) (r:Addr) (cws:List (List Nat)):Prop:=∃ ds:List Addr,ds.length=(wl cws).length/\Rd H r (.dT (eF (wl cws) ds))/\∀ (j:Nat) w d,(wl cws)[j]?=some w->ds[j]?=some d->H d=some (.lst (((chW cws w).map one).map V.str))
theorem ChRd.keep {H H':Hp} {r:Addr} {cws:Q5} (h:ChRd H r cws) (s:Same H H'):ChRd H' r cws:=by
 obtain ⟨ds,h1,h2,h3⟩:=h;exact ⟨ds,h1,h2.elim (λe=>.inl (s _ _ e)) λ⟨o,e⟩=>.inr ⟨o,s _ _ e⟩,λj w d hw hd=>s _ _ (h3 j w d hw hd)⟩
structure HungOk (cws:List (List Nat)) (m:List (Wt×Nat)):Prop where
 nd:(m.map (·.1)).Nodup
 sub:∀ x∈m,x.1∈wl cws
theorem bXZ {cws:Q5} (hL:∀ c∈cws,c.length<=7/\∀ d∈c,bQ d) {w:Wt} (hw:w∈wl cws) {f:Nat} (hf:f∈chW cws w):nG f:=by
 obtain ⟨h1,h2,h3⟩:=wlP_mem.mp hw;have ecw:cws[w.1]?=some (cws.getD w.1 []):=by rw [Ac,Aa h1]; rfl
 rcases ch_iff.mp hf with e | ⟨n,_,h4,_,e⟩
 · rw [e];exact .inl (xK (hL _ (Ai ecw)).2 (by omega))
 · rw [e];exact .inr ⟨by omega,by omega⟩
theorem bZU {cws:Q5} {m:List (Wt×Nat)} {first:Wt} {A:List (Nat×Wt)} (hm:HungOk cws m) (hfw:first∈wl cws) (h:Asking (chW cws) m first A) {j f:Nat} {w:Wt} (hj:A[j]?=some (f,w)):w∈wl cws:=by
 rcases (h.ok j f w hj).2 with e | ⟨g,i,v,_,_,hg⟩
 · rw [e]; exact hfw
 · exact hm.sub _ (yJ hg)
theorem aZZ {cws:Q5} {m:List (Wt×Nat)} {first:Wt} {A:List (Nat×Wt)} (hm:HungOk cws m) (hfw:first∈wl cws) (hL:∀ c∈cws,c.length<=7/\∀ d∈c,bQ d) (h:Asking (chW cws) m first A):A.length<=27:=by
 have r:=uS (m:=flagsT.cps.toList) h.nd λf hf=>by
   obtain ⟨x,hx,rfl⟩:=Be.mp hf;obtain ⟨j,hj,e⟩:=Cc.mp hx;have hj2:A[j]?=some (x.1,x.2):=by rw [Aa hj,e]
   exact flags_mem.mpr (bXZ hL (bZU hm hfw h hj2) (h.ok j _ _ hj2).1)
 rw [Ab] at r;exact r
def lE:Sp:=λvs H Q _=>∃ (bf ac ah:Addr) (cws:List (List Nat)) (m:List (Wt×Nat)) (first:Wt),vs=[.ref bf,.ref ac,.ref ah]/\H bf=some (.tup (wV first))/\first∈wl cws/\ChRd H ac cws/\H ah=some (.dT (gW m))/\HungOk cws m/\m.length<=56/\cws.length<=8/\(∀ c∈cws,c.length<=7/\∀ d∈c,bQ d)/\
 ∀ (r:Addr) (A:List (Nat×Wt)) (bs:List Addr) (H':Hp),H r=none->Same H H'->H' r=some (.dK (gF A bs))->WtsAt H' bs (A.map (·.2))->Asked (chW cws) m first A->A=oY (chW cws) m first->Q (.ref r) H'
theorem sc_asked_from:FnScope ["first", "choices", "hung", "asked", "reached", "at", "asking", "flag"] ["first", "choices", "hung"] (aG dI):=by walk_at "sc"
theorem rY {Zw Zz Zx Zy:Addr} {f:Addr} {fd:FuncData} (F:Fun K "asked_from" "asked_from" dI f fd) (G:Gs K mg Zw Zz Zx Zy)  : FnOk P w K mg base CX0 1 f fd ["first", "choices", "hung"] lE:=by
 refine F.ok sc_asked_from (λvs H Q E h=>?_) (λcdv A outer s H vs Q E hr h=>?_)
 · obtain ⟨bf,ac,ah,cws,m,first,rfl,_⟩:=h; rfl
 obtain ⟨bf,ac,ah,cws,m,first,rfl,hbf,hfw,hch,hah,hm,hml,h8,hL,q⟩:=h
 refine ⟨_,(@aE _ _ _ _ _ (@aP _ _ 3 _ _ _ _ sc_asked_from.nd (by rfl) (by exact (Or.inl rfl)) pI (by rfl) (by walk_at "o")) (@aE _ _ _ _ _ (@aP _ _ 4 _ _ _ _ sc_asked_from.nd (by rfl) (by exact (Or.inl rfl)) (bR (aA (mv 0) aB)) (by rfl) (by walk_at "o")) (@aE _ _ _ _ _ (@aP _ _ 5 _ _ _ _ sc_asked_from.nd (by rfl) (by exact (Or.inl rfl)) aJ (by rfl) (by walk_at "o")) (@aE _ _ _ _ _ (wW Az (bB bQB (mv 5) (aU eE rfl G.b_len cI (aA (mv 4) aB)) (bI _)) (@aE _ _ _ _ _ (@aP _ _ 6 _ _ _ _ sc_asked_from.nd (by rfl) (by exact (Or.inl rfl)) (bG cC (mv 4) (mv 5) (λ_ _=>rfl)) (by rfl) (by walk_at "o")) (@aE _ _ _ _ _ (bN Az rfl (bH (hV (Room.u1 hr) (mv 1) (mv 6) (λ_ _=>rfl))) (aO (i:=7) sc_asked_from.nd rfl (Or.inr rfl)) (@aI _ _ _ (cU (bB (cQF (Room.u1 hr)) (mv 7) (mv 3) (by rfl)) (@aE _ _ _ _ _ (dR (Room.u1 hr) (mv 3) (mv 7) (mv 6) rfl) (@aI _ _ _ (cG (cV Bj Ee Ef yA (mv 4) (aA (bZ6 (cJ rfl (mP (mv 2)) (fI (N:=["want", "flag", "hung"]) ["first", "choices", "hung", "asked", "reached", "at", "asking", "flag"] (aG dI) [none,some 7,some 2] rfl rfl rfl (λx h=>bU h) (by decide +kernel)) (by decide +kernel) rfl (by decide +kernel) (λC s₀ H₀ ex=>(aO (i:=0) (show List.Nodup (["want", "flag", "hung"]:List Str) by decide +kernel) rfl (Or.inl rfl))) (λC s₀ H₀ ex=>(iG (bB uT (hV (Room.u1 hr) (mv 2) (mv 0) (λ_ _=>rfl)) (mv 1) (bI _)))) (λC s₀ H₀ ex=>(mv 0)))) aB))))) bO))) (@aI _ _ _ (@aP _ _ 5 _ _ _ _ sc_asked_from.nd (by rfl) (by exact (Or.inl rfl)) (aX cB (mv 5) aJ) (by rfl) (by walk_at "o")))))) (@aI _ _ _ (aW (mv 3))))))),?_⟩
 walk_at "go";intro pa hpa;walk_at "go";refine ⟨by show 1<=sizeLine; decide,λpr hpr=>?_⟩
 have s1:=(aF hpa (.dK [])).trans (aF hpr (.lst [.ref bf]))
 have npr:pa≠pr:=λz=>by rw [<-z,aD] at hpr; cases hpr
 have ea1:(upd (upd H pa (.dK [])) pr (.lst [.ref bf])) pa=some (.dK []):=by rw [aK npr,aD]
 have er1:(upd (upd H pa (.dK [])) pr (.lst [.ref bf])) pr=_:=aD
 have hpr0:H pr=none:=bA (aF hpa _) hpr
 generalize upd (upd H pa (.dK [])) pr (.lst [.ref bf])=H1 at s1 ea1 er1 ⊢;walk_at "go";refine ⟨λn σ H'=>∃ (A:List (Nat×Wt)) (bs rs:List Addr) (t:Nat) (v1 v2:Option V),σ=[some (.ref bf),some (.ref ac),some (.ref ah),some (.ref pa),some (.ref pr),some (.int (t:Int)),v1,v2]/\Same H H'/\H' pa=some (.dK (gF A bs))/\WtsAt H' bs (A.map (·.2))/\H' pr=some (.lst (rs.map V.ref))/\WtsAt H' rs (bY m first A)/\
     Asking (chW cws) m first A/\t<=(bY m first A).length/\(∀ (j:Nat) w,j<t->(bY m first A)[j]?=some w->∀ f∈chW cws w,f∈A.map (·.1))/\A=eC (chW cws) m first t/\n=1+m.length - t,⟨_,[],[],[bf],0,_,_,rfl,s1,ea1,⟨rfl,λj r w hr=>(nomatch hr)⟩,er1,.one (s1 _ _ hbf),⟨List.nodup_nil,λj f w hj=>(nomatch hj)⟩,Bw _,λj w hj=>absurd hj (Fa _),rfl,rfl⟩,?_⟩
 rintro n σ H2 ⟨A,bs,rs,t,v1,v2,rfl,s2,ea2,wb2,er2,wr2,hask,htl,hcl,hai,rfl⟩;have hrl:(rs.map V.ref).length=(bY m first A).length:=by rw [Ab,wr2.1]
 have rr2:=aL er2
 walk_at "go";rw [hrl];refine iI (λhd=>?_) (λhd=>?_)
 · have hd':=Bg hd
   have ht:t<(bY m first A).length:=by omega
   have hrm:=nN (m:=m) (first:=first) hask.nd
   have htr:t<rs.length:=by rw [wr2.1]; exact ht
   have ew:(bY m first A)[t]?=some (bY m first A)[t]:=Aa ht
   have er:rs[t]?=some rs[t]:=Aa htr
   have hwt:=wr2.2 t _ _ er ew
   have hww:(bY m first A)[t]∈wl cws:=by
     rcases reach_mem.mp (Bv ht) with e | ⟨f,_,hm2⟩
     · rw [e]; exact hfw
     · exact hm.sub _ hm2
   generalize hbw:rs[t]=b at hwt er;generalize hwe:(bY m first A)[t]=w at hwt hww ew
   clear hbw hwe hd hd';obtain ⟨ds,d1,d2,d3⟩:=id hch;obtain ⟨jw,hjw,ejw⟩:=Cc.mp hww;have ejw2:(wl cws)[jw]?=some w:=by rw [Aa hjw,ejw]
   have edw:ds[jw]?=some (ds[jw]'(by omega)):=Aa (by omega)
   have hdlH:=d3 jw w _ ejw2 edw
   have hdv:=aJZ (lO cws cws.length) d1 ejw2 edw
   generalize (ds[jw]'(by omega))=dl at hdlH hdv
   have hdl:=s2 _ _ hdlH
   have d22:Rd H2 ac (.dT (eF (wl cws) ds)):=d2.elim (λe=>.inl (s2 _ _ e)) λ⟨o,e⟩=>.inr ⟨o,s2 _ _ e⟩
   refine ⟨λσ' H'=>∃ (A:List (Nat×Wt)) (bs rs:List Addr) (v1 v2:Option V),σ'=[some (.ref bf),some (.ref ac),some (.ref ah),some (.ref pa),some (.ref pr),some (.int ((t+1:Nat):Int)),v1,v2]/\Same H H'/\H' pa=some (.dK (gF A bs))/\WtsAt H' bs (A.map (·.2))/\H' pr=some (.lst (rs.map V.ref))/\WtsAt H' rs (bY m first A)/\
     Asking (chW cws) m first A/\t+1<=(bY m first A).length/\(∀ (j:Nat) w,j<t+1->(bY m first A)[j]?=some w->∀ f∈chW cws w,f∈A.map (·.1))/\A=eC (chW cws) m first (t+1),?_,?_⟩
   · rintro σ' H' ⟨A',bs',rs',v1',v2',rfl,g1,g2,g3,g4,g5,g6,g7,g8,g9⟩;exact ⟨1+m.length - (t+1),by omega,A',bs',rs',t+1,v1',v2',rfl,g1,g2,g3,g4,g5,g6,g7,g8,g9,rfl⟩
   have hits:eC (chW cws) m first (t+1)=(chW cws w).foldl (zJ w) (eC (chW cws) m first t):=by
     show (match (bY m first (eC (chW cws) m first t))[t]? with | some w=>(chW cws w).foldl (zJ w) (eC (chW cws) m first t) | none=>eC (chW cws) m first t)=_
     rw [<-hai,ew]
   walk_at "go";refine cQ rr2 (v:=.ref b) (eI (by rw [Ag,er]; rfl)) ?_
   walk_at "go";refine zU (k:=cL w) d22 hwt hdv ?_;have rdl:=aL hdl
   have hcl5:=(cQ3 (cws.getD w.1 []) (w.2 - 1)).2
   have hcm:(((chW cws w).map one).map V.str).length=(chW cws w).length:=by rw [Ab,Ab]
   walk_at "go";have kt:∀ {H':Hp} {p:Addr} {u u':HO},H' p=some u->(∀ ws,u≠.tup ws)->∀ r w,H' r=some (.tup (wV w))->(upd H' p u') r=some (.tup (wV w)):=fun {H' p u u'} e ne r w h=>by
     rw [aK (λz=>by rw [z,e] at h; cases h; exact ne _ rfl)]
     exact h
   refine cF (xs:=((chW cws w).map one).map V.str) (λi σ H'=>∃ (A:List (Nat×Wt)) (bs rs:List Addr) (v2:Option V),σ=[some (.ref bf),some (.ref ac),some (.ref ah),some (.ref pa),some (.ref pr),some (.int (t:Int)),some (.ref b),v2]/\Same H H'/\H' pa=some (.dK (gF A bs))/\WtsAt H' bs (A.map (·.2))/\H' pr=some (.lst (rs.map V.ref))/\WtsAt H' rs (bY m first A)/\
       H' b=some (.tup (wV w))/\Asking (chW cws) m first A/\(bY m first A)[t]?=some w/\(∀ (j:Nat) v,j<t->(bY m first A)[j]?=some v->∀ f∈chW cws v,f∈A.map (·.1))/\(∀ f∈(chW cws w).take i,f∈A.map (·.1))/\A=((chW cws w).take i).foldl (zJ w) (eC (chW cws) m first t))
     ⟨A,bs,rs,_,rfl,s2,ea2,wb2,er2,wr2,hwt,hask,ew,hcl,(λf hf=>(nomatch hf)),hai⟩ (λi σ H' _ ⟨_,_,_,_,_,e,_⟩=>aL (e _ _ hdlH)) ?_ ?_
   · clear hask ew hcl hrm htl hrl rr2 wr2 er2 wb2 ea2 er hai;rintro i x σ H3 hx ⟨A,bs,rs,v2,rfl,s3,ea,wb,er,wr,hb,hask,ew,hcl,hpre,hfo⟩;rw [Ag,Ag] at hx;cases ef:(chW cws w)[i]? with
     | none=>rw [ef] at hx; cases hx
     | some f=>
       rw [ef] at hx;cases hx;have hfc:=Ai ef
       have htk:(chW cws w).take (i+1)=(chW cws w).take i++[f]:=by rw [Ba,ef]; rfl
       have hbl:bs.length=A.length:=by rw [wb.1,Ab]
       have hAl:=aZZ hm hfw hL hask
       have hfo1:((chW cws w).take (i+1)).foldl (zJ w) (eC (chW cws) m first t)=zJ w A f:=by rw [htk,Fq,<-hfo]; rfl
       walk_at "go";refine cJS (neg:=true) (z:=one f) (.inl ea) ?_;rw [if_pos rfl,kZ hbl];refine iI (λhd=>?_) (λhd=>?_)
       · have hni:f ∉ A.map (·.1):=λz=>by rw [An z] at hd; cases hd
         walk_at "go";refine gA (z:=one f) ea (aV (by rw [pJ hbl]; omega)) ?_
         rw [iT _ (aJD hbl hni),<-aJN (x:=(f,w)) hbl];have s4:Same H (upd H3 pa (.dK (gF (A++[(f,w)]) (bs++[b])))):=aY hpa s3
         have ea4:(upd H3 pa (.dK (gF (A++[(f,w)]) (bs++[b])))) pa=_:=aD
         have er4:(upd H3 pa (.dK (gF (A++[(f,w)]) (bs++[b])))) pr=_:=(aK (Ne.symm npr)).trans er
         have k4:=kt (u':=.dK (gF (A++[(f,w)]) (bs++[b]))) ea (λws z=>nomatch z)
         have wb4:=wb.keep k4
         have wr4:=wr.keep k4
         have hb4:=k4 _ _ hb
         generalize upd H3 pa (.dK (gF (A++[(f,w)]) (bs++[b])))=H4 at s4 ea4 er4 wb4 wr4 hb4 ⊢;have ah4:=s4 _ _ hah
         clear k4 wb wr er ea s3 hb;walk_at "go";refine uU ah4 λo=>?_;have fz:(upd H4 ah (.frz o (.dT (gW m)))) ah=_:=aD
         have hkl:(gW m).length=m.length:=by unfold gW; rw [Ab]
         refine fE (n:=m.length) (λD i ys Hc=>Same (upd H4 ah (.frz o (.dT (gW m)))) Hc/\∃ qs,ys=qs.map V.ref/\WtsAt Hc qs (eO (m.take i) f)) (aV (by omega)) (λD hD=>⟨aF hD _,[],rfl,rfl,λj r w hr=>(nomatch hr)⟩) (λD i ys Hc _ r h=>⟨r.1 _ _ fz,by omega⟩) (λD ys Hc _ r=>⟨r.1 _ _ fz,hkl⟩) ?_ ?_
         · rintro D i2 ys Hc x H' A' B' hD hi2 ⟨sm,qs,rfl,wq⟩ hDc ⟨rfl,kv,b2,hkv,rfl,hb2⟩ hA' hB';have em:m[i2]?=some m[i2]:=Aa hi2
           unfold gW at hkv;rw [Ag,em] at hkv;cases hkv;have hbt:H' b2=some (.tup (wV m[i2].1)):=hb2
           have hv:bZ (gW m) (cL m[i2].1)=some (.str (one m[i2].2)):=by
             rw [kG,mW hm.nd (w:=m[i2].1) (f:=m[i2].2) (Bv hi2)];rfl
           have tk:m.take (i2+1)=m.take i2++[m[i2]]:=by rw [Ba,em]; rfl
           rw [tk] at hA' hB';generalize m[i2]=x2 at hbt hv hA' hB';walk_at "go";refine ⟨Wk.set rfl (Wk.refl _),?_⟩;walk_at "go";refine zU (k:=cL x2.1) (.inr ⟨o,sm _ _ fz⟩) hbt hv ?_;walk_at "go";rw [show decide (one x2.2=one f)=decide (x2.2=f) from vY _ _];refine iI (λhe=>?_) (λhe=>?_)
           · have he':=Bg he
             walk_at "go";refine hA' _ _ hDc ⟨aY hD sm,qs++[b2],by rw [Ak]; rfl,?_⟩
             rw [show eO (m.take i2++[x2]) f=eO (m.take i2) f++[x2.1] by unfold eO; rw [List.filter_append,List.map_append]; simp [he']]
             exact (wq.app (.one hbt)).keep (kt hDc (λws z=>nomatch z))
           · have he':=Ca (Cd.mpr he)
             walk_at "go";refine hB' _ hDc ⟨sm,qs,rfl,?_⟩;rw [show eO (m.take i2++[x2]) f=eO (m.take i2) f by unfold eO; rw [List.filter_append,List.map_append]; simp [he']]
             exact wq
         · rintro D ys Hc hD ⟨sm,qs,rfl,wq⟩ hDc _;rw [Bl] at wq;have hD4:H4 D=none:=by
             by_cases z:D=ah
             · rw [z,aD] at hD; cases hD
             · rw [aK z] at hD; exact hD
           have su:=qU ah4 (λo v z=>nomatch z) sm
           have eu:=fN (Hs:=H4) hDc (λo v z=>nomatch z)
           have wqu:WtsAt (unf H4 Hc) qs (eO m f):=wq.keep λr w h=>fN h (λo v z=>nomatch z)
           generalize unf H4 Hc=Hu at su eu wqu;have eru:=su _ _ er4
           have hmr:=bF eru
           have hmd:=bF eu
           have nDr:pr≠D:=bL er4 hD4
           have hq1:qs.length<=56:=by rw [wqu.1,aQL]; unfold ctm; exact Bc List.countP_le_length hml
           have hr1:rs.length<=57:=by rw [wr4.1]; exact Bc (nN hask.nd) (by omega)
           have hlen:(rs.map V.ref).length+(qs.map V.ref).length<=sizeLine:=bP (by rw [Ab,Ab]; omega)
           walk_at "go";have kr:=kt (u':=.lst (rs.map V.ref++qs.map V.ref)) eru (λws z=>nomatch z)
           have hRt:=(Ae.mp ew).1
           refine ⟨A++[(f,w)],bs++[b],rs++qs,_,rfl,aY hpr0 (s4.trans su),?_,?_,?_,?_,?_,hask.snoc hm.nd hni hfc (Ai ew),?_,λj v hj hv=>?_,λg hg=>?_,by rw [hfo1]; exact (if_neg hni).symm⟩
           · rw [aK npr];exact su _ _ ea4
           · rw [Ak];exact ((wb4.keep λr w h=>su _ _ h).app (.one (su _ _ hb4))).keep kr
           · rw [aD,Ak]
           · rw [lQ];exact ((wr4.keep λr w h=>su _ _ h).app wqu).keep kr
           · exact kr _ _ (su _ _ hb4)
           · rw [lQ,Ap hRt];exact ew
           · rw [lQ,Ap (by omega)] at hv
             intro g hg;rw [Ak];exact Cr _ (hcl j v hj hv g hg)
           · rw [htk] at hg;rw [Ak];rcases Bk.mp hg with z | z
             · exact Cr _ (hpre g z)
             · rw [Aw.mp z]; exact Bq _ (Aw.mpr rfl)
       · have hin:f∈A.map (·.1):=by
           rw [Bool.not_eq_true,Bool.not_eq_false'] at hd;exact Bg hd
         walk_at "go";refine ⟨A,bs,rs,_,rfl,s3,ea,wb,er,wr,hb,hask,ew,hcl,λg hg=>?_,by rw [hfo1]; exact (if_pos hin).symm⟩
         rw [htk] at hg;rcases Bk.mp hg with z | z
         · exact hpre g z
         · rw [Aw.mp z]; exact hin
   · clear hask ew hcl hrm htl hrl rr2 wr2 er2 wb2 ea2 er hai;rintro σ H3 ⟨A,bs,rs,v2,rfl,s3,ea,wb,er,wr,hb,hask,ew,hcl,hpre,hfo⟩;rw [hcm,Bl] at hpre;rw [hcm,Bl] at hfo;walk_at "go";refine ⟨A,bs,rs,_,_,rfl,s3,ea,wb,er,wr,hask,(Ae.mp ew).1,λj v hj hv=>?_,by rw [hits]; exact hfo⟩
     by_cases hjt:j<t
     · exact hcl j v hjt hv
     · have:j=t:=by omega
       subst this;rw [ew] at hv;cases hv;exact hpre
 · have hd':=Ca (Cd.mpr hd)
   walk_at "go";refine q pa A bs H2 hpa s2 ea2 wb2 (hask.done λw hw f hf=>?_) (by rw [hai]; exact cX3 (by rw [<-hai]; omega) (by have:=nN (m:=m) (first:=first) hask.nd; omega))
   obtain ⟨j,hj,ej⟩:=Cc.mp hw;exact hcl j w (by omega) (by rw [Aa hj,ej]) f hf
theorem zA {m:List (Wt×Nat)} {w:Wt} {f:Nat}:dY (gW m) (cL w) (.str (one f))=gW (vQ m w f):=by
 have e:((gW m).any λkv=>decide (kv.1=cL w))=(dM m w).isSome:=by
   rw [fL,kG];cases dM m w <;> rfl
 unfold dY vQ;rw [e];by_cases h:(dM m w).isSome=true
 · rw [if_pos h,if_pos h];unfold gW;rw [By,By];refine Cp λx _=>?_;show (if cL x.1=cL w then (cL x.1,V.str (one f)) else (cL x.1,V.str (one x.2)))=(λx:Wt×Nat=>(cL x.1,V.str (one x.2))) (if x.1=w then (x.1,f) else x)
   by_cases ex:x.1=w
   · rw [if_pos ex,if_pos (by rw [ex])]
   · rw [if_neg ex,if_neg (λz=>ex (kM z))]
 · rw [if_neg h,if_neg h];unfold gW;rw [Ak];rfl
def lH:Sp:=λvs H Q _=>∃ (aa ah:Addr) (cws:List (List Nat)) (m:List (Wt×Nat)) (first:Wt) (A:List (Nat×Wt)) (bs:List Addr) (f0:Nat),vs=[.str (one f0),.ref aa,.ref ah]/\H aa=some (.dK (gF A bs))/\WtsAt H bs (A.map (·.2))/\Asking (chW cws) m first A/\H ah=some (.dT (gW m))/\(m.map (·.1)).Nodup/\first ∉ m.map (·.1)/\(∀ v f,(v,f) ∈ m->f ∈ chW cws v)/\f0 ∈ A.map (·.1)/\m.length<=56/\
 ∀ (m':List (Wt×Nat)) (H':Hp),(∀ b u,b≠ah->H b=some u->H' b=some u)->H' ah=some (.dT (gW m'))->m'.map (·.1)=m.map (·.1)++[first]->(∀ v f,(v,f)∈m'->f∈chW cws v)->(∀ f,ctm m' f=ctm m f+(if f=f0 then 1 else 0))->AlongR A f0 m m'->Q .non H'
theorem sc_hang_along:FnScope ["flag", "asked", "hung", "want", "given"] ["flag", "asked", "hung"] (aG dQ):=by walk_at "sc"
theorem rO {Zw Zz Zx Zy:Addr} {f:Addr} {fd:FuncData} (F:Fun K "hang_along" "hang_along" dQ f fd) (G:Gs K mg Zw Zz Zx Zy)  : FnOk P w K mg base CX0 1 f fd ["flag", "asked", "hung"] lH:=by
 refine F.ok sc_hang_along (λvs H Q E h=>?_) (λcdv A outer s H vs Q E hr h=>?_)
 · obtain ⟨aa,ah,cws,m,first,A,bs,f0,rfl,_⟩:=h; rfl
 obtain ⟨aa,ah,cws,m,first,A,bs,f0,rfl,haa,hwb,hask,hah,nd,hnf,hmc,hf0,hml,q⟩:=h
 refine ⟨_,(@aI _ _ _ (wW Az (bB uX (mv 0) gU (bI _)) (@aE _ _ _ _ _ (@aP _ _ 3 _ _ _ _ sc_hang_along.nd (by rfl) (by exact (Or.inl rfl)) (hV (Room.u1 hr) (mv 1) (mv 0) (λ_ _=>rfl)) (by rfl) (by walk_at "o")) (@aE _ _ _ _ _ (@aP _ _ 4 _ _ _ _ sc_hang_along.nd (by rfl) (by exact (Or.inl rfl)) (fJ Bt Co (bZ9 (Room.u1 hr)) (mv 2) (aA (mv 3) aB)) (by rfl) (by walk_at "o")) (@aE _ _ _ _ _ (dR (Room.u1 hr) (mv 2) (mv 3) (mv 0) rfl) (@aI _ _ _ (@aP _ _ 0 _ _ _ _ sc_hang_along.nd (by rfl) (by exact (Or.inl rfl)) (mv 4) (by rfl) (by walk_at "o")))))))),?_⟩
 have hbl:bs.length=A.length:=by rw [hwb.1,Ab]
 have nah:aa≠ah:=λz=>by rw [z,hah] at haa; cases haa
 obtain ⟨x0,hx0,e0⟩:=Be.mp hf0;obtain ⟨j0,hj0,ej0⟩:=Cc.mp hx0;have ej:A[j0]?=some (f0,x0.2):=by rw [Aa hj0,ej0,<-e0]
 walk_at "go";refine ⟨λn σ H'=>(∃ (m2:List (Wt×Nat)) (c j:Nat) (w:Wt) (v1 v2:Option V),σ=[some (.str (one c)),some (.ref aa),some (.ref ah),v1,v2]/\(∀ b u,b≠ah->H b=some u->H' b=some u)/\H' ah=some (.dT (gW m2))/\Along (chW cws) m A f0 m2 c j w/\(∀ m',AlongR A c m2 m'->AlongR A f0 m m')/\n=j+1)\/
     (∃ (m':List (Wt×Nat)) (v1 v2:Option V),σ=[some .non,some (.ref aa),some (.ref ah),v1,v2]/\(∀ b u,b≠ah->H b=some u->H' b=some u)/\H' ah=some (.dT (gW m'))/\m'.map (·.1)=m.map (·.1)++[first]/\(∀ v f,(v,f)∈m'->f∈chW cws v)/\(∀ f,ctm m' f=ctm m f+(if f=f0 then 1 else 0))/\AlongR A f0 m m'/\n=0),
   ⟨_,.inl ⟨m,f0,j0,x0.2,none,none,rfl,λb u _ h=>h,hah,⟨rfl,hmc,λf=>rfl,ej,λv g i u hg _ _=>hg⟩,λ_ h=>h,rfl⟩⟩,?_⟩
 rintro n σ H2 (⟨m2,c,j,w,v1,v2,rfl,fr,eh,al,hR,rfl⟩ | ⟨m',v1,v2,rfl,fr,eh,hk,hc,hct,hR,rfl⟩)
 · walk_at "go";rw [show (!decide (V.str (one c)=V.non))=true from rfl];walk_at "go";have hjl:=(Ae.mp al.at_).1
   have ebj:bs[j]?=some (bs[j]'(by omega)):=Aa (by omega)
   have hbt:=hwb.2 j _ w ebj (by rw [Ag,al.at_]; rfl)
   have hav:=bXQ hask.nd hbl al.at_ ebj
   generalize (bs[j]'(by omega))=b at hbt hav
   have nb:b≠ah:=λz=>by rw [z,hah] at hbt; cases hbt
   have haa2:=fr _ _ nah haa
   have hb2:=fr _ _ nb hbt
   have hkl:(gW m2).length<sizeLine:=by
     have:m2.length=m.length:=by rw [<-Ab (f:=(·.1)) (as:=m2),al.keys,Ab]
     unfold gW;rw [Ab];exact aV (by omega)
   have hdd:isD H2 ah=true:=by unfold isD; rw [eh]
   refine ⟨_,λσ' H' h=>h,?_⟩;walk_at "go";refine qG (z:=one c) (.inl haa2) hav ?_;walk_at "go";refine aZ0 (k:=cL w) (.inl eh) hb2 ?_;rw [kG];have fr2:∀ o,∀ b u,b≠ah->H b=some u->(upd H2 ah o) b=some u:=λo b u hb hu=>by rw [aK hb]; exact fr b u hb hu
   rcases (hask.ok j c w al.at_).2 with rfl | ⟨g,i,v,hij,hi,hg⟩
   · obtain ⟨l1,l2,l3,l4⟩:=al.last hask hnf;rw [l1];walk_at "go";refine pC (k:=cL w) eh hb2 hkl ?_;have hR':=hR _ (.stop al.at_ l1)
     have hpe:vQ m2 w c=m2++[(w,c)]:=by unfold vQ; rw [l1]; rfl
     rw [zA,hpe];rw [hpe] at hR';walk_at "go";exact ⟨0,by omega,.inr ⟨m2++[(w,c)],_,_,rfl,fr2 _,aD,l2,l3,l4,hR',rfl⟩⟩
   · obtain ⟨l1,l2⟩:=al.step hask nd hg hi hij;rw [l1];walk_at "go";refine pC (k:=cL w) eh hb2 hkl ?_;have hR':∀ m',AlongR A g (vQ m2 w c) m'->AlongR A f0 m m':=λm' h=>hR _ (.step al.at_ l1 h)
     have hpe:vQ m2 w c=m2.map λx=>if x.1=w then (x.1,c) else x:=by unfold vQ; rw [l1]; rfl
     rw [zA,hpe];rw [hpe] at hR';walk_at "go";exact ⟨i+1,by omega,.inl ⟨_,g,i,v,_,_,rfl,fr2 _,aD,l2,hR',rfl⟩⟩
 · walk_at "go";exact q m' H2 fr eh hk hc hct hR
def gI (aC:Addr):Sp:=λvs H Q _=>∃ (ea p q:Addr) (xs ys:List V),vs=[.ref ea,.ref p,.ref q]/\H ea=some (fM ea aC none)/\rdL H p=some xs/\rdL H q=some ys/\
 ∀ (dx l1 l2:Addr) (H':Hp),(∀ b u,b≠ea->H b=some u->H' b=some u)->H dx=none->dx≠ea->H' ea=some (fM ea aC (some dx))->H' dx=some (xdO dx [("flags",.ref l2),("wants",.ref l1)])->H' l1=some (.lst xs)->H' l2=some (.lst ys)->H l1=none->H l2=none->Q .non H'
theorem vE:FnScope ["self", "wants", "flags"] ["self", "wants", "flags"] (aG eV):=by walk_at "sc"
theorem vG {Zw Zz Zx Zy:Addr} {f:Addr} {fd:FuncData} (F:Fun K "__init__" "Lack.__init__" eV f fd) (G:Gs K mg Zw Zz Zx Zy)  : FnOk P w K mg base CX0 1 f fd ["self", "wants", "flags"] (gI Zw):=by
 refine F.ok vE (λvs H Q E h=>?_) (λcdv A outer s H vs Q E hr h=>?_)
 · obtain ⟨ea,p,q,xs,ys,rfl,_⟩:=h; rfl
 obtain ⟨ea,p,q,xs,ys,rfl,he,hp,hq,qq⟩:=h;refine ⟨_,(@aE _ _ _ _ _ (cG (yC rfl G.c_TowerError G.t1_TowerError G.t2_TowerError G.t3_TowerError (aA (mv 0) (aA (bK iH rfl G.b_list dG (aA (mv 1) aB)) (aA (bK iH rfl G.b_list dG (aA (mv 2) aB)) aB))))) (@aE _ _ _ _ _ (vO (mv 0) (bK iH rfl G.b_list dG (aA (mv 1) aB)) rfl) (@aI _ _ _ (vO (mv 0) (bK iH rfl G.b_list dG (aA (mv 2) aB)) rfl)))),?_⟩;walk_at "go";intro l1 hl1;have s1:=aF hl1 (.lst xs)
 generalize upd H l1 (.lst xs)=H1 at s1 ⊢;have hq1:=aH s1 hq
 walk_at "go";intro l2 hl2;have s2:=s1.trans (aF hl2 (.lst ys))
 generalize upd H1 l2 (.lst ys)=H2 at s2 ⊢;have he2:=s2 _ _ he
 walk_at "go";refine ⟨ea,[.ref l1,.ref l2],Zw,Zz,none,rfl,by show 2<=sizeLine; decide,he2,(λ_ z=>nomatch z),G.xc_Lack,?_⟩
 have hp2:=aH s2 hp
 walk_at "go";intro l3 hl3;have s3:=s2.trans (aF hl3 (.lst xs))
 have e3:(upd H2 l3 (.lst xs)) l3=_:=aD
 generalize upd H2 l3 (.lst xs)=H3 at s3 e3 ⊢;have he3:=s3 _ _ he
 walk_at "go";refine ⟨ea,Zw,Zz,rfl,G.xc_Lack,G.xn_Lack_wants,.inl ⟨he3,λdx hdx=>?_⟩⟩;have nde:dx≠ea:=λz=>by rw [z,he3] at hdx; cases hdx
 have fr4:∀ b u,b≠ea->H b=some u->(upd (upd H3 ea (fM ea Zw (some dx))) dx (xdO dx [("wants",.ref l3)])) b=some u:=λb u hb hu=>by
   have e:=s3 _ _ hu
   rw [aK (λz=>by rw [z,hdx] at e; cases e),aK hb]
   exact e
 have ee4:(upd (upd H3 ea (fM ea Zw (some dx))) dx (xdO dx [("wants",.ref l3)])) ea=some (fM ea Zw (some dx)):=by rw [aK nde.symm,aD]
 have ed4:(upd (upd H3 ea (fM ea Zw (some dx))) dx (xdO dx [("wants",.ref l3)])) dx=_:=aD
 have n3e:l3≠ea:=λz=>by rw [z,he3] at e3; cases e3
 have n3d:l3≠dx:=λz=>by rw [z,hdx] at e3; cases e3
 have el4:(upd (upd H3 ea (fM ea Zw (some dx))) dx (xdO dx [("wants",.ref l3)])) l3=some (.lst xs):=by rw [aK n3d,aK n3e]; exact e3
 have hqe:q≠ea:=λz=>by rw [z] at hq; unfold rdL at hq; rw [he] at hq; cases hq
 have hq4:rdL (upd (upd H3 ea (fM ea Zw (some dx))) dx (xdO dx [("wants",.ref l3)])) q=some ys:=by
   have hq3:=aH s3 hq
   rw [zZ (λz=>by rw [z] at hq3; unfold rdL at hq3; rw [hdx] at hq3; cases hq3),zZ hqe]
   exact hq3
 generalize upd (upd H3 ea (fM ea Zw (some dx))) dx (xdO dx [("wants",.ref l3)])=H4 at fr4 ee4 ed4 el4 hq4 ⊢;walk_at "go";intro l4 hl4;have s5:=aF hl4 (.lst ys)
 have e5:(upd H4 l4 (.lst ys)) l4=_:=aD
 have ee5:=s5 _ _ ee4
 have ed5:=s5 _ _ ed4
 have el5:=s5 _ _ el4
 have n4d:l4≠dx:=λz=>by rw [z,ed4] at hl4; cases hl4
 have n4e:l4≠ea:=λz=>by rw [z,ee4] at hl4; cases hl4
 have h40:H l4=none:=by
   cases e:H l4 with
   | none=>rfl
   | some u=>rw [fr4 _ _ n4e e] at hl4; cases hl4
 generalize upd H4 l4 (.lst ys)=H5 at s5 e5 ee5 ed5 el5 ⊢;walk_at "go";refine ⟨ea,Zw,Zz,rfl,G.xc_Lack,G.xn_Lack_flags,.inr ⟨dx,_,ee5,ed5,(by show 1<100; decide),?_⟩⟩
 refine qq dx l3 l4 _ (λb u hb hu=>?_) (bA s3 hdx) nde (by rw [aK nde.symm]; exact ee5) aD (by rw [aK n3d]; exact el5) (by rw [aK n4d]; exact e5) (bA s2 hl3) h40
 have e:=s5 _ _ (fr4 b u hb hu)
 rw [aK (λz=>by have q9:=s3 _ _ hu; rw [z,hdx] at q9; cases q9)]
 exact e
structure LackOk (cws:List (List Nat)) (n:Nat->Int) (W:List Wt) (F:List Nat):Prop where
 sub:W.Sublist (wl cws)
 flags:∃ p:Nat->Bool,F=flagsT.cps.toList.filter p
 all:∀ w∈W,∀ f∈chW cws w,f∈F
 few:(F.map n).sum<(W.length:Int)
def ctn (fs:List Nat) (c:Nat):Nat:=fs.countP λx=>decide (x=c)
theorem nK (g:Nat->Nat):∀ L:List Nat,(L.map λc=>((g c:Nat):Int)).sum=(((L.map g).sum:Nat):Int)
 | []=>rfl
 | c::r=>by
   rw [Au,Ct,Au,Ct,nK g r];omega
theorem cZ0 {cws:Q5} {n0:Nat->Int} {m:List (Wt×Nat)} {first:Wt} {A:List (Nat×Wt)} {fl:Nat->Option Int} {l r:List Wt} (hw:wl cws=l++first::r) (hk:m.map (·.1)=l) (hL:∀ c∈cws,c.length<=7/\∀ d∈c,bQ d) (hmo:HungOk cws m) (hfw:first∈wl cws)
   (hA:Asked (chW cws) m first A) (hct:∀ c,aM fl c=n0 c - (ctm m c:Int)/\0<=aM fl c) (h0:∀ c∈A.map (·.1),¬ 0<aM fl c):LackOk cws n0 (jT m first A (wl cws)) (flagsT.cps.toList.filter λc=>decide (c∈A.map (·.1))):=by
 have hAf:∀ c∈A.map (·.1),nG c:=λc hc=>by
   obtain ⟨x,hx,rfl⟩:=Be.mp hc;obtain ⟨j,hj,e⟩:=Cc.mp hx;have hj2:A[j]?=some (x.1,x.2):=by rw [Aa hj,e]
   exact bXZ hL (bZU hmo hfw hA.toAsking hj2) (hA.ok j _ _ hj2).1
 have hF:∀ c,c∈flagsT.cps.toList.filter (λc=>decide (c∈A.map (·.1))) ↔ c∈A.map (·.1):=λc=>by
   rw [Da,Bp];exact ⟨λh=>h.2,λh=>⟨flags_mem.mpr (hAf c h),h⟩⟩
 have ndF:(flagsT.cps.toList.filter λc=>decide (c∈A.map (·.1))).Nodup:=List.Nodup.sublist Ep (by decide)
 have nd:=lO cws cws.length
 replace nd:(wl cws).Nodup:=nd
 refine ⟨Ep,⟨_,rfl⟩,λw hwm f hf=>?_,?_⟩
 · refine (hF f).mpr ?_;have h2:=(lackW_mem.mp hwm).2
   by_cases e:w=first
   · subst e;exact hA.all1 f hf
   · cases eg:dM m w with
     | none=>rw [qD e eg] at h2; cases h2
     | some g=>
       rw [qJ e eg] at h2;exact hA.all w g (yJ eg) (Bg h2) f hf
 · have e1:(jT m first A (wl cws)).length=1+m.countP (λx=>decide (x.2∈A.map (·.1))):=by
     rw [hw] at nd ⊢;exact bZ2 hk nd
   have e2:m.countP (λx=>decide (x.2∈A.map (·.1)))=m.countP (λx=>decide (x.2∈flagsT.cps.toList.filter λc=>decide (c∈A.map (·.1)))):=by
     congr 1
     funext x
     exact Dr.mpr (hF x.2).symm
   have e3:=dXI m ndF
   have e4:(flagsT.cps.toList.filter λc=>decide (c∈A.map (·.1))).map n0=(flagsT.cps.toList.filter λc=>decide (c∈A.map (·.1))).map λc=>((ctm m c:Nat):Int):=Cp λc hc=>by
     have h1:=hct c
     have h2:=h0 c ((hF c).mp hc)
     omega
   rw [e4,nK,e1,e2,e3];omega
def kL (aC:Addr):Sp:=λvs H Q E=>∃ (a b:Addr) (kvs:List (Key×V)) (f:Nat->Option Int) (cws:List (List Nat)),vs=[.ref a,.ref b]/\Rd H a (.dK kvs)/\Lk kvs f/\rdL H b=some ((cws.map bC).map V.str)/\cws.length<=8/\(∀ c∈cws,c.length<=7/\∀ d∈c,bQ d)/\
 (∀ (r:Addr) (ps:List Addr) (fs:List Nat) (H':Hp),H r=none->Same H H'->H' r=some (.lst (ps.map V.ref))->(∀ p∈ps,p≠r)->Lsts H H' ps ((List.range cws.length).map (lW cws fs))->fs.length=(wl cws).length->(∀ (j:Nat) w g,(wl cws)[j]?=some w->fs[j]?=some g->g∈chW cws w)->(∀ c,(ctn fs c:Int)<=aM (bT (aM f)) c)->dZV cws (aM (bT (aM f))) fs->Q (.ref r) H')/\
 (∀ (dx l1 l2:Addr) (rs:List Addr) (W:List Wt) (F:List Nat) (H':Hp),Same H H'->H' dx=some (xdO dx [("flags",.ref l2),("wants",.ref l1)])->H' l1=some (.lst (rs.map V.ref))->WtsAt H' rs W->H' l2=some (.lst ((F.map one).map V.str))->LackOk cws (aM (bT (aM f))) W F->LackIs cws (aM (bT (aM f))) W F->H l1=none->H l2=none->E (.ref aC) (some dx) H')
theorem sc_hang_all:FnScope ["locker", "words", "choices", "left", "hung", "first", "asked", "free", "wants"] ["locker", "words"] (aG cR):=by walk_at "sc"
theorem yO {Zw Zz Zx Zy:Addr} {f:Addr} {fd:FuncData} (F:Fun K "hang_all" "hang_all" cR f fd) (G:Gs K mg Zw Zz Zx Zy) (c_choices_of:Cal P w K mg base 2 "choices_of" ["words"] lL) (c_plain_locker:Cal P w K mg base 1 "plain_locker" ["locker"] eJ) (c_hoists_of:Cal P w K mg base 1 "hoists_of" ["words", "flags"] mM) (c_asked_from:Cal P w K mg base 1 "asked_from" ["first", "choices", "hung"] lE) (c_hang_along:Cal P w K mg base 1 "hang_along" ["flag", "asked", "hung"] lH) (c_Lack_init:zO P w K mg base 1 Zw ["self", "wants", "flags"] (gI Zw)):FnOk P w K mg base (CXr P w) 3 f fd ["locker", "words"] (kL Zw):=by
 refine F.okX sc_hang_all (λvs H Q E h=>?_) (λcdv A outer s H vs Q E hr h=>?_)
 · obtain ⟨a,b,kvs,f,cws,rfl,_⟩:=h; rfl
 obtain ⟨a,b,kvs,f,cws,rfl,ha,lk,hb,h8,hL,q,qe⟩:=h;refine ⟨_,(@aE _ _ _ _ _ (@aP _ _ 2 _ _ _ _ sc_hang_all.nd (by rfl) (by exact (Or.inl rfl)) (aZ c_choices_of hr (by decide) rfl (aA (mv 1) aB)) (by rfl) (by walk_at "o")) (@aE _ _ _ _ _ (@aP _ _ 3 _ _ _ _ sc_hang_all.nd (by rfl) (by exact (Or.inr rfl)) (aZ c_plain_locker hr (by decide) rfl (aA (mv 0) aB)) (by rfl) (by walk_at "o")) (@aE _ _ _ _ _ (@aP _ _ 4 _ _ _ _ sc_hang_all.nd (by rfl) (by exact (Or.inr rfl)) qP (by rfl) (by walk_at "o")) (@aE _ _ _ _ _ (zS (bN PassesOwn.leaving rfl (mP (mv 2)) (aO (i:=5) sc_hang_all.nd rfl (Or.inr rfl)) (@aE _ _ _ _ _ (@aP _ _ 6 _ _ _ _ sc_hang_all.nd (by rfl) (by exact (Or.inr rfl)) (aZ c_asked_from hr (by decide) rfl (aA (mv 5) (aA (mv 2) (aA (mv 4) aB)))) (by rfl) (by walk_at "o")) (@aE _ _ _ _ _ (zS (mH (i:=7) sc_hang_all.nd rfl (Or.inl rfl) rfl (cXP (mv 6)) (fI (N:=["flag", "left"]) ["locker", "words", "choices", "left", "hung", "first", "asked", "free", "wants"] (aG cR) [none,some 3] rfl rfl rfl (λx h=>bU h) (by decide +kernel)) (by decide +kernel) rfl (by decide +kernel) (λC s₀ H₀ ex=>(aO (i:=0) (show List.Nodup (["flag", "left"]:List Str) by decide +kernel) rfl (Or.inl rfl))) (λC s₀ H₀ ex=>(iG (bB cQ4 (fJ Bt Co (qT (Room.u1 hr)) (mv 1) (aA (mv 0) (aA aJ aB))) aJ (bI _)))) (λC s₀ H₀ ex=>(mv 0)))) (@aE _ _ _ _ _ (cU (bB (eQI hr.units0) (mv 7) (bR aB) (bI _)) (@aE _ _ _ _ _ (zS (mH (i:=8) sc_hang_all.nd rfl (Or.inl rfl) rfl (mP (mv 2)) (fI (N:=["want", "first", "asked", "hung"]) ["locker", "words", "choices", "left", "hung", "first", "asked", "free", "wants"] (aG cR) [none,some 5,some 6,some 4] rfl rfl rfl (λx h=>bU h) (by decide +kernel)) (by decide +kernel) rfl (by decide +kernel) (λC s₀ H₀ ex=>(aO (i:=0) (show List.Nodup (["want", "first", "asked", "hung"]:List Str) by decide +kernel) rfl (Or.inl rfl))) (λC s₀ H₀ ex=>(iG (PW.pt (iW (bB (eXL hr.units0) (mv 0) (mv 1) (bI _)) (jG (bB (dX0 (Room.u1 hr)) (fJ Bt Co (bZ9 (Room.u1 hr)) (mv 3) (aA (mv 0) aB)) (mv 2) (by rfl))))))) (λC s₀ H₀ ex=>(mv 0)))) (@aI _ _ _ (nU pG rfl rfl rfl G.c_Lack G.xm_Lack c_Lack_init hr (by decide) (aA (mv 8) (aA (cJ rfl (rD (kW rfl G.s_FLAGS)) (fI (N:=["flag", "asked"]) ["locker", "words", "choices", "left", "hung", "first", "asked", "free", "wants"] (aG cR) [none,some 6] rfl rfl rfl (λx h=>bU h) (by decide +kernel)) (by decide +kernel) rfl (by decide +kernel) (λC s₀ H₀ ex=>(aO (i:=0) (show List.Nodup (["flag", "asked"]:List Str) by decide +kernel) rfl (Or.inl rfl))) (λC s₀ H₀ ex=>(iG (bB (dQG (Room.u1 hr)) (mv 0) (mv 1) (by rfl)))) (λC s₀ H₀ ex=>(mv 0))) aB))))) bO) (@aE _ _ _ _ _ (dR (Room.u1 hr) (mv 3) (bG cC (mv 7) aJ (λ_ _=>rfl)) (aX jZ (hV (Room.u1 hr) (mv 3) (bG cC (mv 7) aJ (λ_ _=>rfl)) (λ_ _=>rfl)) aJ) rfl) (@aI _ _ _ (cG (aZ c_hang_along hr (by decide) rfl (aA (bG cC (mv 7) aJ (λ_ _=>rfl)) (aA (mv 6) (aA (mv 4) aB)))))))))))) (@aI _ _ _ (aW (aZ c_hoists_of hr (by decide) rfl (aA (mv 1) (aA (bZ6 (cJ rfl (mP (mv 2)) (fI (N:=["want", "hung"]) ["locker", "words", "choices", "left", "hung", "first", "asked", "free", "wants"] (aG cR) [none,some 4] rfl rfl rfl (λx h=>bU h) (by decide +kernel)) (by decide +kernel) rfl (by decide +kernel) (λC s₀ H₀ ex=>(aO (i:=0) (show List.Nodup (["want", "hung"]:List Str) by decide +kernel) rfl (Or.inl rfl))) (λC s₀ H₀ ex=>fD) (λC s₀ H₀ ex=>(hV (Room.u1 hr) (mv 1) (mv 0) (λ_ _=>rfl))))) aB))))))))),?_⟩
 have h7:∀ c∈cws,c.length<=7:=λc hc=>(hL c hc).1
 have hlw:(wl cws).length<=56:=Bc (mF h7 _) (by omega)
 walk_at "go";refine ⟨b,cws,rfl,hb,h8,h7,λac H1 hac s1 hch=>?_⟩;walk_at "go";refine ⟨a,kvs,f,rfl,ha.elim (λe=>.inl (s1 _ _ e)) (λ⟨o,e⟩=>.inr ⟨o,s1 _ _ e⟩),lk,λal H2 hal s2 el=>?_⟩;walk_at "go";intro ah hah;have s3:=s2.trans (aF hah (.dT []))
 have eh3:(upd H2 ah (.dT [])) ah=_:=aD
 have el3:=aF hah (.dT []) _ _ el
 generalize upd H2 ah (.dT [])=H3 at s3 eh3 el3 ⊢;obtain ⟨ds,dl,ed,hds⟩:=hch;rw [Bl] at ed;have ed3:=s3 _ _ ed
 walk_at "go";refine uU ed3 λo=>?_;have fz:(upd H3 ac (.frz o (.dT (eF (wl cws) ds)))) ac=_:=aD
 have kl:(eF (wl cws) ds).length=(wl cws).length:=sT dl
 have nac:ah≠ac:=λz=>by have e:=s2 _ _ ed; rw [<-z,hah] at e; cases e
 have nla:al≠ac:=λz=>by rw [z,ed3] at el3; cases el3
 have nlh:al≠ah:=λz=>by rw [z,eh3] at el3; cases el3
 have s13:Same H1 H3:=s3
 have hah1:H1 ah=none:=bA s2 hah
 generalize hn0:aM (bT (aM f))=n0;refine bZT (λi σ H'=>∃ (m:List (Wt×Nat)) (kl2:List (Key×V)) (fl:Nat->Option Int) (v5 v6 v7 v8:Option V),σ=[some (.ref a),some (.ref b),some (.ref ac),some (.ref al),some (.ref ah),v5,v6,v7,v8]/\(∀ p u,p≠ac->p≠al->p≠ah->H1 p=some u->H' p=some u)/\H' ac=some (.frz o (.dT (eF (wl cws) ds)))/\H' ah=some (.dT (gW m))/\H' al=some (.dK kl2)/\Lk kl2 fl/\kl2.length<=27/\m.map (·.1)=(wl cws).take i/\(∀ v g,(v,g)∈m->g∈chW cws v)/\(∀ c,aM fl c=n0 c - (ctm m c:Int)/\0<=aM fl c)/\StateR cws n0 i m)
   ⟨[],_,bT (aM f),_,_,_,_,rfl,λp u h1 h2 h3 hu=>by rw [aK h1]; exact s13 _ _ hu,fz,by rw [aK nac]; exact eh3,by rw [aK nla]; exact el3,iZ _,by unfold kvL; rw [Ab]; exact jE _ _,rfl,(λv g hv=>nomatch hv),λc=>?_,.zero⟩ (λi σ H' _ ⟨_,_,_,_,_,_,_,_,_,e,_⟩=>e) ?_ ?_
 · rw [hn0];refine ⟨by show n0 c=n0 c - ((0:Nat):Int); omega,?_⟩
   rw [<-hn0];show 0<=(bT (aM f) c).getD 0
   unfold bT;split
   · rename_i h; exact Int.le_of_lt h.2
   · exact Gk 0
 · rintro i kv bf σ H4 hkv hbf ⟨m,kl2,fl,v5,v6,v7,v8,rfl,fr,ec,eh,el4,lkl,l27,hk,hmc,hct,hSt⟩;have hi:i<(wl cws).length:=by rw [<-kl]; exact (Ae.mp hkv).1
   have ew:(wl cws)[i]?=some (wl cws)[i]:=Aa hi
   have ekv:kv=(cL (wl cws)[i],V.ref (ds[i]'(by omega))):=by
     unfold eF at hkv;rw [Fo,ew,Aa (show i<ds.length by omega)] at hkv
     exact (Bo hkv).symm
   rw [ekv] at hbf;have hnd:=lO cws cws.length
   have hfw:(wl cws)[i]∈wl cws:=Bv hi
   have htk:(wl cws).take (i+1)=(wl cws).take i++[(wl cws)[i]]:=by rw [Ba,ew]; rfl
   have hfn:(wl cws)[i] ∉ m.map (·.1):=by
     rw [hk];intro z;obtain ⟨j,hj,ej⟩:=Cc.mp z;rw [Bs] at hj;rw [List.getElem_take] at ej;have:=(Fw hnd).mp ej
     omega
   have hml:m.length<=56:=by
     have e:m.length=(m.map (·.1)).length:=(Ab _).symm
     rw [e,hk,Bs];omega
   have hmo:HungOk cws m:=⟨by rw [hk]; exact hnd.sublist (Gp ..),λx hx=>List.mem_of_mem_take (by rw [<-hk]; exact Be.mpr ⟨x,hx,rfl⟩)⟩
   have hcr:ChRd H4 ac cws:=⟨ds,dl,.inr ⟨o,ec⟩,λj w d hw hd=>by
     have h1:=hds j w d (Ae.mp hw).1 hw hd
     exact fr d _ (λz=>by rw [z,ed] at h1; cases h1) (λz=>by rw [z,hal] at h1; cases h1) (λz=>by rw [z,hah1] at h1; cases h1) h1⟩
   replace hbf:H4 bf=some (.tup (wV (wl cws)[i])):=hbf
   clear ekv hkv;generalize (wl cws)[i]=first at hbf ew hfw htk hfn
   walk_at "go";refine ⟨bf,ac,ah,cws,m,first,rfl,hbf,hfw,hcr,eh,hmo,hml,h8,hL,λpa A bs H5 hpa s5 ea wb hask hAf=>?_⟩
   have el5:=s5 _ _ el4
   have hbl:bs.length=A.length:=by rw [wb.1,Ab]
   have hA27:=aZZ hmo hfw hL hask.toAsking
   have hdl5:=nI el5
   walk_at "go";refine dQ6 ea λoa=>?_;have fza:(upd H5 pa (.frz oa (.dK (gF A bs)))) pa=_:=aD
   have nlp:al≠pa:=λz=>by rw [z,hpa] at el4; cases el4
   have elf:(upd H5 pa (.frz oa (.dK (gF A bs)))) al=_:=(aK nlp).trans el5
   refine fE (n:=A.length) (λD i ys Hc=>Same (upd H5 pa (.frz oa (.dK (gF A bs)))) Hc/\ys=((((A.take i).map (·.1)).filter λc=>decide (0<aM fl c)).map one).map V.str) (aV (by omega)) (λD hD=>⟨aF hD _,rfl⟩) (λD i ys Hc _ r h=>⟨r.1 _ _ fza,by rw [pJ hbl]; exact h⟩) (λD ys Hc _ r=>⟨r.1 _ _ fza,pJ hbl⟩) ?_ ?_
   · rintro D i2 ys Hc x H' A' B' hD hi2 ⟨sm,rfl⟩ hDc ⟨rfl,kv,hkv,rfl⟩ hA' hB';have eA:A[i2]?=some A[i2]:=Aa hi2
     unfold gF at hkv;rw [Fo,eA,Aa (show i2<bs.length by omega)] at hkv
     cases hkv;have tk:A.take (i2+1)=A.take i2++[A[i2]]:=by rw [Ba,eA]; rfl
     rw [tk,Ak,Ew] at hA' hB';generalize A[i2]=xa at hA' hB';have elc:=sm _ _ elf
     have hdc:=nI elc
     dsimp only [kV];walk_at "go";refine ⟨Wk.set rfl (Wk.refl _),?_⟩;walk_at "go";refine pL (z:=one xa.1) (.inl elc) ?_;rw [lkl.val xa.1,jK];walk_at "go";refine iI (λhe=>?_) (λhe=>?_)
     · have he':=Bg he
       walk_at "go";refine hA' _ _ hDc ⟨aY hD sm,?_⟩;rw [show ([xa].map (·.1)).filter (λc=>decide (0<aM fl c))=[xa.1] by simp [he'],List.map_append,List.map_append]
       rfl
     · have he':=Ca (Cd.mpr he)
       walk_at "go";refine hB' _ hDc ⟨sm,?_⟩;rw [show ([xa].map (·.1)).filter (λc=>decide (0<aM fl c))=[] by simp; omega,List.append_nil]
   · rintro D ys Hc hD ⟨sm,rfl⟩ hDc _;rw [Bl] at hDc;have su:=qU ea (λo v z=>nomatch z) sm
     have eu:=fN (Hs:=H5) hDc (λo v z=>nomatch z)
     refine pD ?_;unfold bZS;dsimp only;generalize unf H5 Hc=H6 at su eu ⊢;have s46:=s5.trans su
     have ea6:=su _ _ ea
     have wb6:WtsAt H6 bs (A.map (·.2)):=wb.keep λr w h=>su _ _ h
     have ec6:=s46 _ _ ec
     have eh6:=s46 _ _ eh
     have el6:=s46 _ _ el4
     have hbf6:=s46 _ _ hbf
     have fr6:∀ p u,p≠ac->p≠al->p≠ah->H1 p=some u->H6 p=some u:=λp u h1 h2 h3 hu=>s46 _ _ (fr p u h1 h2 h3 hu)
     have hD4:H4 D=none:=by
       have h5:H5 D=none:=by
         by_cases z:D=pa
         · rw [z,aD] at hD; cases hD
         · rw [aK z] at hD; exact hD
       exact bA s5 h5
     clear sm hDc hD fza elf hdl5 el5;walk_at "go";refine ⟨by decide,λpe hpe=>?_⟩
     refine cJV (neg:=false) (aH (aF hpe _) (aL eu)) cZ (dA _) rfl ?_;have s67:=aF hpe (.lst [])
     generalize upd H6 pe (.lst [])=H7 at s67 ⊢;have en:∀ xs:List V,lC xs []=xs.isEmpty:=λxs=>by cases xs <;> rfl
     rw [if_neg (by decide),en]
     have hfre:(A.map (·.1)).filter (λc=>decide (0<aM fl c))=tE n0 m (oY (chW cws) m first):=by
       unfold tE;rw [<-hAf];exact List.filter_congr λc _=>by rw [(hct c).1]
     cases hfr:(A.map (·.1)).filter (λc=>decide (0<aM fl c)) with
     | nil=>
       rw [hfr] at eu;rw [show (List.map V.str (List.map one [])).isEmpty=true from rfl];have ec7:=s67 _ _ ec6
       have eh7:=s67 _ _ eh6
       have ea7:=s67 _ _ ea6
       have hbf7:=s67 _ _ hbf6
       have fr7:∀ p u,p≠ac->p≠al->p≠ah->H1 p=some u->H7 p=some u:=λp u h1 h2 h3 hu=>s67 _ _ (fr6 p u h1 h2 h3 hu)
       clear eu wb6 hpe s67 fr6 fr ec6 eh6 ea6 hbf6 el6 su hD4 s46 hpa s5 ea wb el4 nlp;walk_at "go";refine bXR ec7 ?_;refine fE (n:=(wl cws).length) (λD i ys Hc=>Same H7 Hc/\∃ rs,ys=rs.map V.ref/\WtsAt Hc rs (jT m first A ((wl cws).take i))) (aV (by omega)) (λD hD=>⟨aF hD _,[],rfl,rfl,λj r w hr=>nomatch hr⟩) (λD i ys Hc _ r h=>⟨r.1 _ _ ec7,by rw [kl]; exact h⟩) (λD ys Hc _ r=>⟨r.1 _ _ ec7,kl⟩) ?_ ?_
       · rintro D i2 ys Hc x H' A' B' hD hi2 ⟨sm,rs,rfl,hwt⟩ hDc ⟨rfl,kv,bk,hkv,rfl,hbk⟩ hA' hB';have ew2:(wl cws)[i2]?=some (wl cws)[i2]:=Aa hi2
         have ekv:kv=(cL (wl cws)[i2],V.ref (ds[i2]'(by omega))):=by
           unfold eF at hkv;rw [Fo,ew2,Aa (show i2<ds.length by omega)] at hkv
           exact (Bo hkv).symm
         rw [ekv] at hbk;replace hbk:H' bk=some (.tup (wV (wl cws)[i2])):=hbk
         have tk:(wl cws).take (i2+1)=(wl cws).take i2++[(wl cws)[i2]]:=by rw [Ba,ew2]; rfl
         rw [tk] at hA' hB';clear ekv hkv ew2 tk;generalize (wl cws)[i2]=wx at hbk hA' hB';have ehc:=sm _ _ eh7
         have eac:=sm _ _ ea7
         have hfc:=sm _ _ hbf7
         have yes:jS m first A wx=true->A' (.ref bk) H':=λhb=>by
           refine hA' _ _ hDc ⟨aY hD sm,rs++[bk],by rw [Ak]; rfl,?_⟩
           rw [qY,hb,if_pos rfl];refine WtsAt.keep (hwt.app (.one hbk)) λr w h=>?_;rw [aK (λz=>by rw [z,hDc] at h; cases h)]
           exact h
         have no:jS m first A wx=false->B' H':=λhb=>by
           refine hB' _ hDc ⟨sm,rs,rfl,?_⟩;rw [qY,hb,if_neg (by decide),Br]
           exact hwt
         clear hA' hB';walk_at "go";refine ⟨Wk.set rfl (Wk.refl _),?_⟩;walk_at "go";refine eX6 hbk hfc ?_;have hd2:decide ((wx.1:Int)=(first.1:Int)/\(wx.2:Int)=(first.2:Int))=decide (wx=first):=Dr.mpr ⟨λh=>Prod.ext (by omega) (by omega),λh=>by rw [h]; exact ⟨rfl,rfl⟩⟩
         rw [hd2];by_cases e:wx=first
         · rw [An e];walk_at "go";exact yes (xU e)
         · rw [Am e];have hdd:isD H' ah=true:=by unfold isD; rw [ehc]
           walk_at "go";refine aZ0 (k:=cL wx) (.inl ehc) hbk ?_;rw [kG];cases eg:dM m wx with
           | none=>
             refine dJD (.inl eac) ?_;walk_at "go";exact no (qD e eg)
           | some g=>
             have hlb:=qJ (A:=A) e eg
             refine cZ1 (z:=one g) (.inl eac) ?_;rw [kZ hbl];refine iI (λhg=>?_) (λhg=>?_)
             · walk_at "go";exact yes (hlb.trans hg)
             · walk_at "go";exact no (hlb.trans (Cd.mpr hg))
       · rintro D ys Hc hD ⟨sm,rs,rfl,hwt⟩ hDc _;rw [Bl] at hwt;have su:=bQI sm
         have eu:=fN (Hs:=H7) hDc (λo v z=>nomatch z)
         have hwu:WtsAt (unf H7 Hc) rs (jT m first A (wl cws)):=hwt.keep λr w h=>fN h λo v z=>nomatch z
         refine pD ?_;unfold bZS;dsimp only;generalize unf H7 Hc=H8 at su eu hwu ⊢;have ea8:=su _ _ ea7
         walk_at "go";refine aX9 (λc=>if decide (c∈A.map (·.1))=true then some (.str (one c)) else none) (by decide) (λi3 c Hc2 A' B' hc sm2 hA'=>?_) (λD2 H9 hD2 s9 hr9=>?_)
         · have r:=hA' _ (Same.refl _)
           walk_at "go";refine ⟨Wk.set rfl (Wk.refl _),?_⟩;walk_at "go";refine cJS (z:=one c) (neg:=false) (.inl (sm2 _ _ ea8)) ?_;rw [if_neg (by decide),kZ hbl]
           refine iI (λhg=>?_) (λhg=>?_)
           · rw [if_pos hg] at r;walk_at "go";exact r
           · rw [if_neg hg] at r;exact r
         · have ef:(Str.ofString "abcdefghijklmnopqrstuvw1234").cps.toList.filterMap (λc=>if decide (c∈A.map (·.1))=true then some (V.str (one c)) else none)=((flagsT.cps.toList.filter λc=>decide (c∈A.map (·.1))).map one).map V.str:=by
             rw [show (Str.ofString "abcdefghijklmnopqrstuvw1234")=flagsT from rfl];generalize flagsT.cps.toList=L;induction L with
             | nil=>rfl
             | cons c r ih=>
               rw [Dx,Ga];by_cases hg:decide (c∈A.map (·.1))=true
               · rw [if_pos hg,if_pos hg,Au,Au,<-ih]
               · rw [if_neg hg,if_neg hg,<-ih]
           rw [ef] at hr9;have eD9:=s9 _ _ eu
           walk_at "go";refine ⟨by show 2<=sizeLine; decide,λea hea=>⟨ea,D,D2,_,_,rfl,aD,aH (aF hea _) (aL eD9),aH (aF hea _) (aL hr9),λdx l1 l2 H' frx hdx nde e1 e2 e3 e4 hl1 hl2=>⟨rfl,some dx,e1,?_⟩⟩⟩
           have n1:l1≠ea:=λz=>by rw [z,e1] at e3; cases e3
           have n2:l2≠ea:=λz=>by rw [z,e1] at e4; cases e4
           have go9:∀ b u,H9 b=some u->(del H' ea) b=some u:=λb u hu=>by
             have nb:b≠ea:=λz=>by rw [z,hea] at hu; cases hu
             rw [dX nb];exact frx b u nb (by rw [aK nb]; exact hu)
           have hto:∀ b u,H b=some u->H9 b=some u:=λb u hu=>by
             refine s9 _ _ (su _ _ (fr7 b u (λz=>by rw [z,hac] at hu; cases hu) (λz=>?_) (λz=>?_) (s1 _ _ hu)))
             · have:=s1 _ _ hu
               rw [z,hal] at this;cases this
             · have:=s1 _ _ hu
               rw [z,hah1] at this;cases this
           refine qe dx l1 l2 rs _ _ (del H' ea) (λb u hu=>go9 _ _ (hto b u hu)) ((dX nde).trans e2) ((dX n1).trans e3) (hwu.keep λr w h=>go9 _ _ (s9 _ _ h)) ((dX n2).trans e4) ?_ ?_ (bA hto (by rw [aK n1] at hl1; exact hl1)) (bA hto (by rw [aK n2] at hl2; exact hl2))
           · rw [hn0];refine cZ0 (l:=(wl cws).take i) (r:=(wl cws).drop (i+1)) (fl:=fl) ?_ hk hL hmo hfw hask hct (λc hc=>?_)
             · have e:=List.take_append_drop (i+1) (wl cws)
               rw [htk,Gw] at e;exact e.symm
             · have:=Gz.mp hfr c hc
               rw [Bp] at this;exact this
           · rw [hn0];refine ⟨i,m,first,hSt,ew,by rw [<-hfre,hfr],?_,?_⟩
             · rw [<-hAf]
             · rw [<-hAf]
     | cons f0 fr0=>
       rw [hfr] at eu;rw [show (List.map V.str (List.map one (f0::fr0))).isEmpty=false from rfl];have hf0m:f0∈(A.map (·.1)).filter (λc=>decide (0<aM fl c)):=by rw [hfr]; exact As
       rw [Da,Bp] at hf0m;obtain ⟨hf0A,hf0p⟩:=hf0m;obtain ⟨n1,hn1⟩:∃ n1,fl f0=some n1:=by
         cases e:fl f0 with
         | none=>rw [show aM fl f0=0 by unfold aM; rw [e]; rfl] at hf0p; omega
         | some n=>exact ⟨n,rfl⟩
       have hcn1:aM fl f0=n1:=by unfold aM; rw [hn1]; rfl
       have el7:=s67 _ _ el6
       have ea7:=s67 _ _ ea6
       have eh7:=s67 _ _ eh6
       have ec7:=s67 _ _ ec6
       have eD7:=s67 _ _ eu
       have wb7:WtsAt H7 bs (A.map (·.2)):=wb6.keep λr w h=>s67 _ _ h
       have hdl7:=nI el7
       have at0:atI (List.map V.str (List.map one (f0::fr0))) 0=some (V.str (one f0)):=eI (show (List.map V.str (List.map one (f0::fr0)))[0]?=some (V.str (one f0)) from rfl)
       walk_at "go";refine cQ (aL eD7) (v:=.str (one f0)) at0 ?_;walk_at "go";refine qG (z:=one f0) (.inl el7) (by rw [lkl.val f0,hn1]; rfl) ?_
       walk_at "go";refine cQ (aL eD7) (v:=.str (one f0)) at0 ?_;walk_at "go";refine gA (z:=one f0) el7 (aV (by omega)) ?_
       have nDl:D≠al:=λz=>by rw [z] at hD4; rw [hD4] at el4; cases el4
       have npl:pa≠al:=λz=>by rw [z] at hpa; rw [hpa] at el4; cases el4
       have nhl:ah≠al:=Ne.symm nlh
       have ncl:ac≠al:=Ne.symm nla
       have el8:(upd H7 al (.dK (dY kl2 (Sum.inr (one f0)) (V.int (n1 - 1))))) al=_:=aD
       have ea8:(upd H7 al (.dK (dY kl2 (Sum.inr (one f0)) (V.int (n1 - 1))))) pa=_:=(aK npl).trans ea7
       have eh8:(upd H7 al (.dK (dY kl2 (Sum.inr (one f0)) (V.int (n1 - 1))))) ah=_:=(aK nhl).trans eh7
       have ec8:(upd H7 al (.dK (dY kl2 (Sum.inr (one f0)) (V.int (n1 - 1))))) ac=_:=(aK ncl).trans ec7
       have eD8:(upd H7 al (.dK (dY kl2 (Sum.inr (one f0)) (V.int (n1 - 1))))) D=_:=(aK nDl).trans eD7
       have wb8:WtsAt (upd H7 al (.dK (dY kl2 (Sum.inr (one f0)) (V.int (n1 - 1))))) bs (A.map (·.2)):=wb7.keep λr w h=>by
         rw [aK (λz=>by rw [z,el7] at h; cases h)]
         exact h
       have fr8:∀ p u,p≠ac->p≠al->p≠ah->H1 p=some u->(upd H7 al (.dK (dY kl2 (Sum.inr (one f0)) (V.int (n1 - 1))))) p=some u:=λp u h1 h2 h3 hu=>by
         rw [aK h2];exact s67 _ _ (fr6 p u h1 h2 h3 hu)
       generalize upd H7 al (.dK (dY kl2 (Sum.inr (one f0)) (V.int (n1 - 1))))=H8 at el8 ea8 eh8 ec8 eD8 wb8 fr8 ⊢;walk_at "go";refine cQ (aL eD8) (v:=.str (one f0)) at0 ?_;walk_at "go";refine ⟨pa,ah,cws,m,first,A,bs,f0,rfl,ea8,wb8,hask.toAsking,eh8,hmo.nd,hfn,hmc,hf0A,hml,λm' H9 fr9 eh9 hk9 hc9 hct9 hR9=>?_⟩
       walk_at "go";refine ⟨m',_,_,_,_,_,_,rfl,λp u h1 h2 h3 hu=>fr9 p u h3 (fr8 p u h1 h2 h3 hu),fr9 _ _ (Ne.symm nac) ec8,eh9,fr9 _ _ nlh el8,lkl.put f0 (n1 - 1),?_,?_,hc9,λc=>?_,.succ (c:=f0) hSt ew (by rw [<-hAf]; exact hask.nd) (by rw [<-hfre,hfr]; rfl) (by rw [<-hAf]; exact hR9)⟩
       · have hv:bZ kl2 (Sum.inr (one f0))≠none:=by rw [lkl.val f0,hn1]; exact λz=>nomatch z
         have e:=Cw List.length (yF kl2 (Sum.inr (one f0)) (.int (n1 - 1)) hv)
         rw [Ab,Ab] at e;omega
       · rw [hk9,hk,htk]
       · have h1:=hct c
         have h2:=hct9 c
         have h3:aM (λd=>if d=f0 then some (n1 - 1) else fl d) c=if c=f0 then n1 - 1 else aM fl c:=by
           show ((if c=f0 then some (n1 - 1) else fl c):Option Int).getD 0=_
           by_cases z:c=f0
           · rw [if_pos z,if_pos z]; rfl
           · rw [if_neg z,if_neg z]; rfl
         rw [h3];by_cases z:c=f0
         · subst z;rw [if_pos rfl] at h2 ⊢;omega
         · rw [if_neg z] at h2 ⊢;omega
 · rintro σ H4 ⟨m,kl2,fl,v5,v6,v7,v8,rfl,fr,ec,eh,el4,lkl,l27,hk,hmc,hct,hSt⟩;rw [kl,Bl] at hk;rw [kl] at hSt;have ec5:=vM (Hs:=H3) ec (λo v z=>by rw [ed3] at z; cases z)
   have eh5:=fN (Hs:=H3) eh (λo v z=>nomatch z)
   have sh5:Same H (unf H3 H4):=λb u hu=>by
     have h1:=s1 _ _ hu
     have h4:=fr b u (λz=>by rw [z,hac] at hu; cases hu) (λz=>by rw [z,hal] at h1; cases h1) (λz=>by rw [z,hah1] at h1; cases h1) h1
     by_cases hf:∃ o v,u=.frz o v
     · obtain ⟨o',v',rfl⟩:=hf;exact mL h4 (s13 _ _ h1)
     · exact fN h4 λo v z=>hf ⟨o,v,z⟩
   unfold bZS;dsimp only;generalize unf H3 H4=H5 at ec5 eh5 sh5 ⊢;have hml:m.length=(wl cws).length:=by rw [<-hk,Ab]
   have hnd:(m.map (·.1)).Nodup:=by rw [hk]; exact lO cws cws.length
   walk_at "go";refine uU ec5 λo2=>?_;have fz2:(upd H5 ac (.frz o2 (.dT (eF (wl cws) ds)))) ac=_:=aD
   have eh6:(upd H5 ac (.frz o2 (.dT (eF (wl cws) ds)))) ah=_:=(aK nac).trans eh5
   refine fE (n:=(wl cws).length) (λD i ys Hc=>Same (upd H5 ac (.frz o2 (.dT (eF (wl cws) ds)))) Hc/\ys=(((m.take i).map (·.2)).map one).map V.str) (aV (by omega)) (λD hD=>⟨aF hD _,rfl⟩) (λD i ys Hc _ r h=>⟨r.1 _ _ fz2,by rw [kl]; exact h⟩) (λD ys Hc _ r=>⟨r.1 _ _ fz2,kl⟩) ?_ ?_
   · rintro D i2 ys Hc x H' A' B' hD hi2 ⟨sm,rfl⟩ hDc ⟨rfl,kv,bk,hkv,rfl,hbk⟩ hA' hB';have ew2:(wl cws)[i2]?=some (wl cws)[i2]:=Aa hi2
     have ekv:kv=(cL (wl cws)[i2],V.ref (ds[i2]'(by omega))):=by
       unfold eF at hkv;rw [Fo,ew2,Aa (show i2<ds.length by omega)] at hkv
       exact (Bo hkv).symm
     rw [ekv] at hbk;have em:m[i2]?=some m[i2]:=Aa (by omega)
     have e1:m[i2].1=(wl cws)[i2]:=by
       have e0:(m.map (·.1))[i2]?=some (wl cws)[i2]:=by rw [hk]; exact ew2
       rw [Ag,em] at e0;exact Bo e0
     have tk:m.take (i2+1)=m.take i2++[m[i2]]:=by rw [Ba,em]; rfl
     rw [tk] at hA';replace hbk:H' bk=some (.tup ((cL m[i2].1).map kV)):=by rw [e1]; exact hbk
     have hval:bZ (gW m) (cL m[i2].1)=some (.str (one m[i2].2)):=by
       have hm2:(m[i2].1,m[i2].2)∈m:=Ai em
       rw [kG,mW hnd hm2];rfl
     clear ekv hkv ew2 tk e1 em;generalize m[i2]=mx at hbk hA' hval;have ehc:=sm _ _ eh6
     walk_at "go";refine ⟨Wk.set rfl (Wk.refl _),?_⟩;walk_at "go";refine zU (k:=cL mx.1) (.inl ehc) hbk hval ?_;refine hA' _ _ hDc ⟨aY hD sm,?_⟩;rw [Ak,Ak,Ak];rfl
   · rintro D ys Hc hD ⟨sm,rfl⟩ hDc _;rw [<-hml,Bl] at hDc;have su:=qU ec5 (λo v z=>nomatch z) sm
     have eu:=fN (Hs:=H5) hDc (λo v z=>nomatch z)
     generalize unf H5 Hc=H6 at su eu ⊢;have s06:=sh5.trans su
     refine ⟨b,D,cws,m.map (·.2),rfl,aH s06 hb,aL eu,h8,h7,λr ps H7 hr s7 er hne hls=>?_⟩;refine q r ps (m.map (·.2)) H7 (bA s06 hr) (s06.trans s7) er hne (hls.older s06) (by rw [Ab,hml]) (λj w g hw hg=>?_) (λc=>?_) (by rw [hn0]; exact ⟨m,hSt,rfl⟩)
     · rw [<-hk,Ag] at hw;rw [Ag] at hg;cases em:m[j]? with
       | none=>rw [em] at hw; cases hw
       | some x=>
         rw [em] at hw hg;cases hw;cases hg;exact hmc x.1 x.2 (Ai em)
     · rw [hn0];have h1:=hct c
       have h2:ctn (m.map (·.2)) c=ctm m c:=by
         unfold ctn ctm;rw [List.countP_map];rfl
       rw [h2];omega
def dQN (n:Nat->Int) (cws:List (List Nat)):Prop:=∃ fs:List Nat,fs.length=(wl cws).length/\(∀ (j:Nat) w g,(wl cws)[j]?=some w->fs[j]?=some g->g∈chW cws w)/\∀ c,(ctn fs c:Int)<=n c
theorem aX1 (x:Nat):∀ {F:List Nat},F.Nodup->(F.map λc=>if x=c then 1 else 0).sum=if x∈F then 1 else 0
 | [],_=>rfl
 | c::r,h=>by
   have n1:=Cb.mp h
   rw [Au,Ct,aX1 x n1.2];by_cases e:x=c
   · subst e;rw [if_pos rfl,if_neg n1.1,if_pos As]
   · rw [if_neg e];by_cases m:x∈r
     · rw [if_pos m,if_pos (Ao _ m)]
     · rw [if_neg m,if_neg λz=>(Bd.mp z).elim e m]
theorem aZU (g h:Nat->Nat):∀ F:List Nat,(F.map λc=>g c+h c).sum=(F.map g).sum+(F.map h).sum
 | []=>rfl
 | c::r=>by
   rw [Au,Ct,aZU g h r,Au,Ct,Au,Ct];omega
theorem aZV {F:List Nat} (nd:F.Nodup):∀ fs:List Nat,(F.map (ctn fs)).sum=fs.countP λx=>decide (x∈F)
 | []=>by
   have:∀ F:List Nat,(F.map (ctn [])).sum=0:=λF=>by
     induction F with
     | nil=>rfl
     | cons c r ih=>rw [Au,Ct,ih]; rfl
   rw [this];rfl
 | x::r=>by
   have e:ctn (x::r)=λc=>ctn r c+if x=c then 1 else 0:=by
     funext c
     unfold ctn;rw [Ds];by_cases h:x=c
     · rw [if_pos h,if_pos (An h)]
     · rw [if_neg h,if_neg (by rw [Bp]; exact h)]
   rw [e,aZU,aZV nd r,aX1 x nd,Ds];by_cases h:x∈F
   · rw [if_pos h,if_pos (An h)]
   · rw [if_neg h,if_neg (by rw [Bp]; exact h)]
theorem pZ {α β:Type} {p:α->Bool} {q:β->Bool}:∀ (L:List α) (M:List β),L.length=M.length->(∀ (j:Nat) a b,L[j]?=some a->M[j]?=some b->p a=true->q b=true)->L.countP p<=M.countP q
 | [],_,_,_=>Bw _
 | a::L,[],h,_=>by cases h
 | a::L,b::M,h,hpq=>by
   rw [Ds,Ds];have ih:=pZ L M (by simpa using h) λj x y hx hy=>hpq (j+1) x y hx hy
   have h0:=hpq 0 a b rfl rfl
   by_cases pa:p a=true
   · rw [if_pos pa,if_pos (h0 pa)]; omega
   · rw [if_neg pa]; omega
theorem zC {g h:Nat->Int} (e:∀ c,g c<=h c):∀ F:List Nat,(F.map g).sum<=(F.map h).sum
 | []=>Gk _
 | c::r=>by
   rw [Au,Ct,Au,Ct];have:=zC e r
   have:=e c
   omega
theorem bQY {W L:List Wt} (s:W.Sublist L):W.length<=L.countP λw=>decide (w∈W):=by
 have h:=s.countP_le (p:=λw=>decide (w∈W))
 have e:W.countP (λw=>decide (w∈W))=W.length:=List.countP_eq_length.mpr λw hw=>An hw
 omega
theorem aX6 {cws:Q5} {n:Nat->Int} {W:List Wt} {F:List Nat} (h:LackOk cws n W F):F.Nodup:=by
 obtain ⟨p,rfl⟩:=h.flags;exact List.Nodup.sublist Ep (by decide)
theorem zG {cws:Q5} {n:Nat->Int} {W:List Wt} {F:List Nat} (h:LackOk cws n W F):¬ dQN n cws:=by
 rintro ⟨fs,hl,hch,hct⟩;have h1:=bQY h.sub
 have h2:((wl cws).countP λw=>decide (w∈W))<=fs.countP λx=>decide (x∈F):=pZ _ _ hl.symm λj w g hw hg hp=>An (h.all w (Bg hp) g (hch j w g hw hg))
 have h3:=aZV (aX6 h) fs
 have h4:=zC hct F
 rw [nK (ctn fs) F] at h4;have h5:=h.few
 omega
def qX:Sp:=λvs H Q _=>∃ (a b:Addr) (kvs:List (Key×V)) (f:Nat->Option Int) (cws:List (List Nat)),vs=[.ref a,.ref b]/\Rd H a (.dK kvs)/\Lk kvs f/\rdL H b=some ((cws.map bC).map V.str)/\cws.length<=8/\(∀ c∈cws,c.length<=7/\∀ d∈c,bQ d)/\
 (dQN (aM (bT (aM f))) cws->∀ H',Same H H'->Q .non H')/\(∀ (t l1 l2:Addr) (rs:List Addr) (W:List Wt) (F:List Nat) (H':Hp),Same H H'->H t=none->H' t=some (.tup [.ref l1,.ref l2])->H' l1=some (.lst (rs.map V.ref))->WtsAt H' rs W->H' l2=some (.lst ((F.map one).map V.str))->LackOk cws (aM (bT (aM f))) W F->LackIs cws (aM (bT (aM f))) W F->H l1=none->H l2=none->Q (.ref t) H')
theorem sc_lack_of:FnScope ["locker", "words", "lack"] ["locker", "words"] (aG gM):=by walk_at "sc"
theorem zY {Zw Zz Zx Zy:Addr} {f:Addr} {fd:FuncData} (F:Fun K "lack_of" "lack_of" gM f fd) (G:Gs K mg Zw Zz Zx Zy) (c_hang_all:oQ P w K mg base 3 "hang_all" ["locker", "words"] (kL Zw)):FnOk P w K mg base CX0 4 f fd ["locker", "words"] qX:=by
 refine F.ok sc_lack_of (λvs H Q E h=>?_) (λcdv A outer s H vs Q E hr h=>?_)
 · obtain ⟨a,b,kvs,f,cws,rfl,_⟩:=h; rfl
 obtain ⟨a,b,kvs,f,cws,rfl,ha,lk,hb,h8,hL,q1,q2⟩:=h;refine ⟨_,(@aE _ _ _ _ _ (dQ2 (i:=2) rfl rfl rfl sc_lack_of.nd rfl rfl rfl G.c_Lack (λpins R=>(@aI _ _ _ (cG (aXQ c_hang_all (rK rfl) hr (by decide) rfl (aA (mv 0) (aA (mv 1) aB)))))) (λpins ea=>(@aI _ _ _ (aW (kF (aA (xE (K:=K) rfl (mv 2) rfl) (aA (xE (K:=K) rfl (mv 2) rfl) aB))))))) (@aI _ _ _ (aW gU))),?_⟩
 walk_at "go";refine ⟨a,b,kvs,f,cws,rfl,ha,lk,hb,h8,hL,λrh ps fs H1 hrh s1 er hne hls hfl hch hct _=>?_,λdx l1 l2 rs W F H1 s1 ed el1 hwt el2 hlo hli hn1 hn2=>⟨G.m_Lack,λea hea=>?_⟩⟩
 · walk_at "go";exact q1 ⟨fs,hfl,hch,hct⟩ _ s1
 · have k2:=aF hea (vC ea (.ref Zw) (some dx))
   have e2:(upd H1 ea (vC ea (.ref Zw) (some dx))) ea=_:=aD
   have ed2:=k2 _ _ ed
   generalize upd H1 ea (vC ea (.ref Zw) (some dx))=H2 at k2 e2 ed2 ⊢;walk_at "go";refine ⟨ea,Zw,dx,_,_,rfl,.inl e2,ed2,G.xx_Lack,G.xn_Lack_wants,rfl,?_⟩;walk_at "go";refine ⟨ea,Zw,dx,_,_,rfl,.inl e2,ed2,G.xx_Lack,G.xn_Lack_flags,rfl,?_⟩;walk_at "go";refine ⟨by show 2<=sizeLine; decide,λt ht=>?_⟩
   have s3:=k2.trans (aF ht (.tup [.ref l1,.ref l2]))
   exact q2 t l1 l2 rs W F _ (s1.trans s3) (bA (s1.trans k2) ht) aD (s3 _ _ el1) ⟨hwt.1,λj p w hp hw=>s3 _ _ (hwt.2 j p w hp hw)⟩ (s3 _ _ el2) hlo hli hn1 hn2
theorem jO {ks:List Nat} {j:Nat} {x:V} (h:(ks.map λk=>V.int ((k:Nat):Int))[j]?=some x):∃ k,ks[j]?=some k/\x=.int ((k:Nat):Int):=by
 rw [Ag] at h;cases e:ks[j]? with
 | none=>rw [e] at h; cases h
 | some k=>rw [e] at h; cases h; exact ⟨k,rfl,rfl⟩
def bM:List Nat->Nat->List (List Nat)
 | _,0=>[[]]
 | ks,m+1=>(List.range ks.length).flatMap λj=>(bM (ks.drop (j+1)) m).map λl=>ks.getD j 0::l
theorem eT (ks:List Nat):bM ks 0=[[]]:=by cases ks <;> rfl
theorem eK (ks:List Nat) (m:Nat):bM ks (m+1)=(List.range ks.length).flatMap λj=>(bM (ks.drop (j+1)) m).map λl=>ks.getD j 0::l:=by rw [bM]
theorem yB {x:Nat} {l:List Nat}:∀ {ks:List Nat},(x::l).Sublist ks->∃ j,j<ks.length/\ks.getD j 0=x/\l.Sublist (ks.drop (j+1))
 | [],h=>by cases h
 | k::ks,h=>by
   rcases List.sublist_cons_iff.mp h with e | ⟨r,e,hr⟩
   · obtain ⟨j,h1,h2,h3⟩:=yB e;exact ⟨j+1,Nat.succ_lt_succ h1,h2,h3⟩
   · cases e;exact ⟨0,Nat.succ_pos _,rfl,hr⟩
theorem mem_combs:∀ {m:Nat} {ks l:List Nat},l∈bM ks m ↔ l.Sublist ks/\l.length=m
 | 0,ks,l=>by
   rw [eT,Aw];constructor
   · rintro rfl;exact ⟨List.nil_sublist _,rfl⟩
   · exact λh=>List.eq_nil_of_length_eq_zero h.2
 | m+1,ks,l=>by
   rw [eK,Ff];constructor
   · rintro ⟨j,hj,hl⟩;rw [Bm] at hj;obtain ⟨l',h1,rfl⟩:=Be.mp hl;obtain ⟨h2,h3⟩:=mem_combs.mp h1;refine ⟨?_,by rw [Bb,h3]⟩
     have e:ks.getD j 0::ks.drop (j+1)=ks.drop j:=by
       rw [Ac,Aa hj];exact (Dz hj).symm
     have h4:(ks.getD j 0::l').Sublist (ks.getD j 0::ks.drop (j+1)):=h2.cons_cons _
     rw [e] at h4;exact h4.trans (List.drop_sublist _ _)
   · rintro ⟨h1,h2⟩;cases l with
     | nil=>cases h2
     | cons x l=>
       obtain ⟨j,h3,h4,h5⟩:=yB h1;exact ⟨j,List.mem_range.mpr h3,List.mem_map.mpr ⟨l,mem_combs.mpr ⟨h5,by simpa using h2⟩,by rw [h4]⟩⟩
theorem oB {α β:Type} (f:α->List β) (b:Nat):∀ (L:List α),(∀ x∈L,(f x).length<=b)->(L.flatMap f).length<=L.length * b
 | [],_=>Bw _
 | x::r,h=>by
   rw [El,Aj,Bb,Nat.succ_mul];have h1:=oB f b r λy hy=>h y (Ao _ hy)
   have h2:=h x As
   omega
theorem gL:∀ {m:Nat} {ks:List Nat},ks.length<=6->(bM ks m).length<=6 ^ m
 | 0,ks,_=>by rw [eT]; decide
 | m+1,ks,h=>by
   rw [eK];refine Bc (oB _ (6 ^ m) _ λj _=>?_) ?_
   · rw [Ab];exact gL (by rw [Ck]; omega)
   · rw [Bz,Nat.pow_succ,Nat.mul_comm];exact Nat.mul_le_mul_left _ h
theorem bZJ (ks:List Nat) (j:Nat):(ks.map λk=>V.int ((k:Nat):Int)).drop j=((ks.drop j).map λk=>V.int ((k:Nat):Int)):=(List.map_drop ..).symm
theorem aZ8 {xs:List V} {k:Nat}:rP xs (some ((k:Nat):Int)) none=xs.drop k:=by
 unfold rP;show (xs.drop (if ((k:Nat):Int)<0 then (((k:Nat):Int)+(xs.length:Int)).toNat else min ((k:Nat):Int).toNat xs.length)).take (xs.length - (if ((k:Nat):Int)<0 then (((k:Nat):Int)+(xs.length:Int)).toNat else min ((k:Nat):Int).toNat xs.length))=_
 rw [if_neg (by omega),Dv]
 by_cases h:k<=xs.length
 · rw [Nat.min_eq_left h,Bu (by rw [Ck]; omega)]
 · rw [Hb (by omega),List.drop_length,List.take_nil,Gx (by omega)]
def nV (ks:List Nat) (m i:Nat):List (List Nat):=(List.range i).flatMap λj=>(bM (ks.drop (j+1)) m).map λl=>ks.getD j 0::l
theorem yS (ks:List Nat) (m i:Nat):nV ks m (i+1)=nV ks m i++(bM (ks.drop (i+1)) m).map λl=>ks.getD i 0::l:=by
 unfold nV;rw [Ci,Dh,El,List.flatMap_nil,Br]
theorem eQ8 {m:Nat} (h:m<=7):6 ^ m<=279936:=Bc (Fv (by decide) h) (by decide)
theorem aQD {ks:List Nat} {m i:Nat} (h:ks.length<=6):(nV ks m i).length<=i * 6 ^ m:=by
 have:=oB (λj=>(bM (ks.drop (j+1)) m).map λl=>ks.getD j 0::l) (6 ^ m) (List.range i) λj _=>by
   rw [Ab];exact gL (by rw [Ck]; omega)
 rwa [Bz] at this
theorem dE {ps:List Addr} {j:Nat} {x:V} (h:(ps.map V.ref)[j]?=some x):∃ p,ps[j]?=some p/\x=.ref p:=by
 rw [Ag] at h;cases e:ps[j]? with
 | none=>rw [e] at h; cases h
 | some p=>rw [e] at h; cases h; exact ⟨p,rfl,rfl⟩
theorem aXF (k:Nat) (L:Q5):(List.range L.length).map (λj=>V.int ((k:Nat):Int)::((L.getD j []).map λk=>V.int ((k:Nat):Int)))=(L.map λl=>k::l).map λl=>(l.map λk=>V.int ((k:Nat):Int)):=by
 rw [By];have h:∀ n,n<=L.length->(List.range n).map (λj=>V.int ((k:Nat):Int)::((L.getD j []).map λk=>V.int ((k:Nat):Int)))=(L.take n).map ((λl=>(l.map λk=>V.int ((k:Nat):Int))) ∘ λl=>k::l):=λn=>by
   induction n with
   | zero=>intro _; rfl
   | succ n ih=>
     intro hn;have e:L[n]?=some L[n]:=Aa (by omega)
     rw [Ci,Ak,ih (by omega),Ba,e,Ak]
     refine Cw _ ?_;show [V.int ((k:Nat):Int)::((L.getD n []).map λk=>V.int ((k:Nat):Int))]=[((k::L[n]).map λk=>V.int ((k:Nat):Int))]
     rw [Ac,e];rfl
 have r:=h L.length (Ah _)
 rwa [Bl] at r
def cP (n:Nat):Sp:=λvs H Q _=>∃ (b:Addr) (ks:List Nat) (m:Nat),vs=[.ref b,.int ((m:Nat):Int)]/\rdL H b=some (ks.map λk=>V.int ((k:Nat):Int))/\ks.length<=6/\m<n/\m<=7/\
 ∀ (r:Addr) (ps:List Addr) (H':Hp),H r=none->Same H H'->H' r=some (.lst (ps.map V.ref))->Lsts H H' ps ((bM ks m).map λl=>(l.map λk=>V.int ((k:Nat):Int)))->(∀ p∈ps,p≠r)->Q (.ref r) H'
theorem nY:∀ vs H Q E,¬ cP 0 vs H Q E:=λvs H Q E ⟨_,_,_,_,_,_,h,_⟩=>Fa _ h
theorem sc_rising_lists:FnScope ["numbers", "many", "lists", "at", "number", "behind"] ["numbers", "many"] (aG cO):=by walk_at "sc"
theorem oV {Zw Zz Zx Zy:Addr} {f:Addr} {fd:FuncData} {d n:Nat} (F:Fun K "rising_lists" "rising_lists" cO f fd) (G:Gs K mg Zw Zz Zx Zy) (c_rising_lists:Cal P w K mg base (d+1) "rising_lists" ["numbers", "many"] (cP n)):FnOk P w K mg base CX0 (d+2) f fd ["numbers", "many"] (cP (n+1)):=by
 refine F.ok sc_rising_lists (λvs H Q E h=>?_) (λcdv A outer s H vs Q E hr h=>?_)
 · obtain ⟨b,ks,m,rfl,_⟩:=h; rfl
 obtain ⟨b,ks,m,rfl,hb,h6,hmn,h7,q⟩:=h;refine ⟨_,(@aE _ _ _ _ _ (cU (bB uT (mv 1) aJ (bI _)) (@aI _ _ _ (aW (bR (aA (bR aB) aB)))) bO) (@aE _ _ _ _ _ (@aP _ _ 2 _ _ _ _ sc_rising_lists.nd (by rfl) (by exact (Or.inl rfl)) (bR aB) (by rfl) (by walk_at "o")) (@aE _ _ _ _ _ (bN Az rfl (uY rfl G.b_enumerate (aA (mv 0) aB)) (kX (K:=K) (i:=3) (j:=4) (by rfl) (by rfl) sc_rising_lists.nd (by rfl) (by exact (Or.inl rfl)) (by exact Or.inl rfl) (by rfl) (by exact (Or.inr rfl)) (by exact Or.inl rfl)) (@aE _ _ _ _ _ (@aP _ _ 5 _ _ _ _ sc_rising_lists.nd (by rfl) (by exact (Or.inl rfl)) (aZ c_rising_lists hr (Ah _) rfl (aA (yV eQG (mv 0) (vP (aX cB (mv 3) aJ)) cZO) (aA (aX jZ (mv 1) aJ) aB))) (by rfl) (by walk_at "o")) (@aI _ _ _ (cG (cV Bj Ee Ef yA (mv 2) (aA (cJ rfl (bH (mv 5)) (fI (N:=["rest", "number"]) ["numbers", "many", "lists", "at", "number", "behind"] (aG cO) [none,some 4] rfl rfl rfl (λx h=>bU h) (by decide +kernel)) (by decide +kernel) rfl (by decide +kernel) (λC s₀ H₀ ex=>(aO (i:=0) (show List.Nodup (["rest", "number"]:List Str) by decide +kernel) rfl (Or.inl rfl))) (λC s₀ H₀ ex=>fD) (λC s₀ H₀ ex=>(aX cB (bR (aA (mv 1) aB)) (mv 0)))) aB)))))) (@aI _ _ _ (aW (mv 2)))))),?_⟩
 cases m with
 | zero=>
   walk_at "go";rw [show decide (((0:Nat):Int)=0)=true from rfl];walk_at "go";refine ⟨by decide,λp hp=>?_⟩
   have s1:=aF hp (.lst [])
   have e1:(upd H p (.lst [])) p=some (.lst ((([]:List Nat)).map λk=>V.int ((k:Nat):Int))):=aD
   generalize upd H p (.lst [])=H1 at s1 e1 ⊢;walk_at "go";refine ⟨by show 1<=sizeLine; decide,λr hr=>?_⟩
   have s2:=aF hr (.lst [.ref p])
   have npr:p≠r:=λz=>by rw [z,hr] at e1; cases e1
   refine q r [p] _ (bA s1 hr) (s1.trans s2) aD ?_ (λz hz=>by rw [Aw.mp hz]; exact npr)
   rw [eT];exact Lsts.snoc (ps:=[]) (fs:=[]) .nil hp (s2 _ _ e1)
 | succ m=>
   have h6m:=eQ8 (m:=m+1) h7
   rw [Nat.pow_succ] at h6m;walk_at "go";rw [show decide (((m+1:Nat):Int)=0)=false from Am (by omega)]
   walk_at "go";refine ⟨by decide,λp hp=>?_⟩
   have s1:=aF hp (.lst [])
   have e1:(upd H p (.lst [])) p=some (.lst (([]:List Addr).map V.ref)):=aD
   generalize upd H p (.lst [])=H1 at s1 e1 ⊢;have hb1:=aH s1 hb
   walk_at "go";refine aZL (xs:=(ks.map λk=>V.int ((k:Nat):Int))) (λi σ H'=>∃ (ps:List Addr) (v3 v4 v5:Option V),σ=[some (.ref b),some (.int ((m+1:Nat):Int)),some (.ref p),v3,v4,v5]/\Same H H'/\H' p=some (.lst (ps.map V.ref))/\Lsts H H' ps ((nV ks m i).map λl=>(l.map λk=>V.int ((k:Nat):Int)))/\∀ z∈ps,z≠p)
     ⟨[],_,_,_,rfl,s1,e1,.nil,λz hz=>nomatch hz⟩ (λi σ H' _ ⟨_,_,_,_,_,e,_⟩=>aH e hb) ?_ ?_
   · rintro i x σ H2 pt hx ⟨ps,v3,v4,v5,rfl,s2,e2,ls,nd⟩ hpt;obtain ⟨k,ek,rfl⟩:=jO hx;have hi:i<ks.length:=(Ae.mp ek).1
     have hps:ps.length=(nV ks m i).length:=by rw [ls.1,Ab]
     have hpl:=aQD (m:=m) (i:=i) h6
     have hpl2:i * 6 ^ m<=5 * 6 ^ m:=Nat.mul_le_mul_right _ (by omega)
     have s3:=s2.trans (aF hpt (.tup [.int ((0+i:Nat):Int),.int ((k:Nat):Int)]))
     have s23:=aF hpt (.tup [.int ((0+i:Nat):Int),.int ((k:Nat):Int)])
     have et3:(upd H2 pt (.tup [.int ((0+i:Nat):Int),.int ((k:Nat):Int)])) pt=some (.tup [.int ((0+i:Nat):Int),.int ((k:Nat):Int)]):=aD
     generalize upd H2 pt (.tup [.int ((0+i:Nat):Int),.int ((k:Nat):Int)])=H3 at s3 s23 et3 ⊢;have hb3:=aH s3 hb
     have tt3:=kY et3
     walk_at "go";rw [show ((0+i:Nat):Int)+1=((i+1:Nat):Int) by omega]
     intro ra hra;rw [aZ8,bZJ];have s4:=aF hra (.lst ((ks.drop (i+1)).map λk=>V.int ((k:Nat):Int)))
     have e4:rdL (upd H3 ra (.lst ((ks.drop (i+1)).map λk=>V.int ((k:Nat):Int)))) ra=some ((ks.drop (i+1)).map λk=>V.int ((k:Nat):Int)):=cZ
     generalize upd H3 ra (.lst ((ks.drop (i+1)).map λk=>V.int ((k:Nat):Int)))=H4 at s4 e4 ⊢;have s24:=s23.trans s4
     walk_at "go";rw [show ((m+1:Nat):Int) - 1=((m:Nat):Int) by omega]
     refine ⟨ra,ks.drop (i+1),m,rfl,e4,by rw [Ck]; omega,by omega,by omega,λrb qs H5 hrb s5 e5 lq nq=>?_⟩
     have s25:=s24.trans s5
     have rb5:=aL e5
     have rp5:=aL (s25 _ _ e2)
     have hqs:qs.length=(bM (ks.drop (i+1)) m).length:=by rw [lq.1,Ab]
     have hql:(bM (ks.drop (i+1)) m).length<=6 ^ m:=gL (by rw [Ck]; omega)
     walk_at "go";refine aX4 (λj=>V.int ((k:Nat):Int)::(((bM (ks.drop (i+1)) m).getD j []).map λk=>V.int ((k:Nat):Int))) rb5 (by rw [Ab,hqs]; exact Et (Bc hql (Bc (Nat.le_mul_of_pos_right _ (by decide:0<6)) h6m)) (by decide)) (λj x Hc A B hx sm hA=>?_) (λD Hd us hD sd eD hul lu nu=>?_)
     · obtain ⟨u,eu,rfl⟩:=dE hx;have hj:j<(bM (ks.drop (i+1)) m).length:=by rw [<-hqs]; exact (Ae.mp eu).1
       obtain ⟨l,el⟩:∃ l,(bM (ks.drop (i+1)) m)[j]?=some l:=⟨_,Aa hj⟩;have hu:=sm _ _ (lq.2 j u (l.map λk=>V.int ((k:Nat):Int)) eu (by rw [Ag,el]; rfl)).2
       have hll:l.length=m:=(mem_combs.mp (Ai el)).2
       have hgl:(bM (ks.drop (i+1)) m).getD j []=l:=by rw [Ac,el]; rfl
       rw [hgl] at hA;walk_at "go";refine ⟨Wk.set rfl (Wk.refl _),?_⟩;walk_at "go";refine ⟨by show 1<=sizeLine; decide,λp6 hp6=>?_⟩
       have s6:=aF hp6 (.lst [V.int ((k:Nat):Int)])
       have e6:(upd Hc p6 (.lst [V.int ((k:Nat):Int)])) p6=some (.lst [V.int ((k:Nat):Int)]):=aD
       have hu6:=s6 _ _ hu
       generalize upd Hc p6 (.lst [V.int ((k:Nat):Int)])=H6 at s6 e6 hu6 ⊢;refine jH (bF e6) (bF hu6) (bP (by rw [Ab]; show 1+_<=_; omega)) λp7 hp7=>?_
       exact hA p7 _ (bA s6 hp7) (s6.trans (aF hp7 _)) aD
     · rw [Ab,hqs,aXF] at lu;rw [Ab] at hul;have s2d:=s25.trans sd
       have e2d:=s2d _ _ e2
       have npD:∀ z∈us,z≠p:=λz hz zp=>by
         obtain ⟨g,_,h1,_⟩:=lu.mem hz;rw [zp,s25 _ _ e2] at h1;cases h1
       have hek:ks.getD i 0=k:=by rw [Ac,ek]; rfl
       walk_at "go";refine cJZ (bF e2d) (bF eD) (Bc (by rw [Ab,Ab,hps,hul,hqs]; omega:_<=279936) (by decide)) ?_
       walk_at "go";refine ⟨ps++us,_,_,_,rfl,aY hp (s2.trans s2d),by rw [Ak]; exact aD,?_,λz hz=>?_⟩
       · rw [yS,Ak,hek];refine Lsts.put ?_ λz hz=>?_
         · exact (ls.keep s2d).app (lu.older (s2.trans s25))
         · rcases Bk.mp hz with e | e
           · exact nd z e
           · exact npD z e
       · rcases Bk.mp hz with e | e
         · exact nd z e
         · exact npD z e
   · rintro σ H2 ⟨ps,v3,v4,v5,rfl,s2,e2,ls,nd⟩;walk_at "go";refine q p ps H2 hp s2 e2 ?_ nd;rw [eK];rw [Ab] at ls;exact ls
theorem lX {α:Type} (F:α->V):∀ xs:List α,(List.range xs.length).filterMap (λj=>(xs[j]?).map F)=xs.map F:=λxs=>by
 have h:∀ n,n<=xs.length->(List.range n).filterMap (λj=>(xs[j]?).map F)=(xs.take n).map F:=λn=>by
   induction n with
   | zero=>intro _; rfl
   | succ n ih=>
     intro hn;have e:xs[n]?=some xs[n]:=Aa (by omega)
     rw [eG (y:=F xs[n]) (by rw [e]; rfl),ih (by omega),Ba,e,Ak]
     rfl
 have r:=h xs.length (Ah _)
 rw [Bl] at r;exact r
def eZT:Option (List Nat)->Str
 | none=>⟨#[45]⟩
 | some cs=>bC cs
def HalV (H:Hp) (v:V):Option (List Nat)->Prop
 | none=>v=.non
 | some cs=>∃ p,v=.ref p/\H p=some (.lst ((cs.map one).map V.str))
def HalOk (hs:List (Option (List Nat))):Prop:=∀ cs,some cs∈hs->cK (cs.map one)=true
structure HalsAt (H:Hp) (vs:List V) (hs:List (Option (List Nat))):Prop where
 len:vs.length=hs.length
 val:∀ (j:Nat) v h,vs[j]?=some v->hs[j]?=some h->HalV H v h
theorem HalV.keep {H H':Hp} {v:V} {h:Option (List Nat)} (a:HalV H v h) (s:∀ p xs,H p=some (.lst xs)->v=.ref p->H' p=some (.lst xs)):HalV H' v h:=by
 cases h with
 | none=>exact a
 | some cs=>
   obtain ⟨p,e,hp⟩:=a;exact ⟨p,e,s p _ hp e⟩
theorem HalsAt.keep {H H':Hp} {vs:List V} {hs:Q3} (a:HalsAt H vs hs) (s:Same H H'):HalsAt H' vs hs:=⟨a.len,λj v h hv hh=>(a.val j v h hv hh).keep λp xs hp _=>s _ _ hp⟩
theorem HalsAt.nil {H:Hp}:HalsAt H [] []:=⟨rfl,λj v h hv=>nomatch hv⟩
theorem HalsAt.snoc {H:Hp} {vs:List V} {hs:Q3} {v:V} {h:Option (List Nat)} (a:HalsAt H vs hs) (b:HalV H v h):HalsAt H (vs++[v]) (hs++[h]):=by
 refine ⟨by rw [Aj,Aj,a.len]; rfl,λj x g hx hg=>?_⟩
 by_cases hj:j<vs.length
 · rw [Ap hj] at hx;rw [Ap (by rw [<-a.len]; exact hj)] at hg
   exact a.val j x g hx hg
 · have e:j=vs.length:=by
     have:=(Ae.mp hx).1
     rw [Aj] at this;have:j<vs.length+1:=this
     omega
   subst e;rw [Av (Ah _),Fz] at hx;rw [a.len,Av (Ah _),Fz] at hg;cases hx;cases hg;exact b
theorem HalV.ne {H:Hp} {r:Addr} {vs:List V} {h:Option (List Nat)} {j:Nat} {v:V} (hr:H r=some (.lst vs)) (hj:vs[j]?=some v) (a:HalV H v h):v≠.ref r:=λz=>by
 cases h with
 | none=>rw [show v=.non from a] at z; cases z
 | some cs=>
   obtain ⟨p,e,hp⟩:=a;rw [z] at e;cases e;rw [hr] at hp;cases hp;obtain ⟨u,_,hu⟩:=lS hj;rw [z] at hu;cases hu
theorem HalsAt.put {H:Hp} {r:Addr} {vs us:List V} {hs:Q3} (hr:H r=some (.lst vs)) (a:HalsAt H vs hs):HalsAt (upd H r (.lst us)) vs hs:=⟨a.len,λj v h hv hh=>(a.val j v h hv hh).keep λp xs hp e=>by
 rw [aK (λz=>(a.val j v h hv hh).ne hr hv (by rw [<-z]; exact e))]
 exact hp⟩
theorem HalsAt.at {H:Hp} {vs:List V} {hs:Q3} (a:HalsAt H vs hs) {j:Nat} {v:V} (hv:vs[j]?=some v):∃ h,hs[j]?=some h/\HalV H v h:=by
 have hj:j<hs.length:=by rw [<-a.len]; exact (Ae.mp hv).1
 exact ⟨hs[j],Aa hj,a.val j v _ hv (Aa hj)⟩
theorem aX7 {K:PySem.W.Frag} {g:TG} {tests:TT} {te:TE} {σ0:St} {H1:Hp} {Q:VK} {a:Addr} {xs:List V} {hs:Q3} (ha:rdL H1 a=some xs) (hl:xs.length<sizeLine) (hx:xs.length=hs.length)
   (step:∀ (i:Nat) x h Hc (A:VK) (B:Hp->Prop),xs[i]?=some x->hs[i]?=some h->Same H1 Hc->(∀ v Hd,Same Hc Hd->HalV Hd v h->(∀ p,v=.ref p->Hc p=none)->A v Hd)->
     g x σ0 Hc λσ2 H2=>Wk σ0 σ2/\tests σ2 H2 λb H3=>if b=true then te σ2 H3 A else B H3)
   (fin:∀ D Hd vs,H1 D=none->Same H1 Hd->Hd D=some (.lst vs)->HalsAt Hd vs hs->(∀ p,V.ref p∈vs->H1 p=none)->Q (.ref D) Hd):eQ g tests te σ0 Q (Itl K a) H1:=by
 refine fE (n:=xs.length) (λD i ys Hc=>Same H1 Hc/\HalsAt Hc ys (hs.take i)/\∀ p,V.ref p∈ys->H1 p=none) hl (λD hD=>⟨aF hD _,.nil,λp hp=>nomatch hp⟩)
   (λD i ys Hc _ r h=>⟨xs,xs[i],aR (aH r.1 ha),by simp [h]⟩) (λD ys Hc _ r=>⟨xs,aR (aH r.1 ha),Nat.le_refl _⟩) ?_ ?_
 · rintro D i ys Hc x H' A B hD hi ⟨sm,at',fr⟩ hDc ⟨rfl,hz⟩ ha' hb;have hi2:i<hs.length:=by omega
   have eh:hs[i]?=some hs[i]:=Aa hi2
   refine step i x hs[i] H' A B (hz xs (aR (aH sm ha))) eh sm (λv Hd sd hv hn=>?_);refine ha' _ _ (sd _ _ hDc) ⟨aY hD (sm.trans sd),?_,λp hp=>?_⟩
   · rw [Ba,eh];refine HalsAt.snoc ((at'.keep sd).put (sd _ _ hDc)) (hv.keep λp zs hp e=>?_);rw [aK (λz=>by have:=hn p e; rw [z,hDc] at this; cases this)]
     exact hp
   · rcases Bk.mp hp with e | e
     · exact fr p e
     · exact bA sm (hn p (Aw.mp e).symm)
 · rintro D ys Hc hD ⟨sm,at',fr⟩ hDc _;rw [hx,Bl] at at';exact fin D Hc ys hD sm hDc at' fr
theorem cQB {f:Nat->Option Int} (hf0:∀ c,0<=aM f c) (c:Nat):aM (bT (aM f)) c<=aM f c:=by
 show (bT (aM f) c).getD 0<=_
 unfold bT;split
 · exact Gk _
 · exact hf0 c
theorem rC {cws:Q5}:∀ i,i<=cws.length->(wlP cws i).length=gY cws i
 | 0,_=>rfl
 | i+1,h=>by
   have e:cws[i]?=some cws[i]:=Aa (by omega)
   rw [jX,Aj,rC i (by omega),tK e]
   unfold lJ;rw [Ab,Bz,Ac,e];rfl
theorem eXH {cws:Q5} {i k:Nat} {cw:List Nat} (hi:cws[i]?=some cw) (hk:k<cw.length):(wl cws)[gY cws i+k]?=some (i,1+k):=by
 have hil:=(Ae.mp hi).1
 have h:∀ n,i<n->n<=cws.length->(wlP cws n)[gY cws i+k]?=some (i,1+k):=λn=>by
   induction n with
   | zero=>intro h; omega
   | succ n ih=>
     intro h1 h2;rw [jX];by_cases hn:i=n
     · subst hn;have e:=rC (cws:=cws) i (by omega)
       rw [Av (by omega),show gY cws i+k - (wlP cws i).length=k by omega]
       unfold lJ;rw [Ag,Ac,hi];show ((List.range cw.length)[k]?).map _=_
       rw [List.getElem?_range hk];rfl
     · have r:=ih (by omega) (by omega)
       rw [Ap (Ae.mp r).1];exact r
 exact h cws.length hil (Ah _)
def Hg (cw h:List Nat):Prop:=h.length=cw.length/\∀ (k g:Nat),h[k]?=some g->g∈chs cw k
inductive Hgs:List (List Nat)->List (List Nat)->Prop
 | nil:Hgs [] []
 | cons {cw h:List Nat} {cws hs:Q5}:Hg cw h->Hgs cws hs->Hgs (cw::cws) (h::hs)
def oW:List (List Nat)->List Nat->List (List Nat)
 | [],_=>[]
 | cw::r,fs=>fs.take cw.length::oW r (fs.drop cw.length)
theorem tZ:∀ {cws:Q5} {fs:List Nat},fs.length=(cws.map List.length).sum->(oW cws fs).flatten=fs
 | [],fs,h=>by rw [List.eq_nil_of_length_eq_zero h]; rfl
 | cw::r,fs,h=>by
   rw [Au,Ct] at h;rw [oW,List.flatten_cons,tZ (by rw [Ck]; omega),List.take_append_drop]
theorem yH:∀ {cws:Q5} {fs:List Nat},fs.length=(cws.map List.length).sum->(∀ (i k g:Nat) cw,cws[i]?=some cw->k<cw.length->fs[gY cws i+k]?=some g->g∈chs cw k)->Hgs cws (oW cws fs)
 | [],fs,h,_=>.nil
 | cw::r,fs,h,hc=>by
   rw [Au,Ct] at h;refine .cons ⟨by rw [Bs]; omega,λk g hk=>?_⟩ (yH (by rw [Ck]; omega) λi k g cw' hi hk hg=>?_)
   · have hkl:k<cw.length:=by
       have:=(Ae.mp hk).1
       rw [Bs] at this;omega
     rw [List.getElem?_take,if_pos hkl] at hk;exact hc 0 k g cw rfl hkl (by rw [show gY (cw::r) 0=0 from rfl,Nat.zero_add]; exact hk)
   · refine hc (i+1) k g cw' hi hk ?_;rw [List.getElem?_drop] at hg;rw [show gY (cw::r) (i+1)=cw.length+gY r i by unfold gY; rw [List.take_succ_cons,Au,Ct],Nat.add_assoc]
     exact hg
theorem cQI (cws:Q5):(wl cws).length=(cws.map List.length).sum:=by
 have h:=rC (cws:=cws) cws.length (Ah _)
 unfold gY at h;rw [Bl] at h;exact h
theorem dQ1 {cws:Q5} {fs:List Nat} (hl:fs.length=(wl cws).length) (hch:∀ (j:Nat) w g,(wl cws)[j]?=some w->fs[j]?=some g->g∈chW cws w):Hgs cws (oW cws fs):=by
 refine yH (hl.trans (cQI cws)) λi k g cw hi hk hg=>?_;have h:=hch _ _ g (eXH hi hk) hg
 unfold chW at h;rw [Ac,hi,show (i,1+k).2 - 1=k by show 1+k - 1=k; omega] at h
 exact h
theorem HalsAt.get {H:Hp} {vs:List V} {hs:Q3} (a:HalsAt H vs hs) {k:Nat} (hk:k<hs.length):∃ v,atI vs (k:Int)=some v/\vs[k]?=some v/\HalV H v (hs.getD k none):=by
 have hv:k<vs.length:=by rw [a.len]; exact hk
 refine ⟨vs[k],eI (Aa hv),Aa hv,?_⟩;refine a.val k _ _ (Aa hv) ?_;rw [Ac,Aa hk];rfl
def aQ (hs:List (Option (List Nat))) (n:Nat):List Nat:=(List.range hs.length).filter λk=>(hs.getD k none).isSome && !decide (k=n)
theorem fX {hs:Q3} {n k:Nat} (h:k∈aQ hs n):k<hs.length/\(hs.getD k none).isSome=true/\k≠n:=by
 obtain ⟨h1,h2⟩:=Da.mp h;rw [Cs,Bool.not_eq_true',decide_eq_false_iff_not] at h2;exact ⟨Bm.mp h1,h2.1,h2.2⟩
theorem jI {hs:Q3} {n:Nat} (hn:n<hs.length):(aQ hs n).length+1<=hs.length:=by
 have h1:(aQ hs n).Sublist ((List.range hs.length).filter λk=>!decide (k=n)):=by
   have e:aQ hs n=((List.range hs.length).filter λk=>!decide (k=n)).filter λk=>(hs.getD k none).isSome:=by
     unfold aQ;rw [List.filter_filter]
   rw [e];exact Ep
 have h2:=h1.length_le
 have h3:=List.length_eq_countP_add_countP (p:=λk=>decide (k=n)) (l:=List.range hs.length)
 rw [Bz] at h3;have h4:1<=(List.range hs.length).countP λk=>decide (k=n):=by
   refine List.countP_pos_iff.mpr ⟨n,Bm.mpr hn,An rfl⟩
 have h5:((List.range hs.length).filter λk=>!decide (k=n)).length=(List.range hs.length).countP λk=>!decide (k=n):=Fj.symm
 have h6:((List.range hs.length).countP λa=>¬ (decide (a=n))=true)=(List.range hs.length).countP λk=>!decide (k=n):=by
   congr 1
   funext k
   cases decide (k=n) <;> rfl
 omega
def oth (hs:List (Option (List Nat))) (n:Nat) (i:Nat):Option V:=if ((hs.getD i none).isSome && !decide (i=n))=true then some (V.int ((i:Nat):Int)) else none
theorem bZX (hs:Q3) (n m:Nat):(List.range m).filterMap (oth hs n)=((List.range m).filter λk=>(hs.getD k none).isSome && !decide (k=n)).map λk=>V.int ((k:Nat):Int):=by
 induction List.range m with
 | nil=>rfl
 | cons a r ih=>
   by_cases h:((hs.getD a none).isSome && !decide (a=n))=true
   · rw [Dm (b:=V.int ((a:Nat):Int)) (by unfold oth; rw [if_pos h]),List.filter_cons_of_pos (p:=λk=>(hs.getD k none).isSome && !decide (k=n)) h,Au,ih]
   · rw [Ed (by unfold oth; rw [if_neg h]),List.filter_cons_of_neg (p:=λk=>(hs.getD k none).isSome && !decide (k=n)) h,ih]
def kA:Sp:=λvs H Q _=>∃ (a:Addr) (us:List V) (hs:List (Option (List Nat))) (n:Nat),vs=[.ref a,.int ((n:Nat):Int)]/\rdL H a=some us/\HalsAt H us hs/\hs.length<=7/\
 ∀ (r:Addr) (H':Hp),H r=none->Same H H'->H' r=some (.lst ((aQ hs n).map λk=>V.int ((k:Nat):Int)))->Q (.ref r) H'
theorem rE:FnScope ["halyards", "number"] ["halyards", "number"] (aG cS):=by walk_at "sc"
theorem qQ {Zw Zz Zx Zy:Addr} {f:Addr} {fd:FuncData} (F:Fun K "others_hung" "others_hung" cS f fd) (G:Gs K mg Zw Zz Zx Zy)  : FnOk P w K mg base CX0 1 f fd ["halyards", "number"] kA:=by
 refine F.ok rE (λvs H Q E h=>?_) (λcdv A outer s H vs Q E hr h=>?_)
 · obtain ⟨a,us,hs,n,rfl,_⟩:=h; rfl
 obtain ⟨a,us,hs,n,rfl,ha,hat,h7,q⟩:=h;refine ⟨_,(@aI _ _ _ (aW (cJ rfl (uY rfl G.b_enumerate (aA (mv 0) aB)) (fI (N:=["other", "hoist", "number"]) ["halyards", "number"] (aG cS) [none,none,some 1] rfl rfl rfl (λx h=>bU h) (by decide +kernel)) (by decide +kernel) rfl (by decide +kernel) (λC s₀ H₀ ex=>(kX (K:=K) (i:=0) (j:=1) (by rfl) (by rfl) (show List.Nodup (["other", "hoist", "number"]:List Str) by decide +kernel) (by rfl) (by exact Or.inl rfl) (by exact Or.inr rfl) (by rfl) (by exact Or.inl rfl) (by exact Or.inr rfl))) (λC s₀ H₀ ex=>(iG (PW.pt (vK (bB uX (mv 1) gU (bI _)) (pE (bB bZO (mv 0) (mv 2) (bI _))))))) (λC s₀ H₀ ex=>(mv 0))))),?_⟩
 have hul:=hat.len
 walk_at "go";refine bXX (xs:=us) (oth hs n) ha (aV (by omega)) (λi x Hc p A B hx sm hp hA hB=>?_) (λD Hd hD sD hd=>?_)
 · have hi:i<hs.length:=by rw [<-hul]; exact (Ae.mp hx).1
   have hv:=hat.val i x (hs.getD i none) hx (by rw [Ac,Aa hi]; rfl)
   have tp:pM (upd Hc p (.tup [.int ((0+i:Nat):Int),x])) p=some [.int ((0+i:Nat):Int),x]:=nZ
   rw [Nat.zero_add] at tp hA hB ⊢;walk_at "go";refine ⟨Wk.set rfl (Wk.set rfl (Wk.refl _)),?_⟩;walk_at "go";cases eh:hs.getD i none with
   | none=>
     rw [eh] at hv;obtain rfl:x=V.non:=hv;rw [show decide (V.non=V.non)=true from rfl];walk_at "go";exact hB (by unfold oth; rw [eh]; rfl) _ (Same.refl _)
   | some cs=>
     rw [eh] at hv;obtain ⟨pc,rfl,_⟩:=hv;rw [show decide (V.ref pc=V.non)=false from Am (λz=>nomatch z)]
     walk_at "go";by_cases hn:i=n
     · rw [An (show ((i:Nat):Int)=((n:Nat):Int) by omega)]
       exact hB (by unfold oth; rw [eh,An hn]; rfl) _ (Same.refl _)
     · rw [Am (show ¬ ((i:Nat):Int)=((n:Nat):Int) by omega)]
       walk_at "go";exact hA _ (by unfold oth; rw [eh,Am hn]; rfl) _ (Same.refl _)
 · rw [hul,bZX] at hd;exact q D Hd hD sD hd
def bJ (hs:List (Option (List Nat))) (ks:List Nat):List Nat:=ks.flatMap λk=>(hs.getD k none).getD []
theorem bQ9 (hs:Q3) (A B:List Nat):bJ hs (A++B)=bJ hs A++bJ hs B:=Dh ..
theorem sU {hs:Q3} (ok:HalOk hs) (k:Nat):((hs.getD k none).getD []).length<=7:=by
 cases e:hs[k]? with
 | none=>rw [Ac,e]; exact Bw _
 | some h=>
   rw [Ac,e];cases h with
   | none=>exact Bw _
   | some cs=>
     have:=fU (ok cs (Ai e))
     rw [Ab] at this;exact this.2
theorem gP {hs:Q3} (ok:HalOk hs):∀ ks:List Nat,(bJ hs ks).length<=7 * ks.length
 | []=>Bw _
 | k::r=>by
   show (((hs.getD k none).getD [])++bJ hs r).length<=_
   rw [Aj,Bb];have:=sU ok k
   have:=gP ok r
   omega
def kE:Sp:=λvs H Q _=>∃ (a b:Addr) (us:List V) (hs:List (Option (List Nat))) (ks:List Nat),vs=[.ref a,.ref b]/\rdL H a=some us/\HalsAt H us hs/\HalOk hs/\rdL H b=some (ks.map λk=>V.int ((k:Nat):Int))/\ks.length<=7/\(∀ k∈ks,k<hs.length)/\
 ∀ (r:Addr) (H':Hp),H r=none->Same H H'->H' r=some (.lst (((bJ hs ks).map one).map V.str))->Q (.ref r) H'
theorem sc_flags_on:FnScope ["halyards", "numbers", "flags", "number"] ["halyards", "numbers"] (aG fZ):=by walk_at "sc"
theorem wN {Zw Zz Zx Zy:Addr} {f:Addr} {fd:FuncData} (F:Fun K "flags_on" "flags_on" fZ f fd) (G:Gs K mg Zw Zz Zx Zy)  : FnOk P w K mg base CX0 1 f fd ["halyards", "numbers"] kE:=by
 refine F.ok sc_flags_on (λvs H Q E h=>?_) (λcdv A outer s H vs Q E hr h=>?_)
 · obtain ⟨a,b,us,hs,ks,rfl,_⟩:=h; rfl
 obtain ⟨a,b,us,hs,ks,rfl,ha,hat,ok,hb,h7,hk,q⟩:=h;refine ⟨_,(@aE _ _ _ _ _ (@aP _ _ 2 _ _ _ _ sc_flags_on.nd (by rfl) (by exact (Or.inl rfl)) (bR aB) (by rfl) (by walk_at "o")) (@aE _ _ _ _ _ (bN Az rfl (bH (mv 1)) (aO (i:=3) sc_flags_on.nd rfl (Or.inl rfl)) (@aI _ _ _ (cU (bB uX (bG cC (mv 0) (mv 3) (λ_ _=>rfl)) gU (bI _)) (@aI _ _ _ (cG (cV Bj Ee Ef yA (mv 2) (aA (bG cC (mv 0) (mv 3) (λ_ _=>rfl)) aB)))) bO))) (@aI _ _ _ (aW (mv 2))))),?_⟩
 walk_at "go";refine ⟨by decide,λp hp=>?_⟩
 have sp:=aF hp (.lst [])
 have hb1:=aH sp hb
 walk_at "go";refine cF (xs:=(ks.map λk=>V.int ((k:Nat):Int))) (λi σ H'=>∃ v,σ=[some (.ref a),some (.ref b),some (.ref p),v]/\Same H H'/\H' p=some (.lst (((bJ hs (ks.take i)).map one).map V.str)))
   ⟨_,rfl,sp,aD⟩ (λi σ H' _ ⟨_,_,e,_⟩=>aH e hb) ?_ ?_
 · rintro i x σ H2 hx ⟨v,rfl,s2,e2⟩;obtain ⟨k,hki,rfl⟩:=jO hx;have hkl:=hk k (Ai hki)
   obtain ⟨u,au,_,hv⟩:=(hat.keep s2).get hkl;have r2:=aH s2 ha
   have ft:bJ hs (ks.take (i+1))=bJ hs (ks.take i)++(hs.getD k none).getD []:=by
     rw [Ba,hki,bQ9];show _++(_++[])=_
     rw [Br]
   walk_at "go";refine cQ r2 au ?_;walk_at "go";cases eh:hs.getD k none with
   | none=>
     rw [eh] at hv ft;rw [show u=.non from hv,show decide (V.non=V.non)=true from rfl];walk_at "go";exact ⟨_,rfl,s2,by rw [ft]; show _=some (HO.lst (((_++[]).map one).map V.str)); rw [Br]; exact e2⟩
   | some cs=>
     have h7c:=sU ok k
     rw [eh] at hv ft h7c;obtain ⟨pc,rfl,hpc⟩:=hv;rw [show decide (V.ref pc=V.non)=false from Am (λz=>nomatch z)]
     have m2:=bF e2
     have rc:=aL hpc
     have l2:=gP ok (ks.take i)
     rw [Bs] at l2;have hln:(((bJ hs (ks.take i)).map one).map V.str).length+((cs.map one).map V.str).length<=sizeLine:=bP (by rw [Ab,Ab,Ab,Ab]; have:cs.length<=7:=h7c; omega)
     walk_at "go";refine cQ r2 au ?_;walk_at "go";refine ⟨_,rfl,aY hp s2,?_⟩;rw [aD,ft,Ak,Ak];rfl
 · rintro σ H2 ⟨v,rfl,s2,e2⟩;rw [Bu (by rw [Ab]; exact Ah _)] at e2
   walk_at "go";exact q p H2 hp s2 e2
theorem aQG {os:List Nat} {m:Nat} (h:os.length<m):bM os m=[]:=by
 cases e:bM os m with
 | nil=>rfl
 | cons l r=>
   have:=mem_combs.mp (show l∈bM os m by rw [e]; exact As)
   have h2:=this.1.length_le
   omega
theorem qW:∀ os:List Nat,bM os os.length=[os]
 | []=>eT []
 | k::r=>by
   rw [Bb,eK,Bb,List.range_succ_eq_map,El];have h1:((bM ((k::r).drop (0+1)) r.length).map λl=>(k::r).getD 0 0::l)=[k::r]:=by
     show ((bM r r.length).map λl=>k::l)=_
     rw [qW r];rfl
   rw [h1,List.flatMap_map];have h2:((List.range r.length).flatMap λj=>(bM ((k::r).drop (j.succ+1)) r.length).map λl=>(k::r).getD j.succ 0::l)=[]:=by
     rw [List.flatMap_eq_nil_iff];intro j hj;rw [aQG (by rw [Ck,Bb]; have:=Bm.mp hj; omega)]
     rfl
   rw [h2];rfl
def bV (os:List Nat):List (List Nat):=(List.range (os.length+1)).flatMap λm=>bM os m
def dZ (os:List Nat) (i:Nat):List (List Nat):=(List.range i).flatMap λm=>bM os m
theorem lP (os:List Nat) (i:Nat):dZ os (i+1)=dZ os i++bM os i:=by
 unfold dZ;rw [Ci,Dh];congr 1
 show bM os i++[]=_
 rw [Br]
theorem mem_sets {os l:List Nat}:l∈bV os ↔ l.Sublist os:=by
 unfold bV;rw [Ff];constructor
 · rintro ⟨m,_,h⟩;exact (mem_combs.mp h).1
 · intro h;exact ⟨l.length,Bm.mpr (Nat.lt_succ_of_le h.length_le),mem_combs.mpr ⟨h,rfl⟩⟩
theorem kT {os:List Nat}:∀ {i:Nat},os.length<=6->i<=6->(dZ os i).length<=i * 6 ^ 5
 | 0,_,_=>Bw _
 | i+1,h,hi=>by
   rw [lP,Aj,Nat.succ_mul];have h1:=kT (i:=i) h (by omega)
   have h2:(bM os i).length<=6 ^ 5:=Bc (gL h) (Fv (by decide) (by omega))
   omega
def pS:Sp:=λvs H Q _=>∃ (b:Addr) (os:List Nat),vs=[.ref b]/\rdL H b=some (os.map λk=>V.int ((k:Nat):Int))/\os.length<=5/\
 ∀ (r:Addr) (ps:List Addr) (H':Hp),H r=none->Same H H'->H' r=some (.lst (ps.map V.ref))->Lsts H H' ps ((bV os).map λl=>(l.map λk=>V.int ((k:Nat):Int)))->(∀ p∈ps,p≠r)->Q (.ref r) H'
theorem sc_sets_of:FnScope ["others", "sets", "many"] ["others"] (aG gQ):=by walk_at "sc"
theorem aQB {Zw Zz Zx Zy:Addr} {f:Addr} {fd:FuncData} (F:Fun K "sets_of" "sets_of" gQ f fd) (G:Gs K mg Zw Zz Zx Zy) (c_rising_lists:Cal P w K mg base 9 "rising_lists" ["numbers", "many"] (cP 8)):FnOk P w K mg base CX0 10 f fd ["others"] pS:=by
 refine F.ok sc_sets_of (λvs H Q E h=>?_) (λcdv A outer s H vs Q E hr h=>?_)
 · obtain ⟨b,os,rfl,_⟩:=h; rfl
 obtain ⟨b,os,rfl,hb,h5,q⟩:=h;refine ⟨_,(@aE _ _ _ _ _ (@aP _ _ 1 _ _ _ _ sc_sets_of.nd (by rfl) (by exact (Or.inl rfl)) (bR aB) (by rfl) (by walk_at "o")) (@aE _ _ _ _ _ (bN Az rfl (dW rfl G.b_range (aA (aX cB (aU eE rfl G.b_len cI (aA (mv 0) aB)) aJ) aB)) (aO (i:=2) sc_sets_of.nd rfl (Or.inl rfl)) (@aI _ _ _ (cG (cV Bj Ee Ef yA (mv 1) (aA (aZ c_rising_lists hr (by decide) rfl (aA (mv 0) (aA (mv 2) aB))) aB))))) (@aI _ _ _ (aW (mv 1))))),?_⟩
 have hbl:((os.map λk=>V.int ((k:Nat):Int))).length=os.length:=Ab ..
 walk_at "go";refine ⟨by decide,λp hp=>?_⟩
 have s1:=aF hp (.lst [])
 have e1:(upd H p (.lst [])) p=some (.lst (([]:List Addr).map V.ref)):=aD
 generalize upd H p (.lst [])=H1 at s1 e1 ⊢;have hb1:=aH s1 hb
 walk_at "go";rw [hbl];refine ⟨⟨by omega,by omega⟩,?_⟩
 refine gC (λi σ H'=>∃ (ps:List Addr) (v:Option V),σ=[some (.ref b),some (.ref p),v]/\Same H H'/\H' p=some (.lst (ps.map V.ref))/\Lsts H H' ps ((dZ os i).map λl=>(l.map λk=>V.int ((k:Nat):Int)))/\∀ z∈ps,z≠p)
   ⟨[],_,rfl,s1,e1,.nil,λz hz=>nomatch hz⟩ ?_ ?_
 · rintro i σ H2 hi ⟨ps,v,rfl,s2,e2,ls,nd⟩;have hi6:i<=os.length:=by omega
   have hb2:=aH s2 hb
   have hps:ps.length=(dZ os i).length:=by rw [ls.1,Ab]
   have hpl:=kT (os:=os) (i:=i) (by omega) (by omega)
   walk_at "go";rw [show (0:Int)+(i:Int)=((i:Nat):Int) by omega]
   refine ⟨b,os,i,rfl,hb2,by omega,by omega,by omega,λrb qs H5 hrb s5 e5 lq nq=>?_⟩
   have hqs:qs.length=(bM os i).length:=by rw [lq.1,Ab]
   have hql:(bM os i).length<=6 ^ 5:=Bc (gL (by omega)) (Fv (by decide) (by omega))
   have e25:=s5 _ _ e2
   have m5:=bF e25
   have r5:=aL e5
   have hln:(ps.map V.ref).length+(qs.map V.ref).length<=sizeLine:=bP (by rw [Ab,Ab,hps,hqs]; omega)
   walk_at "go";have npq:∀ z∈qs,z≠p:=λz hz zp=>by
     obtain ⟨g,_,h1,_⟩:=lq.mem hz;rw [zp,e2] at h1;cases h1
   have nd2:∀ z∈ps++qs,z≠p:=λz hz=>(Bk.mp hz).elim (nd z) (npq z)
   refine ⟨ps++qs,_,rfl,aY hp (s2.trans s5),?_,?_,nd2⟩
   · rw [aD,Ak]
   · rw [lP,Ak];exact ((ls.keep s5).app (lq.older s2)).put nd2
 · rintro σ H2 ⟨ps,v,rfl,s2,e2,ls,nd⟩;rw [show ((os.length:Int)+1).toNat=os.length+1 by omega] at ls
   walk_at "go";exact q p ps H2 hp s2 e2 ls nd
def bW (hs:List (Option (List Nat))) (cw ks:List Nat):List (List Nat):=cw::ks.map λk=>rdC ((hs.getD k none).getD [])
theorem dU (ks:List Nat):((ks.map λk=>V.int ((k:Nat):Int))).length=ks.length:=Ab ..
def iF:Sp:=λvs H Q _=>∃ (a b:Addr) (us:List V) (hs:List (Option (List Nat))) (cw ks:List Nat),vs=[.ref a,.str (bC cw),.ref b]/\rdL H a=some us/\HalsAt H us hs/\HalOk hs/\rdL H b=some (ks.map λk=>V.int ((k:Nat):Int))/\ks.length<=7/\(∀ k∈ks,k<hs.length/\(hs.getD k none).isSome=true)/\
 ∀ (r:Addr) (H':Hp),H r=none->Same H H'->H' r=some (.lst (((bW hs cw ks).map bC).map V.str))->Q (.ref r) H'
theorem rW:FnScope ["halyards", "word", "lowered"] ["halyards", "word", "lowered"] (aG dD):=by walk_at "sc"
theorem rL {Zw Zz Zx Zy:Addr} {f:Addr} {fd:FuncData} (F:Fun K "words_with" "words_with" dD f fd) (G:Gs K mg Zw Zz Zx Zy) (c_read_of:oQ P w K mg base 4 "read_of" ["flags"] (qO Zy)):FnOk P w K mg base CX0 5 f fd ["halyards", "word", "lowered"] iF:=by
 refine F.ok rW (λvs H Q E h=>?_) (λcdv A outer s H vs Q E hr h=>?_)
 · obtain ⟨a,b,us,hs,cw,ks,rfl,_⟩:=h; rfl
 obtain ⟨a,b,us,hs,cw,ks,rfl,ha,hat,ok,hb,h7,hk,q⟩:=h;refine ⟨_,(@aI _ _ _ (aW (aX cB (bR (aA (mv 1) aB)) (cJ rfl (bH (mv 2)) (fI (N:=["other", "halyards"]) ["halyards", "word", "lowered"] (aG dD) [none,some 0] rfl rfl rfl (λx h=>bU h) (by decide +kernel)) (by decide +kernel) rfl (by decide +kernel) (λC s₀ H₀ ex=>(aO (i:=0) (show List.Nodup (["other", "halyards"]:List Str) by decide +kernel) rfl (Or.inl rfl))) (λC s₀ H₀ ex=>fD) (λC s₀ H₀ ex=>(hZ c_read_of kR hr (by decide) rfl (aA (bG cC (mv 1) (mv 0) (λ_ _=>rfl)) aB))))))),?_⟩
 walk_at "go";refine ⟨by show 1<=sizeLine; decide,λp hp=>?_⟩
 have s1:=aF hp (.lst [V.str (bC cw)])
 have e1:(upd H p (.lst [V.str (bC cw)])) p=some (.lst [V.str (bC cw)]):=aD
 generalize upd H p (.lst [V.str (bC cw)])=H1 at s1 e1 ⊢;have hb1:=aH s1 hb
 have ha1:=aH s1 ha
 walk_at "go";refine kC (xs:=(ks.map λk=>V.int ((k:Nat):Int))) (λj=>(ks[j]?).map λk=>V.str (bC (rdC ((hs.getD k none).getD [])))) hb1 (aV (by rw [dU]; omega)) (λj x Hc A B hx sm hA hB=>?_) (λD Hd hD sD hd=>?_)
 · obtain ⟨k,hki,rfl⟩:=jO hx;obtain ⟨hkl,hks⟩:=hk k (Ai hki);obtain ⟨u,au,_,hv⟩:=(hat.keep (s1.trans sm)).get hkl;have hA2:=hA (V.str (bC (rdC ((hs.getD k none).getD [])))) (by rw [hki]; rfl)
   have r2:=aH sm ha1
   cases eh:hs.getD k none with
   | none=>rw [eh] at hks; cases hks
   | some cs=>
     rw [eh] at hv hA2;obtain ⟨pc,rfl,hpc⟩:=hv;have hb:=ok cs (by
       rw [Ac,Aa hkl] at eh;rw [<-show hs[k]=some cs from eh];exact Bv hkl)
     have h7c:=fU hb
     walk_at "go";refine ⟨Wk.set rfl (Wk.refl _),?_⟩;walk_at "go";refine cQ r2 au ?_;walk_at "go";refine ⟨pc,cs.map one,rfl,aL hpc,by omega,bZY cs,λ_ H3 s3=>?_,λhf=>?_⟩
     · have e:bX7 (cs.map one)=bC (rdC cs):=by unfold bX7; rw [bQ0]
       rw [e];exact hA2 _ s3
     · rw [hb] at hf; cases hf
 · rw [dU,lX,show ks.map (λk=>V.str (bC (rdC ((hs.getD k none).getD []))))=((ks.map λk=>rdC ((hs.getD k none).getD [])).map bC).map V.str by rw [By,By]; rfl] at hd
   refine jH (bF (sD _ _ e1)) (bF hd) (bP (by rw [Ab,Ab,Ab]; show 1+_<=_; omega)) λr hr=>?_
   exact q r _ (bA (s1.trans sD) hr) (s1.trans (sD.trans (aF hr _))) aD
def mS (f:Nat->Option Int) (hs:List (Option (List Nat))) (L:List Nat):Nat->Option Int:=bT λc=>aM f c+cnt (bJ hs L) c
def lF (f:Nat->Option Int) (hs:List (Option (List Nat))) (L:List Nat) (c:Nat):Int:=aM (bT (aM (mS f hs L))) c
def aQ2 (f:Nat->Option Int) (hs:List (Option (List Nat))) (n:Nat) (cw ks:List Nat):Prop:=dQN (lF f hs (n::ks)) (bW hs cw ks)
def PaperH (X:Addr->Prop) (H:Hp) (f:Nat->Option Int) (hs:List (Option (List Nat))) (n:Nat) (cw ks:List Nat) (t:Addr):Prop:=∃ (c l1 l2:Addr) (rs:List Addr) (W:List Wt) (F:List Nat),H t=some (.tup [.ref c,.ref l1,.ref l2])/\H c=some (.lst (ks.map λk=>V.int ((k:Nat):Int)))/\H l1=some (.lst (rs.map V.ref))/\WtsAt H rs W/\H l2=some (.lst ((F.map one).map V.str))/\LackOk (bW hs cw ks) (lF f hs (n::ks)) W F/\LackIs (bW hs cw ks) (lF f hs (n::ks)) W F/\¬ X c/\¬ X l1/\¬ X l2
theorem PaperH.frame {X Z:Addr->Prop} {H H':Hp} {f:Nat->Option Int} {hs:Q3} {n:Nat} {cw ks:List Nat} {t:Addr} (h:PaperH X H f hs n cw ks t) (fr:∀ p u,¬ Z p->H p=some u->H' p=some u) (hz:∀ p,¬ X p->¬ Z p) (ht:∀ p xs,H p=some (.tup xs)->¬ Z p):PaperH X H' f hs n cw ks t:=by
 obtain ⟨c,l1,l2,rs,W,F,h1,h2,h3,h4,h5,h6,h7,h8,h9,h10⟩:=h;exact ⟨c,l1,l2,rs,W,F,fr _ _ (ht _ _ h1) h1,fr _ _ (hz _ h8) h2,fr _ _ (hz _ h9) h3,⟨h4.1,λj p w hp hw=>fr _ _ (ht _ _ (h4.2 j p w hp hw)) (h4.2 j p w hp hw)⟩,fr _ _ (hz _ h10) h5,h6,h7,h8,h9,h10⟩
theorem PaperH.keep {X:Addr->Prop} {H H':Hp} {f:Nat->Option Int} {hs:Q3} {n:Nat} {cw ks:List Nat} {t:Addr} (h:PaperH X H f hs n cw ks t) (s:Same H H'):PaperH X H' f hs n cw ks t:=h.frame (Z:=λ_=>False) (λp u _ hu=>s _ _ hu) (λ_ _ z=>z) λ_ _ _ z=>z
theorem PaperH.put {X:Addr->Prop} {H:Hp} {f:Nat->Option Int} {hs:Q3} {n:Nat} {cw ks:List Nat} {t D:Addr} {xs ys:List V} (h:PaperH X H f hs n cw ks t) (hX:X D) (hD:H D=some (.lst xs)):PaperH X (upd H D (.lst ys)) f hs n cw ks t:=h.frame (Z:=λp=>p=D) (λp u hp hu=>(aK hp).trans hu) (λp hp z=>hp (by rw [z]; exact hX)) λp zs e z=>by rw [z,hD] at e; cases e
def qF (f:Nat->Option Int) (hs:List (Option (List Nat))) (n:Nat) (cw ks:List Nat) (j:Nat):Prop:=(bV (aQ hs n))[j]?=some ks/\aQ2 f hs n cw ks/\∀ (i:Nat) l,i<j->(bV (aQ hs n))[i]?=some l->¬ aQ2 f hs n cw l
theorem cQ7 {cs:List Nat} (hb:cK (cs.map one)=true):∀ d∈rdC cs,bQ d:=by
 have h:∀ i,i<=cs.length->∀ d∈rdC (cs.take i),bQ d:=λi=>by
   induction i with
   | zero=>intro _ d hd; rw [Ej] at hd; cases hd
   | succ i ih=>
     intro hi d hd;have hci:cs[i]?=some cs[i]:=Aa (by omega)
     have hrl:(rdC (cs.take i)).length=i:=jJ (by omega)
     rw [nA hci] at hd;obtain ⟨c,e1,e2,e3⟩:=lU hb (i:=i) (z:=one cs[i]) (by rw [Ag,hci]; rfl)
     have ec:cs[i]=c:=one_inj.mp e1
     rcases Bk.mp hd with e | e
     · exact ih (by omega) d e
     · rw [Aw.mp e,ec];unfold stp;rcases e3 with l | ⟨sb,lt⟩
       · rw [if_neg (iC l)]; exact l
       · rw [if_pos sb,Ac,Aa (by omega)]
         exact ih (by omega) _ (Bv _)
 have r:=h cs.length (Ah _)
 rwa [Bl] at r
theorem cQV {xs:List Addr} {u:Addr} (h:xs[xs.length - 1]?=some u):atI (xs.map V.ref) (-1)=some (.ref u):=by
 have hl:0<xs.length:=by have:=(Ae.mp h).1; omega
 unfold atI;rw [show ixN (xs.map V.ref).length (-1)=some (xs.length - 1) by
   rw [Ab];unfold ixN;rw [if_neg (by omega),if_pos (by omega)]
   exact Cw some (by omega)]
 show (xs.map V.ref)[xs.length - 1]?=_
 rw [Ag,h];rfl
theorem aJG (os:List Nat):∃ A,bV os=A++[os]:=by
 refine ⟨dZ os os.length,?_⟩;show dZ os (os.length+1)=_
 rw [lP];congr 1
 exact qW os
theorem iX {hs:Q3} {cw ks:List Nat} (ok:HalOk hs) (hc:cw.length<=7/\∀ d∈cw,bQ d) (hk:∀ k∈ks,k<hs.length/\(hs.getD k none).isSome=true):∀ c∈bW hs cw ks,c.length<=7/\∀ d∈c,bQ d:=λc hcm=>by
 rcases Bd.mp hcm with e | e
 · rw [e]; exact hc
 · obtain ⟨k,hkm,rfl⟩:=Be.mp e;obtain ⟨hkl,hks⟩:=hk k hkm;cases eh:hs.getD k none with
   | none=>rw [eh] at hks; cases hks
   | some cs=>
     have hb:=ok cs (by
       rw [Ac,Aa hkl] at eh;rw [<-show hs[k]=some cs from eh];exact Bv hkl)
     have h7c:=fU hb
     rw [Ab] at h7c;refine ⟨by show (rdC cs).length<=7; rw [uG]; exact h7c.2,?_⟩
     exact cQ7 hb
def jM (aC:Addr):Sp:=λvs H Q E=>∃ (a b:Addr) (kvs:List (Key×V)) (f:Nat->Option Int) (us:List V) (hs:List (Option (List Nat))) (n:Nat) (cw:List Nat),vs=[.ref a,.ref b,.int ((n:Nat):Int),.str (bC cw)]/\H a=some (.dK kvs)/\Lk kvs f/\(∀ c,0<=aM f c)/\rdL H b=some us/\HalsAt H us hs/\HalOk hs/\hs.length<=6/\n<hs.length/\cw.length<=7/\(∀ d∈cw,bQ d)/\
 (∀ (t L p:Addr) (ts:List Addr) (ks:List Nat) (j:Nat) (H':Hp),Same H H'->H t=none->H' t=some (.tup [.ref L,.ref p])->H L=none->H' L=some (.lst (ks.map λk=>V.int ((k:Nat):Int)))->qF f hs n cw ks j->H p=none->H' p=some (.lst (ts.map V.ref))->ts.length=j->(∀ (i:Nat) u l,ts[i]?=some u->(bV (aQ hs n))[i]?=some l->PaperH (λz=>H z≠none\/z=p) H' f hs n cw l u)->Q (.ref t) H')/\
 ((∀ l,l.Sublist (aQ hs n)->¬ aQ2 f hs n cw l)->∀ (dx l1 l2:Addr) (rs:List Addr) (W:List Wt) (F:List Nat) (H':Hp),Same H H'->H' dx=some (xdO dx [("flags",.ref l2),("wants",.ref l1)])->H' l1=some (.lst (rs.map V.ref))->WtsAt H' rs W->H' l2=some (.lst ((F.map one).map V.str))->LackOk (bW hs cw (aQ hs n)) (lF f hs (n::aQ hs n)) W F->H l1=none->H l2=none->E (.ref aC) (some dx) H')
theorem sc_least_set:FnScope ["locker", "halyards", "number", "word", "papers", "lowered", "more", "lack"] ["locker", "halyards", "number", "word"] (aG eU):=by walk_at "sc"
theorem vA {Zw Zz Zx Zy:Addr} {f:Addr} {fd:FuncData} (F:Fun K "least_set" "least_set" eU f fd) (G:Gs K mg Zw Zz Zx Zy) (c_sets_of:Cal P w K mg base 10 "sets_of" ["others"] pS) (c_Lack_init:zO P w K mg base 1 Zw ["self", "wants", "flags"] (gI Zw)) (c_others_hung:Cal P w K mg base 1 "others_hung" ["halyards", "number"] kA) (c_put_in:Cal P w K mg base 2 "put_in" ["locker", "flags"] oC) (c_lack_of:Cal P w K mg base 4 "lack_of" ["locker", "words"] qX) (c_flags_on:Cal P w K mg base 1 "flags_on" ["halyards", "numbers"] kE) (c_words_with:Cal P w K mg base 5 "words_with" ["halyards", "word", "lowered"] iF):FnOk P w K mg base (CXr P w) 11 f fd ["locker", "halyards", "number", "word"] (jM Zw):=by
 refine F.okX sc_least_set (λvs H Q E h=>?_) (λcdv A outer s H vs Q E hr h=>?_)
 · obtain ⟨a,b,kvs,f,us,hs,n,cw,rfl,_⟩:=h; rfl
 obtain ⟨a,b,kvs,f,us,hs,n,cw,rfl,ha,lk,hf0,hb,hat,ok,h6,hn,hc7,hcL,q,qe⟩:=h;refine ⟨_,(@aE _ _ _ _ _ (@aP _ _ 4 _ _ _ _ sc_least_set.nd (by rfl) (by exact (Or.inl rfl)) (bR aB) (by rfl) (by walk_at "o")) (@aE _ _ _ _ _ (PS.nox (bN Az rfl (bH (aZ c_sets_of hr (by decide) rfl (aA (aZ c_others_hung hr (by decide) rfl (aA (mv 1) (aA (mv 2) aB))) aB))) (aO (i:=5) sc_least_set.nd rfl (Or.inl rfl)) (@aE _ _ _ _ _ (@aP _ _ 6 _ _ _ _ sc_least_set.nd (by rfl) (by exact (Or.inl rfl)) (aZ c_put_in hr (by decide) rfl (aA (mv 0) (aA (aZ c_flags_on hr (by decide) rfl (aA (mv 1) (aA (aX cB (bR (aA (mv 2) aB)) (mv 5)) aB))) aB))) (by rfl) (by walk_at "o")) (@aE _ _ _ _ _ (@aP _ _ 7 _ _ _ _ sc_least_set.nd (by rfl) (by exact (Or.inl rfl)) (aZ c_lack_of hr (by decide) rfl (aA (mv 6) (aA (aZ c_words_with hr (by decide) rfl (aA (mv 1) (aA (mv 3) (aA (mv 5) aB)))) aB))) (by rfl) (by walk_at "o")) (@aE _ _ _ _ _ (cU (bB bXG (mv 7) gU (bI _)) (@aI _ _ _ (aW (kF (aA (mv 5) (aA (mv 4) aB))))) bO) (@aI _ _ _ (cG (cV Bj Cf Cg mX (mv 4) (aA (kF (aA (mv 5) (aA (bG cC (mv 7) aJ (λ_ _=>rfl)) (aA (bG cC (mv 7) aJ (λ_ _=>rfl)) aB)))) aB))))))))) (@aI _ _ _ (nU pG rfl rfl rfl G.c_Lack G.xm_Lack c_Lack_init hr (by decide) (aA (bG cC (bG cC (mv 4) (cJ9 cJM aJ) (λ_ _=>rfl)) aJ (λ_ _=>rfl)) (aA (bG cC (bG cC (mv 4) (cJ9 cJM aJ) (λ_ _=>rfl)) aJ (λ_ _=>rfl)) aB)))))),?_⟩
 have hol:=jI hn
 walk_at "go";refine ⟨by decide,λp hp=>?_⟩
 have s1:=aF hp (.lst [])
 have e1:(upd H p (.lst [])) p=some (.lst (([]:List Addr).map V.ref)):=aD
 generalize upd H p (.lst [])=H1 at s1 e1 ⊢;walk_at "go";refine ⟨b,us,hs,n,rfl,aH s1 hb,hat.keep s1,by omega,λro H2 hro s2 eo=>?_⟩
 walk_at "go";refine ⟨ro,aQ hs n,rfl,aL eo,by omega,λrS ps H3 hrS s3 eS ls nd=>?_⟩
 have s13:=s2.trans s3
 walk_at "go";have hps:ps.length=(bV (aQ hs n)).length:=by rw [ls.1,Ab]
 have hpl:(ps.map V.ref).length=(bV (aQ hs n)).length:=by rw [Ab,hps]
 have hsl:(bV (aQ hs n)).length<=6 * 6 ^ 5:=Bc (kT (i:=(aQ hs n).length+1) (by omega) (by omega)) (Nat.mul_le_mul_right _ (by omega))
 have e13:=s13 _ _ e1
 have s03:=s1.trans s13
 have lat:∀ (j:Nat) c l,ps[j]?=some c->(bV (aQ hs n))[j]?=some l->H3 c=some (.lst (l.map λk=>V.int ((k:Nat):Int)))/\c≠p/\H c=none:=λj c l hc hl=>by
   obtain ⟨h1,h2⟩:=ls.2 j c (l.map λk=>V.int ((k:Nat):Int)) hc (by rw [Ag,hl]; rfl)
   exact ⟨h2,(λz=>by rw [z,s2 _ _ e1] at h1; cases h1),bA (s1.trans s2) h1⟩
 have npS:rS≠p:=λz=>by rw [z,s2 _ _ e1] at hrS; cases hrS
 have hsub:∀ (j:Nat) l,(bV (aQ hs n))[j]?=some l->l.Sublist (aQ hs n):=λj l h=>mem_sets.mp (Ai h)
 refine cF (xs:=ps.map V.ref) (λi σ H'=>∃ (ts:List Addr) (v5 v6 v7:Option V),σ=[some (.ref a),some (.ref b),some (.int ((n:Nat):Int)),some (.str (bC cw)),some (.ref p),v5,v6,v7]/\Same H H'/\(∀ z u,z≠p->H3 z=some u->H' z=some u)/\H' p=some (.lst (ts.map V.ref))/\ts.length=i/\
     (∀ (j:Nat) u l,ts[j]?=some u->(bV (aQ hs n))[j]?=some l->PaperH (λz=>H z≠none\/z=p) H' f hs n cw l u)/\∀ (j:Nat) l,j<i->(bV (aQ hs n))[j]?=some l->¬ aQ2 f hs n cw l)
   ⟨[],_,_,_,rfl,s03,λz u _ h=>h,e13,rfl,λj u l hu=>(nomatch hu),λj l hj=>absurd hj (Fa _)⟩ (λi σ H' _ ⟨_,_,_,_,_,_,fr,_⟩=>aL (fr _ _ npS eS)) ?_ ?_
 · rintro i x σ H4 hx ⟨ts,v5,v6,v7,rfl,s4,fr4,e4,htl,hpap,hno⟩;have hi:i<(bV (aQ hs n)).length:=by rw [<-hpl]; exact (Ae.mp hx).1
   obtain ⟨l,hl⟩:∃ l,(bV (aQ hs n))[i]?=some l:=⟨_,Aa hi⟩;obtain ⟨c,hc,rfl⟩:=dE hx;obtain ⟨lc3,ncp,hcn⟩:=lat i c l hc hl;have lc:=fr4 _ _ ncp lc3
   have hlk:∀ k∈l,k<hs.length/\(hs.getD k none).isSome=true:=λk hk=>by
     have:=fX ((hsub i l hl).subset hk)
     exact ⟨this.1,this.2.1⟩
   have hll:l.length<=5:=by have:=(hsub i l hl).length_le; omega
   have hb4:=aH s4 hb
   have hat4:=hat.keep s4
   walk_at "go";refine ⟨by show 1<=sizeLine; decide,λp5 hp5=>?_⟩
   have s5:=aF hp5 (.lst [V.int ((n:Nat):Int)])
   have e5:(upd H4 p5 (.lst [V.int ((n:Nat):Int)])) p5=some (.lst [V.int ((n:Nat):Int)]):=aD
   generalize upd H4 p5 (.lst [V.int ((n:Nat):Int)])=H5 at s5 e5 ⊢;walk_at "go";refine jH (bF e5) (bF (s5 _ _ lc)) (bP (by rw [dU]; show 1+_<=_; omega)) λp6 hp6=>?_
   have s6:=aF hp6 (.lst ((n::l).map λk=>V.int ((k:Nat):Int)))
   have e6:rdL (upd H5 p6 (.lst ((n::l).map λk=>V.int ((k:Nat):Int)))) p6=some ((n::l).map λk=>V.int ((k:Nat):Int)):=cZ
   change xQ _ (upd H5 p6 (.lst ((n::l).map λk=>V.int ((k:Nat):Int)))) _
   generalize upd H5 p6 (.lst ((n::l).map λk=>V.int ((k:Nat):Int)))=H6 at s6 e6 ⊢;have s46:=s5.trans s6
   walk_at "go";refine ⟨b,p6,us,hs,n::l,rfl,aH s46 hb4,hat4.keep s46,ok,e6,by show l.length+1<=7; omega,λk hk=>by rcases Bd.mp hk with e | e; (· rw [e]; exact hn); (· exact (hlk k e).1),λr7 H7 hr7 s7 e7=>?_⟩
   have s47:=s46.trans s7
   have fl7:=gP ok (n::l)
   walk_at "go";refine ⟨a,r7,kvs,f,bJ hs (n::l),rfl,s47 _ _ (s4 _ _ ha),lk,hf0,aL e7,by rw [Bb] at fl7; omega,λr8 kws H8 hr8 s8 e8 lk8=>?_⟩
   have s48:=s47.trans s8
   walk_at "go";refine ⟨b,c,us,hs,cw,l,rfl,aH s48 hb4,hat4.keep s48,ok,aL (s48 _ _ lc),by omega,hlk,λr9 H9 hr9 s9 e9=>?_⟩
   have s49:=s48.trans s9
   walk_at "go";refine ⟨r8,r9,kws,mS f hs (n::l),bW hs cw l,rfl,.inl (s9 _ _ e8),lk8,aL e9,by unfold bW; rw [Bb,Ab]; omega,iX ok ⟨hc7,hcL⟩ hlk,λhcan H10 s10=>?_,λt0 l1 l2 rs W F H10 s10 ht0 e10 el1 hwt el2 hlo hli hn1 hn2=>?_⟩
   · have s410:=s49.trans s10
     walk_at "go";rw [show decide (V.non=V.non)=true from rfl];walk_at "go";refine ⟨by show 2<=sizeLine; decide,λt ht=>?_⟩
     have s11:=s410.trans (aF ht (.tup [.ref c,.ref p]))
     exact q t c p ts l i _ (s4.trans s11) (bA (s4.trans s410) ht) aD hcn (s11 _ _ lc) ⟨hl,hcan,hno⟩ hp (s11 _ _ e4) htl λj u l' hu hl'=>((hpap j u l' hu hl').keep s11)
   · have s410:=s49.trans s10
     have n1:l1≠p:=λz=>by rw [z,s49 _ _ e4] at hn1; cases hn1
     have n2:l2≠p:=λz=>by rw [z,s49 _ _ e4] at hn2; cases hn2
     have m10:=bF (s410 _ _ e4)
     have r10:=aL (s410 _ _ e4)
     have hln:(ts.map V.ref).length<sizeLine:=aV (by rw [Ab,htl]; omega)
     walk_at "go";rw [show decide (V.ref t0=V.non)=false from Am (λz=>nomatch z)]
     walk_at "go";refine gD e10 (v:=.ref l1) rfl ?_;walk_at "go";refine gD e10 (v:=.ref l2) rfl ?_;walk_at "go";refine ⟨by show 3<=sizeLine; decide,λtp htp=>?_⟩
     have s11:=aF htp (.tup [.ref c,.ref l1,.ref l2])
     have e11:(upd H10 tp (.tup [.ref c,.ref l1,.ref l2])) tp=some (.tup [.ref c,.ref l1,.ref l2]):=aD
     generalize upd H10 tp (.tup [.ref c,.ref l1,.ref l2])=H11 at s11 e11 ⊢;have s411:=s410.trans s11
     have ep:=s411 _ _ e4
     have m11:=bF ep
     walk_at "go";have pnew:PaperH (λz=>H z≠none\/z=p) H11 f hs n cw l tp:=⟨c,l1,l2,rs,W,F,e11,s411 _ _ lc,s11 _ _ el1,⟨hwt.1,λj q w hq hw=>s11 _ _ (hwt.2 j q w hq hw)⟩,s11 _ _ el2,hlo,hli,λz=>z.elim (λq=>q hcn) ncp,λz=>z.elim (λq=>q (bA (s4.trans s49) hn1)) n1,λz=>z.elim (λq=>q (bA (s4.trans s49) hn2)) n2⟩
     refine ⟨ts++[tp],_,_,_,rfl,aY hp (s4.trans s411),λz u hz h=>by rw [aK hz]; exact s411 _ _ (fr4 z u hz h),by rw [aD,Ak]; rfl,by rw [Aj,htl]; rfl,λj u l' hu hl'=>?_,λj l' hj hl'=>?_⟩
     · by_cases hjl:j<ts.length
       · rw [Ap hjl] at hu;exact ((hpap j u l' hu hl').keep s411).put (.inr rfl) ep
       · have ej:j=ts.length:=by
           have:=(Ae.mp hu).1
           rw [Aj] at this;have:j<ts.length+1:=this
           omega
         rw [ej,Av (Ah _),Fz] at hu;cases hu;rw [ej,htl,hl] at hl';cases hl';exact pnew.put (.inr rfl) ep
     · by_cases ej:j=i
       · rw [ej,hl] at hl';cases hl';exact zG hlo
       · exact hno j l' (by omega) hl'
 · rintro σ H4 ⟨ts,v5,v6,v7,rfl,s4,fr4,e4,htl,hpap,hno⟩;rw [hpl] at htl hno;obtain ⟨A0,hA0⟩:=aJG (aQ hs n);have hlen:(bV (aQ hs n)).length=A0.length+1:=by rw [hA0,Aj]; rfl
   have hlast:(bV (aQ hs n))[ts.length - 1]?=some (aQ hs n):=by
     rw [htl,hlen,hA0,Nat.add_sub_cancel,Av (Ah _),Fz];rfl
   have hu:ts[ts.length - 1]?=some (ts[ts.length - 1]'(by omega)):=Aa (by omega)
   have hpp:=hpap _ _ _ hu hlast
   have au:=cQV hu
   generalize ts[ts.length - 1]'(by omega)=u at hpp au
   obtain ⟨c,l1,l2,rs,W,F,h1,h2,h3,h4,h5,h6,_⟩:=hpp;have r4:=aL e4
   walk_at "go";refine cQ r4 au ?_;walk_at "go";refine gD h1 (v:=.ref l1) rfl ?_;walk_at "go";refine cQ r4 au ?_;walk_at "go";refine gD h1 (v:=.ref l2) rfl ?_;walk_at "go";refine ⟨by show 2<=sizeLine; decide,λea hea=>⟨ea,l1,l2,_,_,rfl,aD,aH (aF hea _) (aL h3),aH (aF hea _) (aL h5),λdx k1 k2 H' frx hdx nde g1 g2 g3 g4 hk1 hk2=>⟨rfl,some dx,g1,?_⟩⟩⟩
   have n1:k1≠ea:=λz=>by rw [z,g1] at g3; cases g3
   have n2:k2≠ea:=λz=>by rw [z,g1] at g4; cases g4
   have go9:∀ b u,H4 b=some u->(del H' ea) b=some u:=λb u hu=>by
     have nb:b≠ea:=λz=>by rw [z,hea] at hu; cases hu
     rw [dX nb];exact frx b u nb (by rw [aK nb]; exact hu)
   refine qe (λl hl=>?_) dx k1 k2 rs W F (del H' ea) (λb u hu=>go9 _ _ (s4 _ _ hu)) ((dX nde).trans g2) ((dX n1).trans g3) ⟨h4.1,λj q w hq hw=>go9 _ _ (h4.2 j q w hq hw)⟩ ((dX n2).trans g4) h6 (bA s4 (by rw [aK n1] at hk1; exact hk1)) (bA s4 (by rw [aK n2] at hk2; exact hk2))
   obtain ⟨j,hj,ej⟩:=Cc.mp (mem_sets.mpr hl);exact hno j l hj (by rw [Aa hj,ej])
theorem wZ:∀ {cws:Q5} {fs:List Nat} {i:Nat} {cw:List Nat},cws[i]?=some cw->(oW cws fs)[i]?=some ((fs.drop (gY cws i)).take cw.length)
 | [],_,i,_,h=>by cases h
 | c::r,fs,0,cw,h=>by cases h; rfl
 | c::r,fs,i+1,cw,h=>by
   show (oW r (fs.drop c.length))[i]?=_
   rw [wZ (show r[i]?=some cw from h),List.drop_drop];rfl
theorem cQ8 (cs:List Nat) (c:Nat):cnt cs c=(ctn cs c:Int):=by
 unfold cnt ctn;refine Cw (λn:Nat=>(n:Int)) (List.countP_congr λx _=>?_);simp
theorem qR {α:Type} {p:List α->Prop} (h0:p []) (h1:∀ l a,p l->p (l++[a])):∀ l,p l:=λl=>by
 have h:∀ r:List α,p r.reverse:=λr=>by
   induction r with
   | nil=>exact h0
   | cons a r ih=>rw [List.reverse_cons]; exact h1 _ _ ih
 have:=h l.reverse
 rwa [List.reverse_reverse] at this
def nQ (hs:List (Option (List Nat))) (zs:List (Nat×List Nat)):List (Option (List Nat)):=zs.foldl (λh z=>h.set z.1 (some z.2)) hs
theorem lA (hs:Q3) (zs:List (Nat×List Nat)) (z:Nat×List Nat):nQ hs (zs++[z])=(nQ hs zs).set z.1 (some z.2):=by
 unfold nQ;rw [Fq];rfl
theorem qV (hs:Q3):∀ zs:List (Nat×List Nat),(nQ hs zs).length=hs.length:=λzs=>by
 refine qR (p:=λzs=>(nQ hs zs).length=hs.length) rfl (λzs z ih=>?_) zs;rw [lA,Ez,ih]
theorem cQ0 (hs:Q3):∀ (zs:List (Nat×List Nat)),(zs.map (·.1)).Nodup->(∀ z∈zs,z.1<hs.length)->∀ z∈zs,(nQ hs zs).getD z.1 none=some z.2:=λzs=>by
 refine qR (p:=λzs=>(zs.map (·.1)).Nodup->(∀ z∈zs,z.1<hs.length)->∀ z∈zs,(nQ hs zs).getD z.1 none=some z.2) (λ_ _ z hz=>nomatch hz) (λzs y ih=>?_) zs
 · intro nd hl z hz;rw [Ak,Au,Fx] at nd;rw [lA];rcases Bk.mp hz with e | e
   · have ne:y.1≠z.1:=λq=>(Dw.mp nd).2.2 z.1 (List.mem_map_of_mem e) y.1 As q.symm
     rw [Ac,Eg ne,<-Ac];exact ih (Dw.mp nd).1 (λw hw=>hl w (Cr _ hw)) z e
   · rw [Aw.mp e,Ac,Du (by rw [qV]; exact hl y (Bq _ As))]
     rfl
theorem cZV {hs:Q3} (ok:HalOk hs):∀ zs:List (Nat×List Nat),(∀ z∈zs,cK (z.2.map one)=true)->HalOk (nQ hs zs):=λzs=>by
 refine qR (p:=λzs=>(∀ z∈zs,cK (z.2.map one)=true)->HalOk (nQ hs zs)) (λ_=>ok) (λzs z ih=>?_) zs;intro h cs hcs;rw [lA] at hcs;rcases List.mem_or_eq_of_mem_set hcs with e | e
 · exact ih (λy hy=>h y (Cr _ hy)) cs e
 · cases e;exact h z (Bq _ As)
theorem yX {hs:Q3}:∀ {L:List Nat} {gs:Q5},L.length=gs.length->(∀ z∈L.zip gs,hs.getD z.1 none=some z.2)->bJ hs L=gs.flatten
 | [],[],_,_=>rfl
 | k::L,g::gs,hl,h=>by
   show ((hs.getD k none).getD [])++bJ hs L=g++gs.flatten
   rw [show hs.getD k none=some g from h (k,g) List.mem_cons_self,yX (by simpa using hl) λz hz=>h z (List.mem_cons_of_mem _ hz)]
   rfl
 | [],_::_,hl,_=>by cases hl
 | _::_,[],hl,_=>by cases hl
theorem HalsAt.set {H:Hp} {vs:List V} {hs:Q3} {k:Nat} {v:V} {h:Option (List Nat)} (a:HalsAt H vs hs) (b:HalV H v h):HalsAt H (vs.set k v) (hs.set k h):=by
 refine ⟨by rw [Ez,Ez,a.len],λj u g hu hg=>?_⟩
 by_cases e:k=j
 · subst e;have h1:=(Ae.mp hu).1
   have h2:=(Ae.mp hg).1
   rw [Ez] at h1 h2;rw [Du h1] at hu;rw [Du h2] at hg;cases hu;cases hg;exact b
 · rw [Eg e] at hu hg;exact a.val j u g hu hg
theorem aXK {H H':Hp} {p D:Addr} {xs:List V} (h:rdL H p=some xs) (n:p≠D) (fr:∀ z u,z≠D->H z=some u->H' z=some u):rdL H' p=some xs:=by
 refine aH (H:=λz=>if z=p then H z else none) (λz u e=>?_) ?_
 · dsimp only at e;by_cases zp:z=p
   · rw [if_pos zp] at e; rw [zp] at e ⊢; exact fr p u n e
   · rw [if_neg zp] at e; cases e
 · unfold rdL at h ⊢;dsimp only;rw [if_pos rfl];exact h
theorem bJC {α β:Type} {L:List α} {M:List β} {i:Nat} {a:α} {b:β} (h1:L[i]?=some a) (h2:M[i]?=some b):(L.zip M).take (i+1)=(L.zip M).take i++[(a,b)]:=by
 rw [Ba];congr 1
 have:(L.zip M)[i]?=some (a,b):=by rw [List.getElem?_zip_eq_some]; exact ⟨h1,h2⟩
 rw [this];rfl
theorem eX0 {cw:List Nat} {k c:Nat} (hL:∀ d∈cw,bQ d) (hk:k<cw.length) (h:c∈chs cw k):nG c:=by
 rcases ch_iff.mp h with e | ⟨m,_,h4,_,e⟩
 · left
   rw [e,Ac,Aa hk];exact hL _ (Bv hk)
 · right
   rw [e];unfold dL;omega
theorem cJN:∀ {cws gs:Q5},Hgs cws gs->(∀ c∈cws,1<=c.length/\c.length<=7/\∀ d∈c,bQ d)->(∀ g∈gs,cK (g.map one)=true/\∀ c∈g,nG c)
 | _,_,.nil,_,g,hg=>nomatch hg
 | _,_,.cons (cw:=cw) (h:=h) a b,hW,g,hg=>by
   rcases Bd.mp hg with e | e
   · rw [e];obtain ⟨h1,h7,hL⟩:=hW cw As;refine ⟨xO hL (by rw [a.1]; exact h1) (by rw [a.1]; exact h7) (by rw [a.1]; exact Ah _) λk hk=>?_,λc hc=>?_⟩
     · exact a.2 k _ (by rw [Ac,Aa hk]; rfl)
     · obtain ⟨k,hk,ek⟩:=Cc.mp hc;exact eX0 hL (by rw [<-a.1]; exact hk) (a.2 k c (by rw [Aa hk,ek]))
   · exact cJN b (λc hc=>hW c (Ao _ hc)) g e
theorem Hgs.lens:∀ {cws gs:Q5},Hgs cws gs->gs.length=cws.length
 | _,_,.nil=>rfl
 | _,_,.cons _ b=>by rw [Bb,Bb,b.lens]
theorem oM (f:Nat->Option Int) (hs:Q3) (L:List Nat) (c:Nat):0<=aM (mS f hs L) c:=by
 show 0<=(bT _ c).getD 0
 unfold bT;split
 · rename_i h; exact Int.le_of_lt h.2
 · exact Gk _
theorem bQU (hs:Q3) (n:Nat):(aQ hs n).Nodup:=List.Nodup.sublist Ep List.nodup_range
theorem aJM {hs:Q3} {n:Nat} {ks:List Nat} (h:ks.Sublist (aQ hs n)):(n::ks).Nodup:=Cb.mpr ⟨λz=>(fX (h.subset z)).2.2 rfl,(bQU hs n).sublist h⟩
theorem aQE {hs:Q3} {cw ks:List Nat} (ok:HalOk hs) (h1:1<=cw.length) (hc:cw.length<=7/\∀ d∈cw,bQ d) (hk:∀ k∈ks,k<hs.length/\(hs.getD k none).isSome=true):∀ c∈bW hs cw ks,1<=c.length/\c.length<=7/\∀ d∈c,bQ d:=λc hcm=>by
 refine ⟨?_,iX ok hc hk c hcm⟩;rcases Bd.mp hcm with e | e
 · rw [e]; exact h1
 · obtain ⟨k,hkm,rfl⟩:=Be.mp e;obtain ⟨hkl,hks⟩:=hk k hkm;cases eh:hs.getD k none with
   | none=>rw [eh] at hks; cases hks
   | some cs=>
     have hb:=ok cs (by
       rw [Ac,Aa hkl] at eh;rw [<-show hs[k]=some cs from eh];exact Bv hkl)
     have h7c:=fU hb
     rw [Ab] at h7c;show 1<=(rdC cs).length
     rw [uG];exact h7c.1
def jW (H:Hp) (a b:Addr) (kvs:List (Key×V)) (f:Nat->Option Int) (us:List V) (hs:List (Option (List Nat))) (n:Nat) (cw:List Nat):Prop:=H a=some (.dK kvs)/\Lk kvs f/\(∀ c,0<=aM f c)/\rdL H b=some us/\HalsAt H us hs/\HalOk hs/\hs.length<=6/\n<hs.length/\1<=cw.length/\cw.length<=7/\(∀ d∈cw,bQ d)
def nT (aC:Addr):Sp:=λvs H Q E=>∃ (a b:Addr) (kvs:List (Key×V)) (f:Nat->Option Int) (us:List V) (hs:List (Option (List Nat))) (n:Nat) (cw:List Nat),vs=[.ref a,.ref b,.int ((n:Nat):Int),.str (bC cw)]/\jW H a b kvs f us hs n cw/\
 (∀ (t L B R:Addr) (ks:List Nat) (gs:Q5) (j:Nat) (vs':List V) (kws:List (Key×V)) (H':Hp),Same H H'->H t=none->H' t=some (.tup [.ref L,.ref B,.ref R])->H L=none->H' L=some (.lst (ks.map λk=>V.int ((k:Nat):Int)))->qF f hs n cw ks j->Hgs (bW hs cw ks) gs->(∀ c,cnt gs.flatten c<=aM (mS f hs (n::ks)) c)->H B=none->H' B=some (.lst vs')->HalsAt H' vs' (nQ hs ((n::ks).zip gs))->H R=none->H' R=some (.dK kws)->Lk kws (bT λc=>aM (mS f hs (n::ks)) c - cnt gs.flatten c)->Q (.ref t) H')/\
 ((∀ l,l.Sublist (aQ hs n)->¬ aQ2 f hs n cw l)->∀ (dx l1 l2:Addr) (rs:List Addr) (W:List Wt) (F:List Nat) (H':Hp),Same H H'->H' dx=some (xdO dx [("flags",.ref l2),("wants",.ref l1)])->H' l1=some (.lst (rs.map V.ref))->WtsAt H' rs W->H' l2=some (.lst ((F.map one).map V.str))->LackOk (bW hs cw (aQ hs n)) (lF f hs (n::aQ hs n)) W F->H l1=none->H l2=none->E (.ref aC) (some dx) H')
theorem sc_hauled:FnScope ["locker", "halyards", "number", "word", "lowered", "rehung", "more", "behind", "at", "hoist"] ["locker", "halyards", "number", "word"] (aG iN):=by walk_at "sc"
theorem aJV {Zw Zz Zx Zy:Addr} {f:Addr} {fd:FuncData} (F:Fun K "hauled" "hauled" iN f fd) (G:Gs K mg Zw Zz Zx Zy) (c_put_in:Cal P w K mg base 2 "put_in" ["locker", "flags"] oC) (c_least_set:oQ P w K mg base 11 "least_set" ["locker", "halyards", "number", "word"] (jM Zw)) (c_flags_on:Cal P w K mg base 1 "flags_on" ["halyards", "numbers"] kE) (c_hang_all:oQ P w K mg base 3 "hang_all" ["locker", "words"] (kL Zw)) (c_taken:oQ P w K mg base 3 "taken" ["locker", "flags"] (wK Zx)) (c_words_with:Cal P w K mg base 5 "words_with" ["halyards", "word", "lowered"] iF):FnOk P w K mg base (CXr P w) 12 f fd ["locker", "halyards", "number", "word"] (nT Zw):=by
 refine F.okX sc_hauled (λvs H Q E h=>?_) (λcdv A outer s H vs Q E hr h=>?_)
 · obtain ⟨a,b,kvs,f,us,hs,n,cw,rfl,_⟩:=h; rfl
 obtain ⟨a,b,kvs,f,us,hs,n,cw,rfl,⟨ha,lk,hf0,hb,hat,ok,h6,hn,hc1,hc7,hcL⟩,q,qe⟩:=h;refine ⟨_,(@aE _ _ _ _ _ (@aP _ _ 4 _ _ _ _ sc_hauled.nd (by rfl) (by exact (Or.inl rfl)) (bG cC (hZ c_least_set kU hr (by decide) rfl (aA (mv 0) (aA (mv 1) (aA (mv 2) (aA (mv 3) aB))))) aJ (λ_ _=>rfl)) (by rfl) (by walk_at "o")) (@aE _ _ _ _ _ (@aP _ _ 5 _ _ _ _ sc_hauled.nd (by rfl) (by exact (Or.inl rfl)) (aX cB (bR (aA (mv 2) aB)) (mv 4)) (by rfl) (by walk_at "o")) (@aE _ _ _ _ _ (@aP _ _ 6 _ _ _ _ sc_hauled.nd (by rfl) (by exact (Or.inl rfl)) (aZ c_put_in hr (by decide) rfl (aA (mv 0) (aA (aZ c_flags_on hr (by decide) rfl (aA (mv 1) (aA (mv 5) aB))) aB))) (by rfl) (by walk_at "o")) (@aE _ _ _ _ _ (mH (i:=7) sc_hauled.nd rfl (Or.inl rfl) rfl (bH (mv 1)) (wF (N:=["hoist"]) (by decide +kernel) (by decide +kernel)) (by decide +kernel) rfl (by decide +kernel) (λC s₀ H₀ ex=>(aO (i:=0) (show List.Nodup (["hoist"]:List Str) by decide +kernel) rfl (Or.inl rfl))) (λC s₀ H₀ ex=>fD) (λC s₀ H₀ ex=>(wI (bB bXG (mv 0) gU (bI _)) gU (bK iH rfl G.b_list dG (aA (mv 0) aB))))) (@aE _ _ _ _ _ (bN PassesOwn.leaving rfl (dQ4 rfl G.b_zip (aA (mv 5) (aA (hZ c_hang_all kU hr (by decide) rfl (aA (mv 6) (aA (aZ c_words_with hr (by decide) rfl (aA (mv 1) (aA (mv 3) (aA (mv 4) aB)))) aB))) aB))) (kX (K:=K) (i:=8) (j:=9) (by rfl) (by rfl) sc_hauled.nd (by rfl) (by exact (Or.inl rfl)) (by exact Or.inl rfl) (by rfl) (by exact (Or.inl rfl)) (by exact Or.inl rfl)) (@aI _ _ _ (aQC (mv 9) (dXP (mv 7) (mv 8) bJH)))) (@aI _ _ _ (aW (kF (aA (mv 4) (aA (mv 7) (aA (hZ c_taken kU hr (by decide) rfl (aA (mv 6) (aA (aZ c_flags_on hr (by decide) rfl (aA (mv 7) (aA (mv 5) aB))) aB))) aB))))))))))),?_⟩
 have hol:=jI hn
 walk_at "go";refine ⟨a,b,kvs,f,us,hs,n,cw,rfl,ha,lk,hf0,hb,hat,ok,h6,hn,hc7,hcL,λt0 L p0 ts ks j H1 s1 ht0 et hL eL hfst _ _ _ _=>?_,qe⟩;have hks:=mem_sets.mp (Ai hfst.1)
 have hlk:∀ k∈ks,k<hs.length/\(hs.getD k none).isSome=true:=λk hk=>by
   have:=fX (hks.subset hk)
   exact ⟨this.1,this.2.1⟩
 have hkl:ks.length<=5:=by have:=hks.length_le; omega
 have hb1:=aH s1 hb
 have hat1:=hat.keep s1
 refine gD et (v:=.ref L) rfl ?_;walk_at "go";refine ⟨by show 1<=sizeLine; decide,λp5 hp5=>?_⟩
 have s5:=aF hp5 (.lst [V.int ((n:Nat):Int)])
 have e5:(upd H1 p5 (.lst [V.int ((n:Nat):Int)])) p5=some (.lst [V.int ((n:Nat):Int)]):=aD
 generalize upd H1 p5 (.lst [V.int ((n:Nat):Int)])=H5 at s5 e5 ⊢;walk_at "go";refine jH (bF e5) (bF (s5 _ _ eL)) (bP (by rw [dU]; show 1+_<=_; omega)) λp6 hp6=>?_
 have s6:=aF hp6 (.lst ((n::ks).map λk=>V.int ((k:Nat):Int)))
 have e6:rdL (upd H5 p6 (.lst ((n::ks).map λk=>V.int ((k:Nat):Int)))) p6=some ((n::ks).map λk=>V.int ((k:Nat):Int)):=cZ
 change qS _ _ _ (upd H5 p6 (.lst ((n::ks).map λk=>V.int ((k:Nat):Int)))) _
 generalize upd H5 p6 (.lst ((n::ks).map λk=>V.int ((k:Nat):Int)))=H6 at s6 e6 ⊢;have s16:=s5.trans s6
 walk_at "go";refine ⟨b,p6,us,hs,n::ks,rfl,aH s16 hb1,hat1.keep s16,ok,e6,by show ks.length+1<=7; omega,λk hk=>by rcases Bd.mp hk with e | e; (· rw [e]; exact hn); (· exact (hlk k e).1),λr7 H7 hr7 s7 e7=>?_⟩
 have s17:=s16.trans s7
 have fl7:=gP ok (n::ks)
 walk_at "go";refine ⟨a,r7,kvs,f,bJ hs (n::ks),rfl,s17 _ _ (s1 _ _ ha),lk,hf0,aL e7,by rw [Bb] at fl7; omega,λr8 kws H8 hr8 s8 e8 lk8=>?_⟩
 have s18:=s17.trans s8
 have e68:=aH (s7.trans s8) e6
 have hb8:=aH s18 hb1
 have hat8:=hat1.keep s18
 have hul:=hat.len
 walk_at "go";refine aX7 (hs:=hs) hb8 (aV (by omega)) hul (λi x h Hc A B hx hh sm hA=>?_) (λD Hd vs hD sD hd hatD hfr=>?_)
 · have hv:=(hat8.keep sm).val i x h hx hh
   cases h with
   | none=>
     obtain rfl:x=V.non:=hv;walk_at "go";refine ⟨Wk.set rfl (Wk.refl _),?_⟩;walk_at "go";rw [show decide (V.non=V.non)=true from rfl];walk_at "go";exact hA .non _ (Same.refl _) rfl λp z=>nomatch z
   | some cs=>
     obtain ⟨pc,rfl,hpc⟩:=hv;have rc:=aL hpc
     walk_at "go";refine ⟨Wk.set rfl (Wk.refl _),?_⟩;walk_at "go";rw [show decide (V.ref pc=V.non)=false from Am (λz=>nomatch z)]
     walk_at "go";intro l2 hl2;exact hA (.ref l2) _ (aF hl2 _) ⟨l2,rfl,aD⟩ λp z=>by cases z; exact hl2
 · have s1D:=s18.trans sD
   have e6D:=aH sD e68
   have eLD:=s1D _ _ eL
   walk_at "go";refine ⟨b,L,us,hs,cw,ks,rfl,aH s1D hb1,hat1.keep s1D,ok,aL eLD,by omega,hlk,λr9 H9 hr9 s9 e9=>?_⟩
   walk_at "go";refine ⟨r8,r9,kws,mS f hs (n::ks),bW hs cw ks,rfl,.inl (s9 _ _ (sD _ _ e8)),lk8,aL e9,by unfold bW; rw [Bb,Ab]; omega,iX ok ⟨hc7,hcL⟩ hlk,λrh ps fs H10 hrh s10 er hne hls hfl hch hct _=>?_,λdx l1 l2 rs W F H10 s10 _ _ _ _ hlo _ _ _=>absurd hfst.2.1 (zG hlo)⟩
   have sD10:=s9.trans s10
   have hgs:=dQ1 hfl hch
   have hflat:=tZ (hfl.trans (cQI (bW hs cw ks)))
   have hgl:=hgs.lens
   have hpg:∀ (i:Nat) p g,ps[i]?=some p->(oW (bW hs cw ks) fs)[i]?=some g->H10 p=some (.lst ((g.map one).map V.str))/\p≠D:=λi p g hp hg=>by
     have hi:i<(bW hs cw ks).length:=by rw [<-hgl]; exact (Ae.mp hg).1
     have ec:(bW hs cw ks)[i]?=some (bW hs cw ks)[i]:=Aa hi
     rw [wZ ec] at hg;obtain ⟨h1,h2⟩:=hls.2 i p (lW (bW hs cw ks) fs i) hp (by rw [Ag,List.getElem?_range hi]; rfl)
     refine ⟨?_,λz=>by rw [z,s9 _ _ hd] at h1; cases h1⟩
     unfold lW at h2;rw [Ac,ec] at h2;cases hg;exact h2
   have hcnt:∀ c,cnt (oW (bW hs cw ks) fs).flatten c<=aM (mS f hs (n::ks)) c:=λc=>by
     rw [hflat,cQ8];exact Int.le_trans (hct c) (cQB (oM f hs (n::ks)) c)
   have hwone:=aQE ok hc1 ⟨hc7,hcL⟩ hlk
   have hgf:=cJN hgs hwone
   have hpsl:ps.length=(oW (bW hs cw ks) fs).length:=by rw [hls.1,Ab,Bz,hgl]
   have hgl2:(oW (bW hs cw ks) fs).length=(n::ks).length:=by rw [hgl]; show ((ks.map _).length+1)=ks.length+1; rw [Ab]
   generalize oW (bW hs cw ks) fs=gs at hgs hflat hgl hpg hcnt hgf hpsl hgl2;have e610:=aH sD10 e6D
   have er10:=aL er
   have eD10:=sD10 _ _ hd
   have hat10:=hatD.keep sD10
   have nd6:p6≠D:=λz=>by rw [z] at e68; unfold rdL at e68; rw [hD] at e68; cases e68
   have ndh:rh≠D:=λz=>by rw [z,s9 _ _ hd] at hrh; cases hrh
   have s810:=sD.trans sD10
   walk_at "go";refine dXQ (xs:=((n::ks).map λk=>V.int ((k:Nat):Int))) (ys:=ps.map V.ref) (λi σ H'=>∃ (v8 v9:Option V) (ws:List V),σ=[some (.ref a),some (.ref b),some (.int ((n:Nat):Int)),some (.str (bC cw)),some (.ref L),some (.ref p6),some (.ref r8),some (.ref D),v8,v9]/\Same H8 H'/\(∀ z u,z≠D->H10 z=some u->H' z=some u)/\H' D=some (.lst ws)/\HalsAt H' ws (nQ hs (((n::ks).zip gs).take i)))
     ⟨_,_,vs,rfl,s810,λz u _ h=>h,eD10,hat10⟩ (λi σ H' _ _ ⟨_,_,_,_,_,fr,_⟩=>⟨aXK e610 nd6 fr,aXK er10 ndh fr⟩) ?_ ?_
   · rintro i x y σ H11 pt hx hy ⟨v8,v9,ws,rfl,s11,fr11,e11,hat11⟩ hpt;obtain ⟨k,hk,rfl⟩:=jO hx;obtain ⟨pg,hpgi,rfl⟩:=dE hy;have hig:i<gs.length:=by rw [<-hpsl]; exact (Ae.mp hpgi).1
     have eg:gs[i]?=some gs[i]:=Aa hig
     obtain ⟨hp10,npD⟩:=hpg i pg _ hpgi eg;have hp11:=fr11 _ _ npD hp10
     have hkl2:k<hs.length:=by rcases Bd.mp (Ai hk) with e | e; (· rw [e]; exact hn); (· exact (hlk k e).1)
     have hwl:ws.length=hs.length:=by rw [hat11.len,qV]
     have tk:=bJC hk eg
     generalize gs[i]=g at eg hp10 hp11 tk;have s12:=aF hpt (.tup [.int ((k:Nat):Int),.ref pg])
     have t12:pM (upd H11 pt (.tup [.int ((k:Nat):Int),.ref pg])) pt=some [.int ((k:Nat):Int),.ref pg]:=nZ
     have e12:=s12 _ _ e11
     have hat12:=hat11.keep s12
     have hp12:=s12 _ _ hp11
     generalize upd H11 pt (.tup [.int ((k:Nat):Int),.ref pg])=H12 at s12 t12 e12 hat12 hp12 ⊢;walk_at "go";refine eQY (o:=.non) (bF e12) (dXT (by omega) (by rw [hwl]; omega)) ?_
     rw [show ((k:Nat):Int).toNat=k from rfl];refine ⟨_,_,ws.set k (.ref pg),rfl,aY hD (s11.trans s12),λz u hz h=>by rw [aK hz]; exact s12 _ _ (fr11 z u hz h),aD,?_⟩
     rw [tk,lA];exact (hat12.put e12).set ⟨pg,rfl,by rw [aK npD]; exact hp12⟩
   · rintro σ H11 ⟨v8,v9,ws,rfl,s11,fr11,e11,hat11⟩;have hzl:((n::ks).zip gs).length=(n::ks).length:=by rw [List.length_zip,hgl2,Nat.min_self]
     rw [dU,Ab,hpsl,hgl2,Nat.min_self,<-hzl,Bl] at hat11;have hzk:∀ z∈(n::ks).zip gs,z.1∈n::ks/\z.2∈gs:=λz hz=>List.of_mem_zip hz
     have ok':HalOk (nQ hs ((n::ks).zip gs)):=cZV ok _ λz hz=>(hgf z.2 (hzk z hz).2).1
     have hkk:∀ k∈n::ks,k<hs.length:=λk hk=>by rcases Bd.mp hk with e | e; (· rw [e]; exact hn); (· exact (hlk k e).1)
     have ndz:(((n::ks).zip gs).map (·.1)).Nodup:=by
       rw [show ((n::ks).zip gs).map (·.1)=n::ks from List.map_fst_zip (by rw [hgl2]; exact Ah _)]
       exact aJM hks
     have hfo:bJ (nQ hs ((n::ks).zip gs)) (n::ks)=gs.flatten:=yX hgl2.symm (cQ0 hs _ ndz λz hz=>hkk z.1 (hzk z hz).1)
     have e6b:=aXK e610 nd6 fr11
     have e8b:H11 r8=some (.dK kws):=s11 _ _ e8
     walk_at "go";refine ⟨D,p6,ws,_,n::ks,rfl,aL e11,hat11,ok',e6b,by show ks.length+1<=7; omega,λk hk=>by rw [qV]; exact hkk k hk,λr12 H12 hr12 s12 e12=>?_⟩
     rw [hfo] at e12;have hfle:gs.flatten.length<=42:=by
       have:=gP ok' (n::ks)
       rw [hfo,Bb] at this;omega
     walk_at "go";refine ⟨r8,r12,kws,mS f hs (n::ks),gs.flatten,rfl,s12 _ _ e8b,lk8,oM f hs (n::ks),aL e12,by omega,λc hc=>by obtain ⟨g,hg,hcg⟩:=List.mem_flatten.mp hc; exact (hgf g hg).2 c hcg,λ_ rR kwR H13 hrR s13 eR lkR=>?_,λi c hi _ hle=>?_⟩
     · walk_at "go";refine ⟨by show 3<=sizeLine; decide,λt ht=>?_⟩
       have k14:=aF ht (.tup [.ref L,.ref D,.ref rR])
       have s114:=s12.trans (s13.trans k14)
       have sH11:Same H H11:=s1.trans (s18.trans s11)
       refine q t L D rR ks gs j ws kwR _ (sH11.trans s114) (bA (sH11.trans (s12.trans s13)) ht) aD hL (s114 _ _ (s11 _ _ (s18 _ _ eL))) hfst hgs hcnt (bA (s1.trans s18) hD) (s114 _ _ e11) (hat11.keep s114) (bA (sH11.trans s12) hrR) (k14 _ _ eR) lkR
     · have h1:=dZ9 hi
       have h2:=hcnt c
       omega
def iB (aC:Addr):Sp:=λvs H Q E=>∃ (a b:Addr) (kvs:List (Key×V)) (f:Nat->Option Int) (us:List V) (hs:List (Option (List Nat))) (n:Nat) (cw:List Nat),vs=[.ref a,.ref b,.int ((n:Nat):Int),.str (bC cw)]/\jW H a b kvs f us hs n cw/\
 (∀ (p:Addr) (ts:List Addr) (ks:List Nat) (j:Nat) (H':Hp),Same H H'->qF f hs n cw ks j->H p=none->H' p=some (.lst (ts.map V.ref))->ts.length=j->(∀ (i:Nat) u l,ts[i]?=some u->(bV (aQ hs n))[i]?=some l->PaperH (λz=>H z≠none\/z=p) H' f hs n cw l u)->Q (.ref p) H')/\
 ((∀ l,l.Sublist (aQ hs n)->¬ aQ2 f hs n cw l)->∀ (dx l1 l2:Addr) (rs:List Addr) (W:List Wt) (F:List Nat) (H':Hp),Same H H'->H' dx=some (xdO dx [("flags",.ref l2),("wants",.ref l1)])->H' l1=some (.lst (rs.map V.ref))->WtsAt H' rs W->H' l2=some (.lst ((F.map one).map V.str))->LackOk (bW hs cw (aQ hs n)) (lF f hs (n::aQ hs n)) W F->H l1=none->H l2=none->E (.ref aC) (some dx) H')
theorem mK:FnScope ["locker", "halyards", "number", "word"] ["locker", "halyards", "number", "word"] (aG cN):=by walk_at "sc"
theorem mU {Zw Zz Zx Zy:Addr} {f:Addr} {fd:FuncData} (F:Fun K "hauling_papers" "hauling_papers" cN f fd) (G:Gs K mg Zw Zz Zx Zy) (c_least_set:oQ P w K mg base 11 "least_set" ["locker", "halyards", "number", "word"] (jM Zw)):FnOk P w K mg base (CXr P w) 12 f fd ["locker", "halyards", "number", "word"] (iB Zw):=by
 refine F.okX mK (λvs H Q E h=>?_) (λcdv A outer s H vs Q E hr h=>?_)
 · obtain ⟨a,b,kvs,f,us,hs,n,cw,rfl,_⟩:=h; rfl
 obtain ⟨a,b,kvs,f,us,hs,n,cw,rfl,⟨ha,lk,hf0,hb,hat,ok,h6,hn,hc1,hc7,hcL⟩,q,qe⟩:=h;refine ⟨_,(@aI _ _ _ (aW (bG cC (hZ c_least_set kU hr (by decide) rfl (aA (mv 0) (aA (mv 1) (aA (mv 2) (aA (mv 3) aB))))) aJ (λ_ _=>rfl)))),?_⟩
 walk_at "go";refine ⟨a,b,kvs,f,us,hs,n,cw,rfl,ha,lk,hf0,hb,hat,ok,h6,hn,hc7,hcL,λt0 L p0 ts ks j H1 s1 ht0 et hL eL hfst hp0 ep htl hpap=>?_,qe⟩;refine gD et (v:=.ref p0) rfl ?_;exact q p0 ts ks j H1 s1 hfst hp0 ep htl hpap
def iD:Sp:=λvs H Q _=>∃ c m:Int,vs=[.int c,.int m]/\0<=m/\m<=1000/\
 ∀ (r:Addr) (ns:List Int) (H':Hp),H r=none->Same H H'->ns.length=m.toNat->(∀ n∈ns,0<=n)->H' r=some (.lst (ns.map V.int))->Q (.ref r) H'
def tP (K:PySem.W.Frag):Sp:=λvs H Q _=>∃ (a:Addr) (ns:List Int) (k:Int),vs=[.ref a,.int k]/\SqL K H a (ns.map V.int)/\0<=k/\∀ n:Int,Q (.int n) H
theorem bQG:FnScope ["_law_script", "_law_k"] ["_law_script", "_law_k"] (aG jA):=by walk_at "sc"
theorem aJ5 {Zw Zz Zx Zy:Addr} {f:Addr} {fd:FuncData} (F:Fun K "_law_cell" "_law_cell" jA f fd) (G:Gs K mg Zw Zz Zx Zy)  : FnOk P w K mg base CX0 1 f fd ["_law_script", "_law_k"] (tP K):=by
 refine F.ok bQG (λvs H Q E h=>?_) (λcdv A outer s H vs Q E hr h=>?_)
 · obtain ⟨a,ns,k,rfl,_⟩:=h; rfl
 obtain ⟨a,ns,k,rfl,hS,h0,q⟩:=h;refine ⟨_,(@aE _ _ _ _ _ (cU (bB bQB (mv 1) (aU mJ rfl G.b_len cI (aA (mv 0) aB)) (bI _)) (@aI _ _ _ (aW (bG ix_list (mv 0) (mv 1) (λ_ _=>rfl)))) bO) (@aI _ _ _ (aW aJ))),?_⟩;walk_at "go";refine ⟨_,_,rfl,.inl hS,?_⟩;have hnl:(ns.map V.int).length=ns.length:=Ab ..
 rw [hnl];walk_at "go";refine iI (λhd=>?_) (λhd=>?_)
 · have hd':=Bg hd
   obtain ⟨n,_,an⟩:=fG (ns:=ns) (i:=k) h0 hd';walk_at "go";exact eX3 hS an (q n)
 · walk_at "go";exact q 0
theorem sc_l_stream:FnScope ["_law_cell_here", "_law_many", "_law_number", "_law_found", "_law_k"] ["_law_cell_here", "_law_many"] (aG fS):=by walk_at "sc"
theorem wM {Zw Zz Zx Zy:Addr} {f:Addr} {fd:FuncData} (F:Fun K "_law_stream" "_law_stream" fS f fd) (G:Gs K mg Zw Zz Zx Zy)  : FnOk P w K mg base CX0 1 f fd ["_law_cell_here", "_law_many"] iD:=by
 refine F.ok sc_l_stream (λvs H Q E h=>?_) (λcdv A outer s H vs Q E hr h=>?_)
 · obtain ⟨c,m,rfl,_⟩:=h; rfl
 obtain ⟨c,m,rfl,h0,h1,q⟩:=h;refine ⟨_,(@aE _ _ _ _ _ (@aP _ _ 2 _ _ _ _ sc_l_stream.nd (by rfl) (by exact (Or.inl rfl)) (aX cB (aX gB (mv 0) aJ) aJ) (by rfl) (by walk_at "o")) (@aE _ _ _ _ _ (@aP _ _ 3 _ _ _ _ sc_l_stream.nd (by rfl) (by exact (Or.inl rfl)) (bR aB) (by rfl) (by walk_at "o")) (@aE _ _ _ _ _ (bN Az rfl (dW rfl G.b_range (aA (mv 1) aB)) (aO (i:=4) sc_l_stream.nd rfl (Or.inl rfl)) (@aE _ _ _ _ _ (@aP _ _ 2 _ _ _ _ sc_l_stream.nd (by rfl) (by exact (Or.inl rfl)) (aX gB (aX cB (aX cB (aX cB (aX bJ1 (mv 2) (mv 2)) (aX bJ1 aJ (mv 2))) (aX bJ1 aJ (mv 4))) aJ) aJ) (by rfl) (by walk_at "o")) (@aI _ _ _ (cG (cV Bj Cf Cg mX (mv 3) (aA (aX kD (mv 2) aJ) aB)))))) (@aI _ _ _ (aW (mv 3)))))),?_⟩
 walk_at "go";refine ⟨by decide,λp hp=>?_⟩
 walk_at "go";refine ⟨⟨by omega,by omega⟩,?_⟩
 refine gC (λi σ H'=>∃ (x:Int) (ns:List Int) (v:Option V),σ=[some (.int c),some (.int m),some (.int x),some (.ref p),v]/\0<=x/\x<2147531918/\ns.length=i/\(∀ n∈ns,0<=n)/\H'=upd H p (.lst (ns.map V.int)))
   ⟨_,[],none,rfl,by omega,by omega,rfl,(λn hn=>nomatch hn),rfl⟩ ?_ ?_
 · rintro i σ H' hi ⟨x,ns,v,rfl,hx0,hx1,hn,hns,rfl⟩;walk_at "go";refine ⟨_,ns++[(x * x+48271 * x+7 * (0+(i:Int))+1) % 2147483647 / 64],_,rfl,Dd _ (by decide),?_,?_,?_,?_⟩
   · have:=Cz (x * x+48271 * x+7 * (0+(i:Int))+1) (show (0:Int)<2147483647 by decide)
     omega
   · rw [Aj,hn]; rfl
   · intro n hn;rcases Bk.mp hn with z | z
     · exact hns n z
     · rw [Aw.mp z];have:=Dd (x * x+48271 * x+7 * (0+(i:Int))+1) (show (2147483647:Int)≠0 by decide)
       omega
   · rw [aZ6,Ak]; rfl
 · rintro σ H' ⟨x,ns,v,rfl,hx0,hx1,hn,hns,rfl⟩;walk_at "go";exact q p ns _ hp (aF hp _) hn hns aD
theorem cZS {c:Nat} (h:bQ c):Builtin.Str.occurrences lettersT (one c) 0 lettersT.length 1=[c - 97]:=by
 have q:∀ k:_root_.Fin 23,Builtin.Str.occurrences lettersT (one (97+k.val)) 0 lettersT.length 1=[k.val]:=by decide +kernel
 unfold bQ at h;have e:=q ⟨c - 97,by omega⟩
 rwa [show 97+(c - 97)=c by omega] at e
def nR:Sp:=λvs H Q _=>∃ n m l:Int,vs=[.int n,.int m,.int l]/\1<=l/\l<=7/\∀ (cw:List Nat) (H':Hp),Same H H'->1<=cw.length->(cw.length:Int)<=l->(∀ d∈cw,bQ d)->Q (.str (bC cw)) H'
theorem sc_l_word:FnScope ["_law_cell_here", "_law_spread", "_law_longest", "_law_some", "_law_word_here", "_law_k"] ["_law_cell_here", "_law_spread", "_law_longest"] (aG iR):=by walk_at "sc"
theorem aZ7 {Zw Zz Zx Zy:Addr} {f:Addr} {fd:FuncData} (F:Fun K "_law_word" "_law_word" iR f fd) (G:Gs K mg Zw Zz Zx Zy) (c_l_stream:Cal P w K mg base 1 "_law_stream" ["_law_cell_here", "_law_many"] iD):FnOk P w K mg base CX0 2 f fd ["_law_cell_here", "_law_spread", "_law_longest"] nR:=by
 refine F.ok sc_l_word (λvs H Q E h=>?_) (λcdv A outer s H vs Q E hr h=>?_)
 · obtain ⟨n,m,l,rfl,_⟩:=h; rfl
 obtain ⟨n,m,l,rfl,hl1,hl7,q⟩:=h;refine ⟨_,(@aE _ _ _ _ _ (@aP _ _ 3 _ _ _ _ sc_l_word.nd (by rfl) (by exact (Or.inl rfl)) (aZ c_l_stream hr (by decide) rfl (aA (mv 0) (aA aJ aB))) (by rfl) (by walk_at "o")) (@aE _ _ _ _ _ (@aP _ _ 4 _ _ _ _ sc_l_word.nd (by rfl) (by exact (Or.inl rfl)) gG (by rfl) (by walk_at "o")) (@aE _ _ _ _ _ (bN Az rfl (dW rfl G.b_range (aA (aX cB aJ (aX gB (bG cC (mv 3) aJ (λ_ _=>rfl)) (mv 2))) aB)) (aO (i:=5) sc_l_word.nd rfl (Or.inl rfl)) (@aI _ _ _ (@aP _ _ 4 _ _ _ _ sc_l_word.nd (by rfl) (by exact (Or.inl rfl)) (aX cB (mv 4) (bG cC gG (aX gB (aX cB (aX kD (mv 1) aJ) (aX gB (bG cC (mv 3) (mv 5) (λ_ _=>rfl)) (@bG _ _ _ _ _ _ _ cC (@bR _ _ _ _ (aA aJ (aA aJ (aA aJ (aA aJ aB))))) (aX gB (mv 1) aJ) (λ_ _=>rfl)))) aJ) (λ_ _=>rfl))) (by rfl) (by walk_at "o")))) (@aI _ _ _ (aW (mv 4)))))),?_⟩
 walk_at "go";refine ⟨n,9,rfl,by omega,by omega,λr ns H1 hr1 s1 hl hp he=>?_⟩
 have hl9:ns.length=9:=hl
 have hlr:rdL H1 r=some (ns.map V.int):=aL he
 obtain ⟨n8,i8,a8⟩:=fG (ns:=ns) (i:=8) (by omega) (by omega)
 have p8:=hp _ i8
 have z0:=Dd n8 (show l≠0 by omega)
 have z1:=Cz n8 (show 0<l by omega)
 walk_at "go";refine cQ hlr a8 ?_;walk_at "go";generalize n8 % l=u at z0 z1 ⊢;refine ⟨⟨by omega,by omega⟩,?_⟩
 refine gC (λi σ H'=>∃ (cs:List Nat) (v:Option V),σ=[some (.int n),some (.int m),some (.int l),some (.ref r),some (.str (bC cs)),v]/\cs.length=i/\(∀ d∈cs,bQ d)/\Same H1 H')
   ⟨[],none,rfl,rfl,(λd hd=>nomatch hd),Same.refl _⟩ ?_ ?_
 · rintro i σ H2 hi ⟨cs,v,rfl,hcl,hL,s2⟩;have hi7:i<7:=by omega
   have hwl:(bC cs).length=cs.length:=fH cs
   have hl2:=aH s2 hlr
   obtain ⟨nk,ik,ak⟩:=fG (ns:=ns) (i:=0+(i:Int)) (by omega) (by omega)
   walk_at "go";refine cQ hl2 ak ?_;walk_at "go";refine ⟨by decide,λp hp4=>?_⟩
   have hl3:=aH (aF hp4 (.lst (([2,3,4,23]:List Int).map V.int))) hl2
   walk_at "go";obtain ⟨kn,hkn,akn⟩:=fG (ns:=[2,3,4,23]) (i:=m % 4) (by omega) (by show m % 4<4; omega)
   have hk:1<=kn:=(by decide:∀ x∈([2,3,4,23]:List Int),1<=x) kn hkn
   refine cQ (xs:=([2,3,4,23]:List Int).map V.int) cZ akn ?_;walk_at "go";generalize m / 8+nk % kn=y;have y0:=Dd y (show (23:Int)≠0 by decide)
   have y1:=Cz y (show (0:Int)<23 by decide)
   have e1:=aZI (k:=(y % 23).toNat) (by omega)
   rw [show (((y % 23).toNat:Nat):Int)=y % 23 by omega] at e1
   refine jV (by decide) e1 ?_
   have h1l:(⟨#[97+(y % 23).toNat]⟩:Str).length=1:=rfl
   walk_at "go";refine ⟨cs++[97+(y % 23).toNat],some (.int (0+(i:Int))),?_,by rw [Aj,hcl]; rfl,λd hd=>?_,s2.trans (aF hp4 _)⟩
   · rw [<-jB];rfl
   · rcases Bk.mp hd with z | z
     · exact hL d z
     · rw [Aw.mp z];exact ⟨by omega,by omega⟩
 · rintro σ H2 ⟨cs,v,rfl,hcl,hL,s2⟩;walk_at "go";exact q _ _ (s1.trans s2) (by omega) (by omega) hL
theorem jC {f:Nat->Option Int} {c:Nat} {n:Int} (hf:∀ c,0<=aM f c) (hn:0<=n):∀ d,0<=aM (λd=>if d=c then some n else f d) d:=λd=>by
 show 0<=((if d=c then some n else f d):Option Int).getD 0
 by_cases e:d=c
 · rw [if_pos e]; exact hn
 · rw [if_neg e]; exact hf d
theorem vU {f:Nat->Option Int} {c:Nat} {n m:Int} (hf:∀ c,aM f c<=m) (hn:n<=m):∀ d,aM (λd=>if d=c then some n else f d) d<=m:=λd=>by
 show ((if d=c then some n else f d):Option Int).getD 0<=m
 by_cases e:d=c
 · rw [if_pos e]; exact hn
 · rw [if_neg e]; exact hf d
theorem cZU {f:Nat->Option Int} {c:Nat} {n:Int} (hf:∀ c,f c≠none->bQ c) (hc:bQ c):∀ d,(if d=c then some n else f d)≠none->bQ d:=λd z=>by
 by_cases e:d=c
 · rw [e]; exact hc
 · rw [if_neg e] at z; exact hf d z
theorem nX {kvs:List (Key×V)} {k:Key} {v:V} (h:bZ kvs k≠none):(dY kvs k v).length=kvs.length:=by
 unfold dY;split
 · rw [Ab]
 · rename_i hn
   refine absurd ?_ h;unfold bZ;rw [List.find?_eq_none.mpr λx hx=>by
     rw [Bp];intro e;exact hn (Ha.mpr ⟨x,hx,An e⟩)]
   rfl
def oH:Sp:=λvs H Q _=>∃ (c:Int) (b:Addr) (cws:List (List Nat)),vs=[.int c,.ref b]/\rdL H b=some ((cws.map bC).map V.str)/\cws.length<=8/\(∀ c∈cws,c.length<=7/\∀ d∈c,bQ d)/\
 ∀ (r:Addr) (kvs:List (Key×V)) (f:Nat->Option Int) (H':Hp),H r=none->Same H H'->H' r=some (.dK kvs)->Lk kvs f->(∀ c,0<=aM f c/\aM f c<=1000)->kvs.length<=100->Q (.ref r) H'
theorem sc_l_locker:FnScope ["_law_cell_here", "_law_words_here", "_law_some", "_law_locker_here", "_law_word_here", "_law_letter", "_law_rank", "_law_k"] ["_law_cell_here", "_law_words_here"] (aG fQ):=by walk_at "sc"
theorem xX {Zw Zz Zx Zy:Addr} {f:Addr} {fd:FuncData} (F:Fun K "_law_locker" "_law_locker" fQ f fd) (G:Gs K mg Zw Zz Zx Zy) (c_l_stream:Cal P w K mg base 1 "_law_stream" ["_law_cell_here", "_law_many"] iD):FnOk P w K mg base CX0 2 f fd ["_law_cell_here", "_law_words_here"] oH:=by
 refine F.ok sc_l_locker (λvs H Q E h=>?_) (λcdv A outer s H vs Q E hr h=>?_)
 · obtain ⟨c,b,cws,rfl,_⟩:=h; rfl
 obtain ⟨c,b,cws,rfl,hb,h8,hL,q⟩:=h;refine ⟨_,(@aE _ _ _ _ _ (@aP _ _ 2 _ _ _ _ sc_l_locker.nd (by rfl) (by exact (Or.inl rfl)) (aZ c_l_stream hr (by decide) rfl (aA (mv 0) (aA aJ aB))) (by rfl) (by walk_at "o")) (@aE _ _ _ _ _ (@aP _ _ 3 _ _ _ _ sc_l_locker.nd (by rfl) (by exact (Or.inl rfl)) pI (by rfl) (by walk_at "o")) (@aE _ _ _ _ _ (bN Az rfl (bH (mv 1)) (aO (i:=4) sc_l_locker.nd rfl (Or.inl rfl)) (@aI _ _ _ (bN Az rfl (rD (mv 4)) (aO (i:=5) sc_l_locker.nd rfl (Or.inl rfl)) (@aI _ _ _ (dR (Room.u1 hr) (mv 3) (mv 5) (aX cB (fJ Bt Co (qT (Room.u1 hr)) (mv 3) (aA (mv 5) (aA aJ aB))) aJ) rfl))))) (@aE _ _ _ _ _ (bN Az rfl (bH (bK (cXI rfl) rfl G.b_list dG (aA (mv 3) aB))) (aO (i:=5) sc_l_locker.nd rfl (Or.inl rfl)) (@aE _ _ _ _ _ (@aP _ _ 6 _ _ _ _ sc_l_locker.nd (by rfl) (by exact (Or.inl rfl)) (cV PySem.F.plainAttrs_str PySem.F.slot_str_index PySem.F.type_str_index aZS gG (aA (mv 5) aB)) (by rfl) (by walk_at "o")) (@aI _ _ _ (dR (Room.u1 hr) (mv 3) (mv 5) (aU (cJ0 rfl) rfl G.b_max bZD (aA aJ (aA (aX jZ (hV (Room.u1 hr) (mv 3) (mv 5) (λ_ _=>rfl)) (aX gB (bG cC (mv 2) (mv 6) (λ_ _=>rfl)) (@bG _ _ _ _ _ _ _ cC (@bR _ _ _ _ (aA aJ (aA aJ (aA aJ (aA aJ aB))))) (aX gB (mv 0) aJ) (λ_ _=>rfl)))) aB))) rfl)))) (@aE _ _ _ _ _ (bN Az rfl (dW rfl G.b_range (aA aJ aB)) (aO (i:=7) sc_l_locker.nd rfl (Or.inl rfl)) (@aI _ _ _ (dR (Room.u1 hr) (mv 3) (bG cC gG (mv 7) (λ_ _=>rfl)) (aX gB (bG cC (mv 2) (aX cB aJ (mv 7)) (λ_ _=>rfl)) (@bG _ _ _ _ _ _ _ cC (@bR _ _ _ _ (aA aJ (aA aJ (aA aJ (aA aJ aB))))) (aX gB (aX kD (mv 0) aJ) aJ) (λ_ _=>rfl))) rfl))) (@aE _ _ _ _ _ (cU (bB uT (aX gB (aX kD (mv 0) aJ) aJ) aJ (bI _)) (@aI _ _ _ (dR (Room.u1 hr) (mv 3) (bG cC gG (aX gB (bG cC (mv 2) aJ (λ_ _=>rfl)) aJ) (λ_ _=>rfl)) (aX gB (bG cC (mv 2) aJ (λ_ _=>rfl)) aJ) rfl)) bO) (@aI _ _ _ (aW (mv 3))))))))),?_⟩
 have hll:((cws.map bC).map V.str).length=cws.length:=by rw [Ab,Ab]
 walk_at "go";refine ⟨c,31,rfl,by omega,by omega,λr ns H1 hr1 s1 hl hp he=>?_⟩
 have hl31:ns.length=31:=hl
 have hlr:rdL H1 r=some (ns.map V.int):=aL he
 walk_at "go";intro p hpp;have s2:=aF hpp (.dK [])
 have e2:(upd H1 p (.dK [])) p=some (.dK []):=aD
 generalize upd H1 p (.dK [])=H2 at s2 e2 ⊢;have hp0:H p=none:=bA s1 hpp
 have hb2:=aH (s1.trans s2) hb
 refine pD ?_
 with_reducible refine aQA (λσ' H'=>∃ (v4 v5:Option V) (kvs:List (Key×V)) (f:Nat->Option Int),σ'=[some (.int c),some (.ref b),some (.ref r),some (.ref p),v4,v5,none,none]/\Same H1 H'/\H' p=some (.dK kvs)/\Lk kvs f/\(∀ c,0<=aM f c)/\(∀ c,f c≠none->bQ c)/\kvs.length<=56/\∀ c,aM f c<=1000) (λσ2 H3 j3=>?_) (λN hN=>?_)
 case refine_2=>
   walk_at "go";refine cF (xs:=(cws.map bC).map V.str) (λi σ H'=>∃ (v4 v5:Option V) (kvs:List (Key×V)) (f:Nat->Option Int),σ=[some (.int c),some (.ref b),some (.ref r),some (.ref p),v4,v5,none,none]/\Same H1 H'/\H' p=some (.dK kvs)/\Lk kvs f/\(∀ c,0<=aM f c)/\(∀ c,f c≠none->bQ c)/\kvs.length<=7 * i/\∀ c,aM f c<=((7 * i:Nat):Int))
     ⟨_,_,[],_,rfl,s2,e2,Lk.nil,(λc=>Gk _),(λc z=>absurd rfl z),Ah _,λc=>Gk _⟩ (λi σ H' _ ⟨_,_,_,_,_,e,_⟩=>aH (s1.trans e) hb) ?_ ?_
   · rintro i x σ H4 hx ⟨v4,v5,kvs,f,rfl,s4,e4,lk,hf,hlt,hkl,hle⟩;have hi:i<cws.length:=by have:=(Ae.mp hx).1; rw [hll] at this; exact this
     obtain ⟨cw,hcw,hm,rfl⟩:=rJ hx;obtain ⟨hc7,hcL⟩:=hL cw hm;walk_at "go";refine bJS (λj σ H'=>∃ (v5:Option V) (kvs:List (Key×V)) (f:Nat->Option Int),σ=[some (.int c),some (.ref b),some (.ref r),some (.ref p),some (.str (bC cw)),v5,none,none]/\Same H1 H'/\H' p=some (.dK kvs)/\Lk kvs f/\(∀ c,0<=aM f c)/\(∀ c,f c≠none->bQ c)/\kvs.length<=7 * i+j/\∀ c,aM f c<=((7 * i+j:Nat):Int))
       ⟨_,kvs,f,rfl,s4,e4,lk,hf,hlt,hkl,hle⟩ ?_ ?_
     · clear s4 e4 lk hf hlt hkl hle kvs f v4 v5;rintro j d σ H5 hd ⟨v5,kvs,f,rfl,s5,e5,lk,hf,hlt,hkl,hle⟩;have hj:j<cw.length:=(Ae.mp hd).1
       have hdL:bQ d:=hcL d (Ai hd)
       walk_at "go";refine pL (z:=one d) (.inl e5) ?_;rw [lk.val d,jK];walk_at "go";refine gA (z:=one d) e5 (aV (by omega)) ?_
       refine ⟨_,_,_,rfl,aY hpp s5,aD,lk.put d _,jC hf (by have:=hf d; omega),cZU hlt hdL,?_,vU (λc=>by have:=hle c; omega) (by have:=hle d; omega)⟩
       have:=dB kvs (Sum.inr (one d)) (.int (aM f d+1))
       omega
     · rintro σ H5 ⟨v5,kvs,f,rfl,s5,e5,lk,hf,hlt,hkl,hle⟩;replace hkl:kvs.length<=7 * i+cw.length:=hkl
       replace hle:∀ c,aM f c<=((7 * i+cw.length:Nat):Int):=hle
       walk_at "go";exact ⟨_,_,kvs,f,rfl,s5,e5,lk,hf,hlt,by omega,λc=>by have:=hle c; omega⟩
   · rintro σ H4 ⟨v4,v5,kvs,f,rfl,s4,e4,lk,hf,hlt,hkl,hle⟩;rw [hll] at hkl hle;exact hN _ _ ⟨v4,v5,kvs,f,rfl,s4,e4,lk,hf,hlt,by omega,λc=>by have:=hle c; omega⟩
 case refine_1=>
 obtain ⟨v4,v5,kvs,f,rfl,s3,e3,lk,hf,hlt,hkl,hle⟩:=j3
 with_reducible refine aQA (λσ' H'=>∃ (v5 v6:Option V) (kvs:List (Key×V)) (f:Nat->Option Int),σ'=[some (.int c),some (.ref b),some (.ref r),some (.ref p),v4,v5,v6,none]/\Same H1 H'/\H' p=some (.dK kvs)/\Lk kvs f/\(∀ c,0<=aM f c)/\kvs.length<=56/\∀ c,aM f c<=1000) (λσ2 H4 j4=>?_) (λN hN=>?_)
 case refine_2=>
   walk_at "go";refine cXB (.inl e3) λl hl=>?_;have s4:=aF hl (.lst (kvs.map λkv=>kV kv.1))
   have el4:(upd H3 l (.lst (kvs.map λkv=>kV kv.1))) l=some (.lst (kvs.map λkv=>kV kv.1)):=aD
   have e4:=s4 _ _ e3
   have nlp:l≠p:=λz=>by rw [z,e3] at hl; cases hl
   generalize upd H3 l (.lst (kvs.map λkv=>kV kv.1))=H4 at s4 el4 e4 ⊢;have rl4:=aL el4
   walk_at "go";refine cF (xs:=kvs.map λkv=>kV kv.1) (λi σ H'=>∃ (v5 v6:Option V) (kws:List (Key×V)) (g:Nat->Option Int),σ=[some (.int c),some (.ref b),some (.ref r),some (.ref p),v4,v5,v6,none]/\Same H1 H'/\H' l=some (.lst (kvs.map λkv=>kV kv.1))/\H' p=some (.dK kws)/\Lk kws g/\(∀ c,0<=aM g c)/\(∀ c,f c≠none->g c≠none)/\kws.length=kvs.length/\∀ c,aM g c<=1000)
     ⟨_,_,kvs,f,rfl,s3.trans s4,el4,e4,lk,hf,(λc z=>z),rfl,hle⟩ (λi σ H' _ ⟨_,_,_,_,_,_,e,_⟩=>aL e) ?_ ?_
   · rintro i x σ H5 hx ⟨v5,v6,kws,g,rfl,s5,el5,e5,lg,hg,hgk,hkw,hge⟩;rw [Ag] at hx;cases ek:kvs[i]? with
     | none=>rw [ek] at hx; cases hx
     | some kv=>
       rw [ek] at hx;have hkm:=Ai ek
       obtain ⟨d,n,hkv,hfd⟩:=lk.at_mem hkm;subst hkv;obtain rfl:x=V.str (one d):=(Bo hx).symm;have hdf:f d≠none:=by rw [hfd]; exact λz=>nomatch z
       have hdL:=hlt d hdf
       obtain ⟨m,hgd⟩:∃ m,g d=some m:=by
         cases e:g d with
         | none=>exact absurd e (hgk d hdf)
         | some m=>exact ⟨m,rfl⟩
       have hgn:0<=m:=by have:=hg d; unfold aM at this; rw [hgd] at this; exact this
       have hgm:m<=1000:=by have:=hge d; unfold aM at this; rw [hgd] at this; exact this
       obtain ⟨nr,inr,anr⟩:=fG (ns:=ns) (i:=((d - 97:Nat):Int)) (by omega) (by unfold bQ at hdL; omega)
       have hnr:=hp _ inr
       have lr5:=aH s5 hlr
       walk_at "go";refine aZC (cZS hdL) ?_;walk_at "go";refine qG (z:=one d) (.inl e5) (by rw [lg.val d,hgd]; rfl) ?_
       walk_at "go";refine cQ lr5 anr ?_;walk_at "go";refine ⟨by decide,λp6 hp6=>?_⟩
       have s6:=aF hp6 (HO.lst [V.int 1,V.int 2,V.int 3,V.int 5])
       obtain ⟨kn,hkn,akn⟩:=fG (ns:=[1,2,3,5]) (i:=c % 4) (by omega) (by show c % 4<4; omega)
       have hk:1<=kn:=(by decide:∀ x∈([1,2,3,5]:List Int),1<=x) kn hkn
       have hmd:=Dd nr (show kn≠0 by omega)
       walk_at "go";refine cQ (xs:=([1,2,3,5]:List Int).map V.int) cZ akn ?_;have e6:=s6 _ _ e5
       have el6:=s6 _ _ el5
       generalize upd H5 p6 (HO.lst [V.int 1,V.int 2,V.int 3,V.int 5])=H6 at e6 el6 s6 ⊢;walk_at "go";refine gA (z:=one d) e6 (aV (by omega)) ?_
       refine ⟨_,_,_,_,rfl,aY hpp (s5.trans s6),by rw [aK nlp]; exact el6,aD,lg.put d _,jC hg (by split <;> omega),λa ha=>?_,?_,vU hge (by split <;> omega)⟩
       · by_cases e:a=d
         · rw [if_pos e]; exact λz=>nomatch z
         · rw [if_neg e]; exact hgk a ha
       · rw [<-hkw];exact nX (by rw [lg.val d,hgd]; exact λz=>nomatch z)
   · rintro σ H5 ⟨v5,v6,kws,g,rfl,s5,el5,e5,lg,hg,hgk,hkw,hge⟩;exact hN _ _ ⟨v5,v6,kws,g,rfl,s5,e5,lg,hg,by omega,hge⟩
 case refine_1=>
 clear s3 e3 lk hf hlt hkl hle kvs f v5;obtain ⟨v5,v6,kvs,f,rfl,s3,e3,lk,hf,hkl,hle⟩:=j4
 with_reducible refine aQA (λσ' H'=>∃ (v7:Option V) (kvs:List (Key×V)) (f:Nat->Option Int),σ'=[some (.int c),some (.ref b),some (.ref r),some (.ref p),v4,v5,v6,v7]/\Same H1 H'/\H' p=some (.dK kvs)/\Lk kvs f/\(∀ c,0<=aM f c)/\kvs.length<=60/\∀ c,aM f c<=1000) (λσ2 H5 j5=>?_) (λN hN=>?_)
 case refine_2=>
   walk_at "go";refine ⟨⟨by omega,by omega⟩,?_⟩
   refine gC (λi σ H'=>∃ (v7:Option V) (kvs:List (Key×V)) (f:Nat->Option Int),σ=[some (.int c),some (.ref b),some (.ref r),some (.ref p),v4,v5,v6,v7]/\Same H1 H'/\H' p=some (.dK kvs)/\Lk kvs f/\(∀ c,0<=aM f c)/\kvs.length<=56+i/\∀ c,aM f c<=1000)
     ⟨_,kvs,f,rfl,s3,e3,lk,hf,hkl,hle⟩ ?_ ?_
   · clear s3 e3 lk hf hkl hle kvs f;rintro i σ H5 hi ⟨v7,kvs,f,rfl,s5,e5,lk,hf,hkl,hle⟩;have hi4:i<4:=hi
     have lr5:=aH s5 hlr
     obtain ⟨nr,inr,anr⟩:=fG (ns:=ns) (i:=23+(0+(i:Int))) (by omega) (by omega)
     have hnr:=hp _ inr
     walk_at "go";refine cQ lr5 anr ?_;walk_at "go";refine ⟨by decide,λp6 hp6=>?_⟩
     have s6:=aF hp6 (HO.lst [V.int 1,V.int 2,V.int 3,V.int 4])
     obtain ⟨kn,hkn,akn⟩:=fG (ns:=[1,2,3,4]) (i:=c / 4 % 4) (by omega) (by show c / 4 % 4<4; omega)
     have hk:1<=kn:=(by decide:∀ x∈([1,2,3,4]:List Int),1<=x) kn hkn
     walk_at "go";refine cQ (xs:=([1,2,3,4]:List Int).map V.int) cZ akn ?_;have e6:=s6 _ _ e5
     generalize upd H5 p6 (HO.lst [V.int 1,V.int 2,V.int 3,V.int 4])=H6 at e6 s6 ⊢;have y0:=Dd nr (show kn≠0 by omega)
     have y1:=Cz nr (show 0<kn by omega)
     have hk4:kn<=4:=(by decide:∀ x∈([1,2,3,4]:List Int),x<=4) kn hkn
     walk_at "go";refine jV (by decide) (by rw [show (0+(i:Int))=((i:Nat):Int) by omega]; exact aZW hi4) ?_
     walk_at "go";refine gA (z:=one (49+i)) e6 (aV (by omega)) ?_
     refine ⟨_,_,_,rfl,aY hpp (s5.trans s6),aD,lk.put (49+i) _,jC hf y0,?_,vU hle (by omega)⟩
     have:=dB kvs (Sum.inr (one (49+i))) (.int (nr % kn))
     omega
   · rintro σ H5 ⟨v7,kvs,f,rfl,s5,e5,lk,hf,hkl,hle⟩;exact hN _ _ ⟨v7,kvs,f,rfl,s5,e5,lk,hf,hkl,hle⟩
 case refine_1=>
 clear s3 e3 lk hf hkl hle kvs f;obtain ⟨v7,kvs,f,rfl,s5,e5,lk,hf,hkl,hle⟩:=j5;have lr5:=aH s5 hlr
 walk_at "go";refine iI (λhc=>?_) (λhc=>?_)
 · obtain ⟨n7,i7,a7⟩:=fG (ns:=ns) (i:=27) (by omega) (by omega)
   obtain ⟨n8,i8,a8⟩:=fG (ns:=ns) (i:=28) (by omega) (by omega)
   have y0:=Dd n8 (show (3:Int)≠0 by decide)
   have y1:=Cz n8 (show (0:Int)<3 by decide)
   have z0:=Dd n7 (show (23:Int)≠0 by decide)
   have z1:=Cz n7 (show (0:Int)<23 by decide)
   have e1:=aZI (k:=(n7 % 23).toNat) (by omega)
   rw [show (((n7 % 23).toNat:Nat):Int)=n7 % 23 by omega] at e1
   walk_at "go";refine cQ lr5 a8 ?_;walk_at "go";refine cQ lr5 a7 ?_;walk_at "go";refine jV (by decide) e1 ?_
   walk_at "go";refine gA (z:=one (97+(n7 % 23).toNat)) e5 (aV (by omega)) ?_
   walk_at "go";refine q p _ _ _ hp0 (s1.trans (aY hpp s5)) aD (lk.put _ _) (λc=>⟨jC hf y0 c,vU hle (by omega) c⟩) ?_
   have:=dB kvs (Sum.inr (one (97+(n7 % 23).toNat))) (.int (n8 % 3))
   omega
 · walk_at "go";exact q p kvs f _ hp0 (s1.trans s5) e5 lk (λc=>⟨hf c,hle c⟩) (by omega)
def jF:Sp:=λvs H Q _=>∃ (cw:List Nat) (k:Nat) (p:Int),vs=[.str (bC cw),.int p]/\p=(k:Int)+1/\k<cw.length/\cw.length<=7/\
 ∀ (r:Addr) (H':Hp),H r=none->Same H H'->H' r=some (.lst (((chs cw k).map one).map V.str))->Q (.ref r) H'
theorem sc_l_choices:FnScope ["_law_word_here", "_law_place", "_law_found", "_law_n"] ["_law_word_here", "_law_place"] (aG eZ):=by walk_at "sc"
theorem vB {Zw Zz Zx Zy:Addr} {f:Addr} {fd:FuncData} (F:Fun K "_law_choices" "_law_choices" eZ f fd) (G:Gs K mg Zw Zz Zx Zy)  : FnOk P w K mg base CX0 1 f fd ["_law_word_here", "_law_place"] jF:=by
 refine F.ok sc_l_choices (λvs H Q E h=>?_) (λcdv A outer s H vs Q E hr h=>?_)
 · obtain ⟨cw,k,p,rfl,_⟩:=h; rfl
 obtain ⟨cw,k,pl,rfl,hpl,hk,h7,q⟩:=h;refine ⟨_,(@aE _ _ _ _ _ (@aP _ _ 2 _ _ _ _ sc_l_choices.nd (by rfl) (by exact (Or.inl rfl)) (bR (aA (bG cC (mv 0) (aX jZ (mv 1) aJ) (λ_ _=>rfl)) aB)) (by rfl) (by walk_at "o")) (@aE _ _ _ _ _ (bN Az rfl (uE rfl G.b_range (aA aJ (aA (aU (dQL rfl) rfl G.b_min bXK (aA (mv 1) (aA aJ aB))) aB))) (aO (i:=3) sc_l_choices.nd rfl (Or.inl rfl)) (@aI _ _ _ (cU (bB uT (bG cC (mv 0) (aX jZ (mv 3) aJ) (λ_ _=>rfl)) (bG cC (mv 0) (aX jZ (mv 1) aJ) (λ_ _=>rfl)) (bI _)) (@aI _ _ _ (cG (cV Bj Cf Cg mX (mv 2) (aA (bG cC gG (aX jZ (mv 3) aJ) (λ_ _=>rfl)) aB)))) bO))) (@aI _ _ _ (aW (mv 2))))),?_⟩
 have hwl:(bC cw).length=cw.length:=fH cw
 walk_at "go";refine jV (by rw [hwl]; exact bP (by omega)) (mE (k:=k) (by omega) hk) ?_
 walk_at "go";refine ⟨by show 1<=sizeLine; decide,λp hp=>?_⟩
 walk_at "go";have em:(if (5:Int)<pl then 5 else pl)=1+((min k 4:Nat):Int):=by split <;> omega
 rw [em];refine ⟨⟨by omega,by omega,by omega,by omega⟩,?_⟩
 rw [show (1+((min k 4:Nat):Int) - 1).toNat=min k 4 by omega]
 refine gC (λi σ H'=>∃ v,σ=[some (.str (bC cw)),some (.int pl),some (.ref p),v]/\Same H H'/\H' p=some (.lst (((cw.getD k 0::(List.range i).filterMap (chF cw k)).map one).map V.str)))
   ⟨none,rfl,aF hp _,aD⟩ ?_ ?_
 · rintro i σ H' hi ⟨v,rfl,sm,hH⟩;have hi2:i<min k 4:=hi
   have hm:=bF hH
   have hlen:((((cw.getD k 0::(List.range i).filterMap (chF cw k)).map one).map V.str)).length<sizeLine:=by
     have:=Dj (chF cw k) (List.range i)
     rw [Bz] at this;rw [Ab,Ab,Bb];exact aV (by omega)
   walk_at "go";refine jV (by rw [hwl]; exact bP (by omega)) (mE (k:=i) (by omega) (by omega)) ?_
   walk_at "go";refine jV (by rw [hwl]; exact bP (by omega)) (mE (k:=k) (by omega) hk) ?_
   walk_at "go";rw [show decide (({ cps:=#[cw.getD i 0] }:Str)={ cps:=#[cw.getD k 0] })=decide (cw.getD i 0=cw.getD k 0) from vY _ _];refine iI (λhc=>?_) (λhc=>?_)
   · have he:=Bg hc
     walk_at "go";refine jV (by decide) (by rw [show 1+(i:Int) - 1=(i:Int) by omega]; exact aZW (k:=i) (by omega)) ?_
     walk_at "go";refine ⟨_,rfl,aY hp sm,?_⟩;rw [aD,sJ (F:=chF cw k) (if_pos he),<-List.cons_append,Ak,Ak];rfl
   · have he:=Ca (Cd.mpr hc)
     walk_at "go";refine ⟨_,rfl,sm,?_⟩;rw [hH,sI (F:=chF cw k) (if_neg he)]
 · rintro σ H' ⟨v,rfl,sm,hH⟩;walk_at "go";exact q p H' hp sm hH
theorem bQP {g:TG} {tests:TT} {te:TE} {σ0:St} {Q:VK} {H1:Hp} {n:Nat} {lo:Int} (hl:n<sizeLine)
   (hs:∀ (i:Nat) Hc (A:VK) (B:Hp->Prop),i<n->Same H1 Hc->(∀ (m:Int) Hd,Same Hc Hd->A (.int m) Hd)->g (.int (lo+i)) σ0 Hc λσ2 H2=>Wk σ0 σ2/\tests σ2 H2 λb H3=>if b=true then te σ2 H3 A else B H3)
   (fin:∀ D Hd (ms:List Int),H1 D=none->Same H1 Hd->Hd D=some (.lst (ms.map V.int))->ms.length=n->Q (.ref D) Hd):eQ g tests te σ0 Q (Itr lo n) H1:=by
 refine fE (n:=n) (λD i ys Hc=>Same H1 Hc/\∃ ms:List Int,ys=ms.map V.int/\ms.length=i) hl (λD hD=>⟨aF hD _,[],rfl,rfl⟩) (λD i ys Hc _ r h=>h) (λD ys Hc _ r=>Ah n) ?_ ?_
 · rintro D i ys Hc x H' A B hD hi ⟨sm,ms,rfl,hm⟩ hDc ⟨rfl,rfl⟩ ha' hb;refine hs i H' A B hi sm λm Hd sd=>?_;exact ha' _ _ (sd _ _ hDc) ⟨aY hD (sm.trans sd),ms++[m],by rw [Ak]; rfl,by rw [Aj,hm]; rfl⟩
 · rintro D ys Hc hD ⟨sm,ms,rfl,hm⟩ hDc _;exact fin D Hc ms hD sm hDc hm
def pQ:Sp:=λvs H Q _=>∃ (cw:List Nat) (c:Int),vs=[.str (bC cw),.int c]/\1<=cw.length/\cw.length<=7/\(∀ d∈cw,bQ d)/\
 ∀ (r:Addr) (cs:List Nat) (H':Hp),H r=none->Same H H'->H' r=some (.lst ((cs.map one).map V.str))->cK (cs.map one)=true->Q (.ref r) H'
theorem sc_l_hoist:FnScope ["_law_word_here", "_law_cell_here", "_law_some", "_law_hoist_here", "_law_k", "_law_choices_here"] ["_law_word_here", "_law_cell_here"] (aG gO):=by walk_at "sc"
theorem aXI {Zw Zz Zx Zy:Addr} {f:Addr} {fd:FuncData} (F:Fun K "_law_hoist" "_law_hoist" gO f fd) (G:Gs K mg Zw Zz Zx Zy) (c_l_stream:Cal P w K mg base 1 "_law_stream" ["_law_cell_here", "_law_many"] iD) (c_l_choices:Cal P w K mg base 1 "_law_choices" ["_law_word_here", "_law_place"] jF):FnOk P w K mg base CX0 2 f fd ["_law_word_here", "_law_cell_here"] pQ:=by
 refine F.ok sc_l_hoist (λvs H Q E h=>?_) (λcdv A outer s H vs Q E hr h=>?_)
 · obtain ⟨cw,c,rfl,_⟩:=h; rfl
 obtain ⟨cw,c,rfl,h1,h7,hL,q⟩:=h;refine ⟨_,(@aE _ _ _ _ _ (@aP _ _ 2 _ _ _ _ sc_l_hoist.nd (by rfl) (by exact (Or.inl rfl)) (aZ c_l_stream hr (by decide) rfl (aA (mv 1) (aA aJ aB))) (by rfl) (by walk_at "o")) (@aE _ _ _ _ _ (@aP _ _ 3 _ _ _ _ sc_l_hoist.nd (by rfl) (by exact (Or.inl rfl)) (bR aB) (by rfl) (by walk_at "o")) (@aE _ _ _ _ _ (bN Az rfl (dW rfl G.b_range (aA (aU eE rfl G.b_len cI (aA (mv 0) aB)) aB)) (aO (i:=4) sc_l_hoist.nd rfl (Or.inl rfl)) (@aE _ _ _ _ _ (@aP _ _ 5 _ _ _ _ sc_l_hoist.nd (by rfl) (by exact (Or.inl rfl)) (aZ c_l_choices hr (by decide) rfl (aA (mv 0) (aA (aX cB (mv 4) aJ) aB))) (by rfl) (by walk_at "o")) (@aI _ _ _ (cG (cV Bj Cf Cg mX (mv 3) (aA (bG cC (mv 5) (aX gB (bG cC (mv 2) (mv 4) (λ_ _=>rfl)) (aU eE rfl G.b_len cI (aA (mv 5) aB))) (λ_ _=>rfl)) aB)))))) (@aI _ _ _ (aW (mv 3)))))),?_⟩
 have hwl:(bC cw).length=cw.length:=fH cw
 walk_at "go";refine ⟨c,7,rfl,by omega,by omega,λr ns H1 hr1 s1 hl hp he=>?_⟩
 have hl7:ns.length=7:=hl
 have hlr:rdL H1 r=some (ns.map V.int):=aL he
 walk_at "go";refine ⟨by decide,λp hpp=>?_⟩
 have hp0:=bA s1 hpp
 walk_at "go";rw [hwl];refine ⟨⟨by omega,by omega⟩,?_⟩
 refine gC (λi σ H'=>∃ (cs:List Nat) (v4 v5:Option V),σ=[some (.str (bC cw)),some (.int c),some (.ref r),some (.ref p),v4,v5]/\Same H1 H'/\H' p=some (.lst ((cs.map one).map V.str))/\cs.length=i/\∀ k,k<i->cs.getD k 0∈chs cw k)
   ⟨[],_,_,rfl,aF hpp _,aD,rfl,λk hk=>absurd hk (Fa _)⟩ ?_ ?_
 · rintro i σ H2 hi ⟨cs,v4,v5,rfl,s2,e2,hcl,hch⟩;have hi7:i<cw.length:=by omega
   walk_at "go";refine ⟨cw,i,_,rfl,by omega,hi7,h7,λr3 H3 hr3 s3 e3=>?_⟩
   have rl3:=aH (s2.trans s3) hlr
   have rc3:=aL e3
   have e23:=s3 _ _ e2
   have hm3:=bF e23
   have hll:((cs.map one).map V.str).length<sizeLine:=aV (by rw [Ab,Ab]; omega)
   have hcp:0<(chs cw i).length:=List.length_pos_of_mem (ch_iff.mpr (.inl rfl))
   have hcll:(((chs cw i).map one).map V.str).length=(chs cw i).length:=by rw [Ab,Ab]
   obtain ⟨nk,ik,ak⟩:=fG (ns:=ns) (i:=0+(i:Int)) (by omega) (by omega)
   walk_at "go";refine cQ rl3 ak ?_;walk_at "go";rw [hcll];have z0:=Dd nk (show ((chs cw i).length:Int)≠0 by omega)
   have z1:=Cz nk (show (0:Int)<((chs cw i).length:Int) by omega)
   obtain ⟨u,eu⟩:∃ u:Nat,nk % ((chs cw i).length:Int)=((u:Nat):Int):=⟨(nk % ((chs cw i).length:Int)).toNat,by omega⟩
   rw [eu] at z0 z1 ⊢;have hu:u<(chs cw i).length:=by omega
   obtain ⟨d,hd⟩:∃ d,(chs cw i)[u]?=some d:=⟨_,Aa hu⟩;refine cQ rc3 (eI (by rw [Ag,Ag,hd]; rfl)) ?_
   walk_at "go";refine ⟨cs++[d],_,_,rfl,aY hpp (s2.trans s3),by rw [aD,Ak,Ak]; rfl,by rw [Aj,hcl]; rfl,λk hk=>?_⟩
   by_cases hki:k<i
   · rw [Ac,Ap (by omega),<-Ac]
     exact hch k hki
   · have e:k=i:=by omega
     rw [e,Ac,Av (by omega),hcl,Fz]
     exact Ai hd
 · rintro σ H2 ⟨cs,v4,v5,rfl,s2,e2,hcl,hch⟩;have hcl':cs.length=cw.length:=by rw [hcl]; omega
   walk_at "go";exact q p cs H2 hp0 (s1.trans s2) e2 (xO hL (by omega) (by omega) (by omega) λk hk=>hch k (by omega))
def lD:Sp:=λvs H Q _=>∃ (b:Addr) (ns:List Int) (m:Int),vs=[.ref b,.int m]/\rdL H b=some (ns.map V.int)/\ns.length<=6/\
 ∀ (r:Addr) (us:List V) (hs:Q3) (H':Hp),H r=none->Same H H'->H' r=some (.lst us)->HalsAt H' us hs->HalOk hs->hs.length=ns.length->Q (.ref r) H'
theorem HalOk.snoc {hs:Q3} (u:HalOk hs) {h:Option (List Nat)} (k:∀ cs,h=some cs->cK (cs.map one)=true):HalOk (hs++[h]):=λcs hcs=>by
 rcases Bk.mp hcs with e | e
 · exact u cs e
 · exact k cs (Aw.mp e).symm
theorem sc_l_halyards:FnScope ["_law_cells", "_law_spread", "_law_found", "_law_cell_here"] ["_law_cells", "_law_spread"] (aG dP):=by walk_at "sc"
theorem sB {Zw Zz Zx Zy:Addr} {f:Addr} {fd:FuncData} (F:Fun K "_law_halyards" "_law_halyards" dP f fd) (G:Gs K mg Zw Zz Zx Zy) (c_l_hoist:Cal P w K mg base 2 "_law_hoist" ["_law_word_here", "_law_cell_here"] pQ) (c_l_word:Cal P w K mg base 2 "_law_word" ["_law_cell_here", "_law_spread", "_law_longest"] nR):FnOk P w K mg base CX0 3 f fd ["_law_cells", "_law_spread"] lD:=by
 refine F.ok sc_l_halyards (λvs H Q E h=>?_) (λcdv A outer s H vs Q E hr h=>?_)
 · obtain ⟨b,ns,m,rfl,_⟩:=h; rfl
 obtain ⟨b,ns,m,rfl,hb,h6,q⟩:=h;refine ⟨_,(@aE _ _ _ _ _ (@aP _ _ 2 _ _ _ _ sc_l_halyards.nd (by rfl) (by exact (Or.inl rfl)) (bR aB) (by rfl) (by walk_at "o")) (@aE _ _ _ _ _ (bN Az rfl (bH (mv 0)) (aO (i:=3) sc_l_halyards.nd rfl (Or.inl rfl)) (@aI _ _ _ (cU (bB uT (aX gB (mv 3) aJ) aJ (bI _)) (@aI _ _ _ (cG (cV Bj Cf Cg mX (mv 2) (aA gU aB)))) (@aI _ _ _ (cG (cV Bj Cf Cg mX (mv 2) (aA (aZ c_l_hoist hr (by decide) rfl (aA (aZ c_l_word hr (by decide) rfl (aA (aX kD (mv 3) aJ) (aA (mv 1) (aA aJ aB)))) (aA (aX kD (mv 3) aJ) aB))) aB))))))) (@aI _ _ _ (aW (mv 2))))),?_⟩
 have hnl:(ns.map V.int).length=ns.length:=Ab ..
 walk_at "go";refine ⟨by decide,λp hpp=>?_⟩
 walk_at "go";refine cF (xs:=ns.map V.int) (λi σ H'=>∃ (us:List V) (hs:Q3) (v3:Option V),σ=[some (.ref b),some (.int m),some (.ref p),v3]/\Same H H'/\H' p=some (.lst us)/\HalsAt H' us hs/\HalOk hs/\hs.length=i)
   ⟨[],[],_,rfl,aF hpp _,aD,HalsAt.nil,(λc hc=>nomatch hc),rfl⟩ (λi σ H' _ ⟨_,_,_,_,e,_⟩=>aH e hb) ?_ ?_
 · rintro i x σ H2 hx ⟨us,hs,v3,rfl,s2,e2,hat,ok,hlen⟩;have hi:i<ns.length:=by have:=(Ae.mp hx).1; rw [hnl] at this; exact this
   obtain ⟨c,_,rfl⟩:=aQY hx;have hul:us.length<sizeLine:=aV (by rw [hat.len]; omega)
   walk_at "go";refine iI (λhc=>?_) (λhc=>?_)
   · have hm2:=bF e2
     walk_at "go";exact ⟨_,hs++[none],_,rfl,aY hpp s2,aD,(hat.put e2).snoc rfl,ok.snoc (λcs e=>nomatch e),by rw [Aj,hlen]; rfl⟩
   · walk_at "go";refine ⟨_,m,4,rfl,by omega,by omega,λcw H3 s3 h1 h4 hL=>?_⟩
     walk_at "go";refine ⟨cw,_,rfl,h1,by omega,hL,λl cs H4 hl s4 el hb4=>?_⟩
     have s24:=s3.trans s4
     have e4:=s24 _ _ e2
     have hm4:=bF e4
     have hat4:=hat.keep s24
     have nlp:l≠p:=λz=>by rw [z,s3 _ _ e2] at hl; cases hl
     walk_at "go";exact ⟨_,hs++[some cs],_,rfl,aY hpp (s2.trans s24),aD,(hat4.put e4).snoc ⟨l,rfl,by rw [aK nlp]; exact el⟩,ok.snoc (λcs' e=>by cases e; exact hb4),by rw [Aj,hlen]; rfl⟩
 · rintro σ H2 ⟨us,hs,v3,rfl,s2,e2,hat,ok,hlen⟩;rw [hnl] at hlen;walk_at "go";exact q p us hs H2 hpp s2 e2 hat ok hlen
def qB (K:PySem.W.Frag):Sp:=λvs H Q _=>∃ (a:Addr) (ns:List Int) (st:Int),vs=[.ref a,.int st]/\SqL K H a (ns.map V.int)/\0<=st/\st<=1000/\
 ∀ (r l b:Addr) (kvs:List (Key×V)) (f:Nat->Option Int) (us:List V) (hs:Q3) (n:Nat) (cw:List Nat) (H':Hp),Same H H'->H' r=some (.lst [.ref l,.ref b,.int ((n:Nat):Int),.str (bC cw)])->H' b=some (.lst us)->jW H' l b kvs f us hs n cw->kvs.length<=100->(∀ c,aM f c<=1000)->Q (.ref r) H'
theorem sc_l_drawn:FnScope ["_law_script", "_law_start", "_law_cell_here", "_law_many", "_law_halyards_here", "_law_word_here", "_law_number"] ["_law_script", "_law_start"] (aG fT):=by walk_at "sc"
theorem aXD {Zw Zz Zx Zy:Addr} {f:Addr} {fd:FuncData} (F:Fun K "_law_drawn" "_law_drawn" fT f fd) (G:Gs K mg Zw Zz Zx Zy) (c_l_cell:Cal P w K mg base 1 "_law_cell" ["_law_script", "_law_k"] (tP K)) (c_l_halyards:Cal P w K mg base 3 "_law_halyards" ["_law_cells", "_law_spread"] lD) (c_l_word:Cal P w K mg base 2 "_law_word" ["_law_cell_here", "_law_spread", "_law_longest"] nR) (c_l_locker:Cal P w K mg base 2 "_law_locker" ["_law_cell_here", "_law_words_here"] oH):FnOk P w K mg base CX0 4 f fd ["_law_script", "_law_start"] (qB K):=by
 refine F.ok sc_l_drawn (λvs H Q E h=>?_) (λcdv A outer s H vs Q E hr h=>?_)
 · obtain ⟨a,ns,st,rfl,_⟩:=h; rfl
 obtain ⟨a,ns,st,rfl,hS,h0,h1,q⟩:=h;refine ⟨_,(@aE _ _ _ _ _ (@aP _ _ 2 _ _ _ _ sc_l_drawn.nd (by rfl) (by exact (Or.inl rfl)) (aZ c_l_cell hr (by decide) rfl (aA (mv 0) (aA (mv 1) aB))) (by rfl) (by walk_at "o")) (@aE _ _ _ _ _ (@aP _ _ 3 _ _ _ _ sc_l_drawn.nd (by rfl) (by exact (Or.inl rfl)) (aX cB aJ (aX gB (mv 2) aJ)) (by rfl) (by walk_at "o")) (@aE _ _ _ _ _ (@aP _ _ 4 _ _ _ _ sc_l_drawn.nd (by rfl) (by exact (Or.inl rfl)) (aZ c_l_halyards hr (by decide) rfl (aA (cJ rfl (dW rfl G.b_range (aA (mv 3) aB)) (fI (N:=["_law_k", "_law_script", "_law_start"]) ["_law_script", "_law_start", "_law_cell_here", "_law_many", "_law_halyards_here", "_law_word_here", "_law_number"] (aG fT) [none,some 0,some 1] rfl rfl rfl (λx h=>bU h) (by decide +kernel)) (by decide +kernel) rfl (by decide +kernel) (λC s₀ H₀ ex=>(aO (i:=0) (show List.Nodup (["_law_k", "_law_script", "_law_start"]:List Str) by decide +kernel) rfl (Or.inl rfl))) (λC s₀ H₀ ex=>fD) (λC s₀ H₀ ex=>(aZ c_l_cell hr (by decide) rfl (aA (mv 1) (aA (aX cB (aX cB (mv 2) aJ) (mv 0)) aB))))) (aA (aX kD (mv 2) aJ) aB))) (by rfl) (by walk_at "o")) (@aE _ _ _ _ _ (@aP _ _ 5 _ _ _ _ sc_l_drawn.nd (by rfl) (by exact (Or.inl rfl)) (aZ c_l_word hr (by decide) rfl (aA (aZ c_l_cell hr (by decide) rfl (aA (mv 0) (aA (aX cB (mv 1) aJ) aB))) (aA (aX kD (mv 2) aJ) (aA aJ aB)))) (by rfl) (by walk_at "o")) (@aE _ _ _ _ _ (@aP _ _ 6 _ _ _ _ sc_l_drawn.nd (by rfl) (by exact (Or.inl rfl)) (aX gB (aZ c_l_cell hr (by decide) rfl (aA (mv 0) (aA (aX cB (mv 1) aJ) aB))) (mv 3)) (by rfl) (by walk_at "o")) (@aI _ _ _ (aW (@bR _ _ _ _ (aA (aZ c_l_locker hr (by decide) rfl (aA (aZ c_l_cell hr (by decide) rfl (aA (mv 0) (aA (aX cB (mv 1) aJ) aB))) (aA (bR (aA (mv 5) aB)) aB))) (aA (mv 4) (aA (mv 6) (aA (mv 5) aB)))))))))))),?_⟩
 walk_at "go";refine ⟨a,ns,_,rfl,hS,by omega,λn1=>?_⟩
 have y0:=Dd n1 (show (6:Int)≠0 by decide)
 have y1:=Cz n1 (show (0:Int)<6 by decide)
 walk_at "go";refine ⟨⟨by omega,by omega⟩,?_⟩
 refine bQP (aV (by omega)) (λi Hc A B hi sm hA=>?_) (λD Hd ms hD sD hd hml=>?_)
 · walk_at "go";refine ⟨Wk.set rfl (Wk.refl _),?_⟩;walk_at "go";exact ⟨a,ns,_,rfl,sm.seq hS,by omega,λn2=>hA n2 _ (Same.refl _)⟩
 walk_at "go";refine ⟨D,ms,_,rfl,aL hd,by omega,λb us hs H2 hb s2 e2 hat ok hlen=>?_⟩
 have s02:=sD.trans s2
 walk_at "go";refine ⟨a,ns,_,rfl,s02.seq hS,by omega,λn2=>?_⟩
 walk_at "go";refine ⟨_,_,7,rfl,by omega,by omega,λcw H3 s3 h1' h7 hL=>?_⟩
 have s03:=s02.trans s3
 walk_at "go";refine ⟨a,ns,_,rfl,s03.seq hS,by omega,λn3=>?_⟩
 walk_at "go";have z0:=Dd n3 (show 1+n1 % 6≠0 by omega)
 have z1:=Cz n3 (show 0<1+n1 % 6 by omega)
 obtain ⟨n,hn⟩:∃ n:Nat,n3 % (1+n1 % 6)=((n:Nat):Int):=⟨(n3 % (1+n1 % 6)).toNat,by omega⟩
 rw [hn] at z0 z1 ⊢;refine ⟨a,ns,_,rfl,s03.seq hS,by omega,λn4=>?_⟩
 walk_at "go";refine ⟨by show 1<=sizeLine; decide,λp4 hp4=>?_⟩
 have s4:=aF hp4 (.lst [V.str (bC cw)])
 have e4:rdL (upd H3 p4 (.lst [V.str (bC cw)])) p4=some ((([cw]:Q5).map bC).map V.str):=cZ
 generalize upd H3 p4 (.lst [V.str (bC cw)])=H4 at s4 e4 ⊢;walk_at "go";refine ⟨n4,p4,[cw],rfl,e4,by show 1<=8; decide,λc hc=>by rw [Aw.mp hc]; exact ⟨by omega,hL⟩,λl kvs f H5 hl s5 el lk hf hkl=>?_⟩
 walk_at "go";refine ⟨by show 4<=sizeLine; decide,λr hr=>?_⟩
 have s6:=aF hr (.lst [.ref l,.ref b,.int ((n:Nat):Int),.str (bC cw)])
 have s26:=s3.trans (s4.trans (s5.trans s6))
 exact q r l b kvs f us hs n cw _ (s02.trans s26) aD (s26 _ _ e2) ⟨s6 _ _ el,lk,λc=>(hf c).1,aL (s26 _ _ e2),hat.keep s26,ok,by omega,by omega,h1',by omega,hL⟩ hkl λc=>(hf c).2
def gJ (hs:List (Option (List Nat))) (n:Nat):List Nat:=(hs.getD n none).getD []
theorem wJ {hs:Q3} (ok:HalOk hs) (n:Nat):(gJ hs n).length<=7:=by
 unfold gJ;cases e:hs.getD n none with
 | none=>exact Bw _
 | some cs=>
   have hm:some cs∈hs:=by
     rw [Ac] at e;cases e2:hs[n]? with
     | none=>rw [e2] at e; cases e
     | some h=>
       rw [e2] at e;rw [<-show h=some cs from e];exact Ai e2
   have h7:=fU (ok cs hm)
   rw [Ab] at h7;exact h7.2
theorem dXW {σ:St} {H1:Hp} {Q:VK} {v:V} {h:Option (List Nat)} (hv:HalV H1 v h) (q:∀ p H2,Same H1 H2->rdL H2 p=some (((h.getD []).map one).map V.str)->Q (.ref p) H2) :
   (v=.non/\bZ0 xQ σ H1 Q)\/∃ (p:Addr) (xs:List V),v=.ref p/\rdL H1 p=some xs/\(xs≠[]->Q (.ref p) H1)/\(xs=[]->bZ0 xQ σ H1 Q):=by
 have e0:h.getD []=[]->bZ0 xQ σ H1 Q:=λe=>⟨Bw _,λp hp=>q p _ (aF hp _) (by rw [e]; exact cZ)⟩
 cases h with
 | none=>exact .inl ⟨hv,e0 rfl⟩
 | some cs=>
   obtain ⟨p,e,hp⟩:=hv;exact .inr ⟨p,_,e,aL hp,λ_=>q p H1 (Same.refl _) (aL hp),λz=>e0 (by cases cs with | nil=>rfl | cons a r=>cases z)⟩
theorem bXE {f:Nat->Option Int} {d c:Nat} {x:Int}:aM (λe=>if e=d then some x else f e) c=if c=d then x else aM f c:=by
 unfold aM;dsimp only;by_cases e:c=d
 · rw [if_pos e,if_pos e]; rfl
 · rw [if_neg e,if_neg e]
theorem cX9 (xs ys:List Nat) (c:Nat):cnt (xs++ys) c=cnt xs c+cnt ys c:=by
 unfold cnt;rw [List.countP_append];exact Int.natCast_add ..
theorem zF {F:List Nat} {i:Nat} {x:V} (h:((F.map one).map V.str)[i]?=some x):∃ c,F[i]?=some c/\x=V.str (one c):=by
 rw [Ag,Ag] at h;cases e:F[i]? with
 | none=>rw [e] at h; cases h
 | some c=>rw [e] at h; cases h; exact ⟨c,rfl,rfl⟩
theorem uK {hs:Q3} {ks:List Nat} {i k:Nat} (h:ks[i]?=some k):bJ hs (ks.take (i+1))=bJ hs (ks.take i)++gJ hs k:=by
 unfold bJ;rw [Ba,h,Dh];show _++((hs.getD k none).getD []++[])=_
 rw [Br];rfl
def sN:Sp:=λvs H Q _=>∃ (a b l:Addr) (kvs:List (Key×V)) (f:Nat->Option Int) (us:List V) (hs:List (Option (List Nat))) (ks:List Nat),vs=[.ref a,.ref b,.ref l]/\H a=some (.dK kvs)/\Lk kvs f/\kvs.length<=500/\rdL H b=some us/\HalsAt H us hs/\HalOk hs/\rdL H l=some (ks.map λk=>V.int ((k:Nat):Int))/\ks.length<=6/\(∀ k∈ks,k<hs.length)/\
 ∀ (r:Addr) (kws:List (Key×V)) (g:Nat->Option Int) (H':Hp),H r=none->Same H H'->H' r=some (.dK kws)->Lk kws g->(∀ c,aM g c=aM f c+cnt (bJ hs ks) c)->Q (.ref r) H'
theorem sc_l_pool:FnScope ["_law_locker_here", "_law_halyards_here", "_law_numbers", "_law_pool_here", "_law_k", "_law_flag"] ["_law_locker_here", "_law_halyards_here", "_law_numbers"] (aG iO):=by walk_at "sc"
theorem bQO {Zw Zz Zx Zy:Addr} {f:Addr} {fd:FuncData} (F:Fun K "_law_pool" "_law_pool" iO f fd) (G:Gs K mg Zw Zz Zx Zy)  : FnOk P w K mg base CX0 1 f fd ["_law_locker_here", "_law_halyards_here", "_law_numbers"] sN:=by
 refine F.ok sc_l_pool (λvs H Q E h=>?_) (λcdv A outer s H vs Q E hr h=>?_)
 · obtain ⟨a,b,l,kvs,f,us,hs,ks,rfl,_⟩:=h; rfl
 obtain ⟨a,b,l,kvs,f,us,hs,ks,rfl,ha,lk,hkl,hb,hat,ok,hl,hks,hkk,q⟩:=h;refine ⟨_,(@aE _ _ _ _ _ (@aP _ _ 3 _ _ _ _ sc_l_pool.nd (by rfl) (by exact (Or.inl rfl)) (bK xB rfl G.b_dict aZH (aA (mv 0) aB)) (by rfl) (by walk_at "o")) (@aE _ _ _ _ _ (bN Az rfl (bH (mv 2)) (aO (i:=4) sc_l_pool.nd rfl (Or.inl rfl)) (@aI _ _ _ (bN Az rfl (bH (dZG (bG cC (mv 1) (mv 4) (λ_ _=>rfl)) (bZR (bR aB)))) (aO (i:=5) sc_l_pool.nd rfl (Or.inl rfl)) (@aI _ _ _ (dR (Room.u1 hr) (mv 3) (mv 5) (aX cB (fJ Bt Co (qT (Room.u1 hr)) (mv 3) (aA (mv 5) (aA aJ aB))) aJ) rfl))))) (@aI _ _ _ (aW (mv 3))))),?_⟩
 walk_at "go";refine wX (.inl ha) λp hp=>?_;have s1:=aF hp (.dK kvs)
 have e1:(upd H p (.dK kvs)) p=some (.dK kvs):=aD
 generalize upd H p (.dK kvs)=H1 at s1 e1 ⊢;have hl1:=aH s1 hl
 walk_at "go";refine cF (xs:=(ks.map λk=>V.int ((k:Nat):Int))) (λi σ H'=>∃ (kv1:List (Key×V)) (f1:Nat->Option Int) (v4 v5:Option V),σ=[some (.ref a),some (.ref b),some (.ref l),some (.ref p),v4,v5]/\Same H H'/\H' p=some (.dK kv1)/\Lk kv1 f1/\(∀ c,aM f1 c=aM f c+cnt (bJ hs (ks.take i)) c)/\kv1.length<=500+7 * i)
   ⟨kvs,f,_,_,rfl,s1,e1,lk,λc=>by rw [Ej]; show _=_+((0:Nat):Int); omega,by omega⟩ (λi σ H' _ ⟨_,_,_,_,_,e,_⟩=>aH e hl) ?_ ?_
 · rintro i x σ H2 hx ⟨kv0,f0,v4,v5,rfl,s2,e2,lk0,hf0',hl0⟩;obtain ⟨k,hk,rfl⟩:=jO hx;have hi6:i<ks.length:=(Ae.mp hk).1
   have hb2:=aH s2 hb
   obtain ⟨u,au,_,hv⟩:=(hat.keep s2).get (hkk k (Ai hk));walk_at "go";unfold eXG;walk_at "go";refine cQ hb2 au ?_;refine dXW hv λpc H3 s3 r3=>?_;have h7:(gJ hs k).length<=7:=wJ ok k
   have s03:=s2.trans s3
   have e3:=s3 _ _ e2
   change rdL H3 pc=some (((gJ hs k).map one).map V.str) at r3
   walk_at "go";refine cF (xs:=((gJ hs k).map one).map V.str) (λj σ H'=>∃ (kv1:List (Key×V)) (f1:Nat->Option Int) (v5:Option V),σ=[some (.ref a),some (.ref b),some (.ref l),some (.ref p),some (.int ((k:Nat):Int)),v5]/\Same H H'/\rdL H' pc=some (((gJ hs k).map one).map V.str)/\H' p=some (.dK kv1)/\Lk kv1 f1/\(∀ c,aM f1 c=aM f0 c+cnt ((gJ hs k).take j) c)/\kv1.length<=500+7 * i+j)
     ⟨kv0,f0,_,rfl,s03,r3,e3,lk0,λc=>by rw [Ej]; show _=_+((0:Nat):Int); omega,by omega⟩ (λi σ H' _ ⟨_,_,_,_,_,e,_⟩=>e) ?_ ?_
   · rintro j x σ H4 hx ⟨kv1,f1,v5,rfl,s4,r4,e4,lg,hg,hlj⟩;have hj:j<(gJ hs k).length:=by have:=(Ae.mp hx).1; rw [Ab,Ab] at this; exact this
     obtain ⟨d,hd,rfl⟩:=zF hx;have hpl:kv1.length<sizeLine:=aV (by omega)
     have ppc:pc≠p:=λz=>by rw [z] at r4; unfold rdL at r4; rw [e4] at r4; cases r4
     walk_at "go";refine pL (z:=one d) (.inl e4) ?_;rw [lg.val d,jK];walk_at "go";refine gA (z:=one d) e4 hpl ?_;refine ⟨_,_,_,rfl,aY hp s4,by rw [zZ ppc]; exact r4,aD,lg.put d (aM f1 d+1),λc=>?_,by have:=dB kv1 (Sum.inr (one d)) (.int (aM f1 d+1)); omega⟩
     rw [bXE,jY hd];have h1:=hg c
     have h2:=hg d
     by_cases e:c=d
     · rw [if_pos e,if_pos e,e,h2]; omega
     · rw [if_neg e,if_neg e,h1]; omega
   · rintro σ H4 ⟨kv1,f1,v5,rfl,s4,r4,e4,lg,hg,hlj⟩;rw [Bu (by rw [Ab,Ab]; exact Ah _)] at hg
     rw [Ab,Ab] at hlj;refine ⟨kv1,f1,_,_,rfl,s4,e4,lg,λc=>?_,by omega⟩
     rw [hg c,hf0' c,uK hk,cX9];omega
 · rintro σ H2 ⟨kv0,f0,v4,v5,rfl,s2,e2,lk0,hf0',hl0⟩;rw [Bu (by rw [dU]; exact Ah _)] at hf0'
   walk_at "go";exact q p kv0 f0 H2 hp s2 e2 lk0 hf0'
theorem cX4 {c:Nat} (h:dL c):Builtin.Str.occurrences (Str.ofString "1234") (one c) 0 (Str.ofString "1234").length 1=[c - 49]:=by
 have q:∀ k:_root_.Fin 4,Builtin.Str.occurrences (Str.ofString "1234") (one (49+k.val)) 0 (Str.ofString "1234").length 1=[k.val]:=by decide +kernel
 unfold dL at h;have e:=q ⟨c - 49,by omega⟩
 rwa [show 49+(c - 49)=c by omega] at e
def tM:Sp:=λvs H Q _=>∃ (b:Addr) (cs:List Nat),vs=[.ref b]/\rdL H b=some ((cs.map one).map V.str)/\cK (cs.map one)=true/\Q (.str (bC (rdC cs))) H
theorem sc_l_read:FnScope ["_law_hoist_here", "_law_word_here", "_law_flag"] ["_law_hoist_here"] (aG iQ):=by walk_at "sc"
theorem aJ0 {Zw Zz Zx Zy:Addr} {f:Addr} {fd:FuncData} (F:Fun K "_law_read" "_law_read" iQ f fd) (G:Gs K mg Zw Zz Zx Zy)  : FnOk P w K mg base CX0 1 f fd ["_law_hoist_here"] tM:=by
 refine F.ok sc_l_read (λvs H Q E h=>?_) (λcdv A outer s H vs Q E hr h=>?_)
 · obtain ⟨b,cs,rfl,_⟩:=h; rfl
 obtain ⟨b,cs,rfl,hb,hh,q⟩:=h;refine ⟨_,(@aE _ _ _ _ _ (@aP _ _ 1 _ _ _ _ sc_l_read.nd (by rfl) (by exact (Or.inl rfl)) gG (by rfl) (by walk_at "o")) (@aE _ _ _ _ _ (bN Az rfl (bH (mv 0)) (aO (i:=2) sc_l_read.nd rfl (Or.inl rfl)) (@aI _ _ _ (cU (bB aXW (mv 2) gG (by rfl)) (@aI _ _ _ (@aP _ _ 1 _ _ _ _ sc_l_read.nd (by rfl) (by exact (Or.inl rfl)) (aX cB (mv 1) (bG cC (mv 1) (cV PySem.F.plainAttrs_str PySem.F.slot_str_index PySem.F.type_str_index aZS gG (aA (mv 2) aB)) (λ_ _=>rfl))) (by rfl) (by walk_at "o"))) (@aI _ _ _ (@aP _ _ 1 _ _ _ _ sc_l_read.nd (by rfl) (by exact (Or.inl rfl)) (aX cB (mv 1) (mv 2)) (by rfl) (by walk_at "o")))))) (@aI _ _ _ (aW (mv 1))))),?_⟩
 have h7:=fU hh
 rw [Ab] at h7;have hll:((cs.map one).map V.str).length=cs.length:=by rw [Ab,Ab]
 walk_at "go";refine cF (xs:=(cs.map one).map V.str) (λi σ H'=>∃ v,σ=[some (.ref b),some (.str (bC (rdC (cs.take i)))),v]/\H'=H)
   ⟨none,rfl,rfl⟩ (λi σ H' _ ⟨_,_,e⟩=>by rw [e]; exact hb) ?_ ?_
 · rintro i x σ H' hx ⟨v,rfl,rfl⟩;obtain ⟨c,hc,rfl⟩:=zF hx;obtain ⟨c',e1,_,hcc⟩:=lU hh (i:=i) (z:=one c) (by rw [Ag,hc]; rfl)
   rw [<-one_inj.mp e1] at hcc;have hi:i<cs.length:=(Ae.mp hc).1
   have hrl:(rdC (cs.take i)).length=i:=jJ (by omega)
   have hst:=nA hc
   generalize rdC (cs.take i)=wd at hrl hst ⊢;have hwl:(bC wd).length=i:=(fH wd).trans hrl
   walk_at "go";rw [if_neg Aq,show subIn (one c) (Str.ofString "1234")=decide (dL c) from lN c];refine iI (λhd=>?_) (λhd=>?_)
   · have hs:=Bg hd
     have hlt:c - 49<i:=(hcc.resolve_left λl=>iC l hs).2
     walk_at "go";refine aZC (cX4 hs) ?_;walk_at "go";have e1:atI (bC wd).cps.toList ((c - 49:Nat):Int)=some (wd.getD (c - 49) 0):=by
       refine eI ?_;rw [nM,Ac,Aa (by omega)]
       rfl
     have h2:(⟨#[wd.getD (c - 49) 0]⟩:Str).length=1:=rfl
     refine jV (by rw [hwl]; exact bP (by omega)) e1 ?_
     walk_at "go";refine ⟨some (.str (one c)),?_,rfl⟩;rw [hst,show stp wd c=wd.getD (c - 49) 0 from if_pos hs,<-jB];rfl
   · have hs:=Ca (Cd.mpr hd)
     have h2:(one c).length=1:=rfl
     walk_at "go";refine ⟨some (.str (one c)),?_,rfl⟩;rw [hst,show stp wd c=c from if_neg hs,<-jB];rfl
 · rintro σ H' ⟨v,rfl,rfl⟩;walk_at "go";rw [Bu (by rw [hll]; exact Ah _)]
   exact q
def oF:Sp:=λvs H Q _=>∃ (b:Addr) (us:List V) (hs:List (Option (List Nat))) (n:Nat),vs=[.ref b,.int ((n:Nat):Int)]/\rdL H b=some us/\HalsAt H us hs/\hs.length<=7/\
 ∀ (r:Addr) (H':Hp),H r=none->Same H H'->H' r=some (.lst ((aQ hs n).map λk=>V.int ((k:Nat):Int)))->Q (.ref r) H'
theorem wL:FnScope ["_law_halyards_here", "_law_number"] ["_law_halyards_here", "_law_number"] (aG eP):=by walk_at "sc"
theorem wO {Zw Zz Zx Zy:Addr} {f:Addr} {fd:FuncData} (F:Fun K "_law_others" "_law_others" eP f fd) (G:Gs K mg Zw Zz Zx Zy)  : FnOk P w K mg base CX0 1 f fd ["_law_halyards_here", "_law_number"] oF:=by
 refine F.ok wL (λvs H Q E h=>?_) (λcdv A outer s H vs Q E hr h=>?_)
 · obtain ⟨b,us,hs,n,rfl,_⟩:=h; rfl
 obtain ⟨b,us,hs,n,rfl,hb,hat,h7,q⟩:=h;refine ⟨_,(@aI _ _ _ (aW (cJ rfl (dW rfl G.b_range (aA (aU eE rfl G.b_len cI (aA (mv 0) aB)) aB)) (fI (N:=["_law_k", "_law_number", "_law_halyards_here"]) ["_law_halyards_here", "_law_number"] (aG eP) [none,some 1,some 0] rfl rfl rfl (λx h=>bU h) (by decide +kernel)) (by decide +kernel) rfl (by decide +kernel) (λC s₀ H₀ ex=>(aO (i:=0) (show List.Nodup (["_law_k", "_law_number", "_law_halyards_here"]:List Str) by decide +kernel) rfl (Or.inl rfl))) (λC s₀ H₀ ex=>(iG (PW.pt (vK (bB bZO (mv 0) (mv 1) (bI _)) (pE (bB uX (bG cC (mv 2) (mv 0) (λ_ _=>rfl)) gU (bI _))))))) (λC s₀ H₀ ex=>(mv 0))))),?_⟩
 have hul:=hat.len
 walk_at "go";refine ⟨⟨by omega,by omega⟩,?_⟩
 rw [show (((us.length:Nat):Int)).toNat=hs.length by rw [<-hul]; exact Dv _]
 refine bQM (oth hs n) (aV (by omega)) (λk Hc A B' hk sm hA hB'=>?_) (λD H6 hD s56 hd=>?_)
 · have hbc:=aH sm hb
   obtain ⟨v,av,_,hvc⟩:=(hat.keep sm).get hk;rw [show (0:Int)+(k:Int)=((k:Nat):Int) by omega]
   walk_at "go";refine ⟨Wk.set rfl (Wk.refl _),?_⟩;walk_at "go";by_cases hkn:k=n
   · rw [An (show ((k:Nat):Int)=((n:Nat):Int) by omega)]
     walk_at "go";exact hB' (by unfold oth; rw [An hkn,Bool.not_true,Bool.and_false]; rfl) _ (Same.refl _)
   · rw [Am (show ¬ ((k:Nat):Int)=((n:Nat):Int) by omega)]
     walk_at "go";refine cQ hbc av ?_;walk_at "go";cases eh:hs.getD k none with
     | none=>
       rw [eh] at hvc;obtain rfl:v=V.non:=hvc;rw [show decide (V.non=V.non)=true from rfl];walk_at "go";exact hB' (by unfold oth; rw [eh]; rfl) _ (Same.refl _)
     | some cs=>
       rw [eh] at hvc;obtain ⟨pk,rfl,_⟩:=hvc;rw [show decide (V.ref pk=V.non)=false from Am (λz=>nomatch z)]
       walk_at "go";exact hA _ (by unfold oth; rw [eh,Am hkn]; rfl) _ (Same.refl _)
 rw [bZX] at hd;exact q D H6 hD s56 hd
def pU:Sp:=λvs H Q _=>∃ (b l:Addr) (us:List V) (hs:List (Option (List Nat))) (cw ks:List Nat),vs=[.ref b,.str (bC cw),.ref l]/\rdL H b=some us/\HalsAt H us hs/\HalOk hs/\rdL H l=some (ks.map λk=>V.int ((k:Nat):Int))/\ks.length<=6/\(∀ k∈ks,k<hs.length/\(hs.getD k none).isSome=true)/\
 ∀ (r:Addr) (H':Hp),H r=none->Same H H'->H' r=some (.lst (((bW hs cw ks).map bC).map V.str))->Q (.ref r) H'
theorem aQ7:FnScope ["_law_halyards_here", "_law_word_here", "_law_numbers"] ["_law_halyards_here", "_law_word_here", "_law_numbers"] (aG fR):=by walk_at "sc"
theorem aQK {Zw Zz Zx Zy:Addr} {f:Addr} {fd:FuncData} (F:Fun K "_law_words" "_law_words" fR f fd) (G:Gs K mg Zw Zz Zx Zy) (c_l_read:Cal P w K mg base 1 "_law_read" ["_law_hoist_here"] tM):FnOk P w K mg base CX0 2 f fd ["_law_halyards_here", "_law_word_here", "_law_numbers"] pU:=by
 refine F.ok aQ7 (λvs H Q E h=>?_) (λcdv A outer s H vs Q E hr h=>?_)
 · obtain ⟨b,l,us,hs,cw,ks,rfl,_⟩:=h; rfl
 obtain ⟨b,l,us,hs,cw,ks,rfl,hb,hat,ok,hl,h6,hk,q⟩:=h;refine ⟨_,(@aI _ _ _ (aW (aX cB (bR (aA (mv 1) aB)) (cJ rfl (bH (mv 2)) (fI (N:=["_law_k", "_law_halyards_here"]) ["_law_halyards_here", "_law_word_here", "_law_numbers"] (aG fR) [none,some 0] rfl rfl rfl (λx h=>bU h) (by decide +kernel)) (by decide +kernel) rfl (by decide +kernel) (λC s₀ H₀ ex=>(aO (i:=0) (show List.Nodup (["_law_k", "_law_halyards_here"]:List Str) by decide +kernel) rfl (Or.inl rfl))) (λC s₀ H₀ ex=>fD) (λC s₀ H₀ ex=>(aZ c_l_read hr (by decide) rfl (aA (bG cC (mv 1) (mv 0) (λ_ _=>rfl)) aB))))))),?_⟩
 have hkl:(ks.map λk=>V.int ((k:Nat):Int)).length=ks.length:=dU ks
 walk_at "go";refine ⟨by show 1<=sizeLine; decide,λp hp=>?_⟩
 have s1:=aF hp (.lst [V.str (bC cw)])
 have e1:(upd H p (.lst [V.str (bC cw)])) p=some (.lst [V.str (bC cw)]):=aD
 generalize upd H p (.lst [V.str (bC cw)])=H1 at s1 e1 ⊢;have hl1:=aH s1 hl
 walk_at "go";refine kC (xs:=(ks.map λk=>V.int ((k:Nat):Int))) (λm=>(ks[m]?).map λk=>V.str (bC (rdC ((hs.getD k none).getD [])))) hl1 (aV (by omega)) (λm x Hc A B hxm sm hA hB=>?_) (λD H2 hD s2 hd=>?_)
 · obtain ⟨k,hk',rfl⟩:=jO hxm;obtain ⟨k1,k2⟩:=hk k (Ai hk');have hbc:=aH (s1.trans sm) hb
   obtain ⟨v,av,_,hvc⟩:=(hat.keep (s1.trans sm)).get k1;walk_at "go";refine ⟨Wk.set rfl (Wk.refl _),?_⟩;walk_at "go";refine cQ hbc av ?_;cases eh:hs.getD k none with
   | none=>rw [eh] at k2; cases k2
   | some cs=>
     rw [eh] at hvc;obtain ⟨pk,rfl,hpk⟩:=hvc;have hm:some cs∈hs:=by
       rw [Ac,Aa k1] at eh;rw [<-show hs[k]=some cs from eh];exact Bv k1
     walk_at "go";exact ⟨pk,cs,rfl,aL hpk,ok cs hm,hA _ (by rw [hk',Em,eh]; rfl) _ (Same.refl _)⟩
 rw [hkl,lX (λk=>V.str (bC (rdC ((hs.getD k none).getD [])))) ks] at hd;refine jH (bF (s2 _ _ e1)) (bF hd) (bP (by rw [Ab]; show 1+_<=_; omega)) λp3 hp3=>?_
 refine q p3 _ (bA (s1.trans s2) hp3) ((s1.trans s2).trans (aF hp3 _)) ?_;rw [aD];unfold bW;rw [Au,Au,By,By];rfl
theorem xL {cws:Q5} {k:Nat} (hk:k<cws.length):atI ((cws.map bC).map V.str) ((k:Nat):Int)=some (.str (bC (cws.getD k []))):=by
 obtain ⟨v,h1,h2⟩:=bXC (xs:=(cws.map bC).map V.str) (i:=((k:Nat):Int)) (by omega) (by rw [Ab,Ab]; omega)
 rw [Dv,Ag,Ag,Aa hk] at h2;rw [h1,<-h2,Ac,Aa hk];rfl
theorem xR {kvs:List (List Key×V)} {k:List Key} (h:¬ k∈kvs.map (·.1)):bZ kvs k=none:=by
 unfold bZ;have e:kvs.find? (λx=>decide (x.1=k))=none:=List.find?_eq_none.mpr λx hx=>by
   rw [Bp];intro e;exact h (Be.mpr ⟨x,hx,e⟩)
 rw [e];rfl
def kK:Sp:=λvs H Q _=>∃ (a b l1 l2:Addr) (kvs:List (Key×V)) (f:Nat->Option Int) (cws:List (List Nat)) (rs:List Addr) (W:List Wt) (F:List Nat),vs=[.ref a,.ref b,.ref l1,.ref l2]/\H a=some (.dK kvs)/\Lk kvs f/\(∀ c,0<=aM f c/\aM f c<=100000)/\rdL H b=some ((cws.map bC).map V.str)/\cws.length<=8/\(∀ c∈cws,c.length<=7)/\
 H l1=some (.lst (rs.map V.ref))/\WtsAt H rs W/\H l2=some (.lst ((F.map one).map V.str))/\LackOk cws (aM f) W F/\∀ H',Same H H'->Q (.bl true) H'
theorem sc_l_are_short:FnScope ["_law_locker_here", "_law_words_here", "_law_wants", "_law_flags", "_law_known", "_law_number", "_law_place", "_law_flag"] ["_law_locker_here", "_law_words_here", "_law_wants", "_law_flags"] (aG cT):=by walk_at "sc"
theorem qK {Zw Zz Zx Zy:Addr} {f:Addr} {fd:FuncData} (F:Fun K "_law_are_short" "_law_are_short" cT f fd) (G:Gs K mg Zw Zz Zx Zy) (c_l_choices:Cal P w K mg base 1 "_law_choices" ["_law_word_here", "_law_place"] jF):FnOk P w K mg base CX0 2 f fd ["_law_locker_here", "_law_words_here", "_law_wants", "_law_flags"] kK:=by
 refine F.ok sc_l_are_short (λvs H Q E h=>?_) (λcdv A outer s H vs Q E hr h=>?_)
 · obtain ⟨a,b,l1,l2,kvs,f,cws,rs,W,F,rfl,_⟩:=h; rfl
 obtain ⟨a,b,l1,l2,kvs,f,cws,rs,W,F,rfl,ha,lk,hf,hb,h8,h7,el1,hwt,el2,hlo,q⟩:=h;refine ⟨_,(@aE _ _ _ _ _ (@aP _ _ 4 _ _ _ _ sc_l_are_short.nd (by rfl) (by exact (Or.inl rfl)) qP (by rfl) (by walk_at "o")) (@aE _ _ _ _ _ (bN Az rfl (bH (mv 2)) (kX (K:=K) (i:=5) (j:=6) (by rfl) (by rfl) sc_l_are_short.nd (by rfl) (by exact (Or.inl rfl)) (by exact Or.inl rfl) (by rfl) (by exact (Or.inl rfl)) (by exact Or.inl rfl)) (@aE _ _ _ _ _ (cU (PW.pt (iW (bB (dQG (Room.u1 hr)) (kF (aA (mv 5) (aA (mv 6) aB))) (mv 4) (by rfl)) (iW (bB zE (mv 5) (bK bZN rfl G.b_range xZ (aA (aU eE rfl G.b_len cI (aA (mv 1) aB)) aB)) (by rfl)) (jG (bB zE (mv 6) (bK bZN rfl G.b_range xZ (aA aJ (aA (aX cB (aU eE rfl G.b_len cI (aA (bG cC (mv 1) (mv 5) (λ_ _=>rfl)) aB)) aJ) aB))) (by rfl)))))) (@aI _ _ _ (aW fO)) bO) (@aE _ _ _ _ _ (dR (Room.u1 hr) (mv 4) (kF (aA (mv 5) (aA (mv 6) aB))) fO rfl) (@aI _ _ _ (bN Az rfl (bH (aZ c_l_choices hr (by decide) rfl (aA (bG cC (mv 1) (mv 5) (λ_ _=>rfl)) (aA (mv 6) aB)))) (aO (i:=7) sc_l_are_short.nd rfl (Or.inl rfl)) (@aI _ _ _ (cU (bB bJP (mv 7) (mv 3) (by rfl)) (@aI _ _ _ (aW fO)) bO))))))) (@aE _ _ _ _ _ (cU (bB bZO (aU cQH rfl G.b_len cI (aA (bK (dQ7 rfl) rfl G.b_set (by decide +kernel) (aA (mv 3) aB)) aB)) (aU eE rfl G.b_len cI (aA (mv 3) aB)) (bI _)) (@aI _ _ _ (aW fO)) bO) (@aI _ _ _ (aW (nF cQ4 (aU eE rfl G.b_len cI (aA (mv 2) aB)) (aU (eXT rfl) rfl G.b_sum dJL (aA (cJ rfl (bH (mv 3)) (fI (N:=["_law_flag", "_law_locker_here"]) ["_law_locker_here", "_law_words_here", "_law_wants", "_law_flags", "_law_known", "_law_number", "_law_place", "_law_flag"] (aG cT) [none,some 0] rfl rfl rfl (λx h=>bU h) (by decide +kernel)) (by decide +kernel) rfl (by decide +kernel) (λC s₀ H₀ ex=>(aO (i:=0) (show List.Nodup (["_law_flag", "_law_locker_here"]:List Str) by decide +kernel) rfl (Or.inl rfl))) (λC s₀ H₀ ex=>fD) (λC s₀ H₀ ex=>(fJ Bt Co (qT (Room.u1 hr)) (mv 1) (aA (mv 0) (aA aJ aB))))) aB)) (bI _))))))),?_⟩
 have hll:((cws.map bC).map V.str).length=cws.length:=by rw [Ab,Ab]
 have hrl:(rs.map V.ref).length=W.length:=by rw [Ab,hwt.1]
 have ndF:=aX6 hlo
 have ndW:W.Nodup:=hlo.sub.nodup (lO cws cws.length)
 have hW56:W.length<=56:=Bc hlo.sub.length_le (Bc (mF h7 _) (by omega))
 have hF27:F.length<=27:=by
   obtain ⟨p,e⟩:=hlo.flags;rw [e];exact Bc (List.length_filter_le _ _) (by decide)
 have r1:=aL el1
 walk_at "go";intro pk hpk;have s1:=aF hpk (.dT [])
 have e1:(upd H pk (.dT [])) pk=some (.dT []):=aD
 generalize upd H pk (.dT [])=H1 at s1 e1 ⊢;have r11:=aH s1 r1
 walk_at "go";refine cF (xs:=rs.map V.ref) (λi σ H'=>∃ (kvt:List (List Key×V)) (v5 v6 v7:Option V),σ=[some (.ref a),some (.ref b),some (.ref l1),some (.ref l2),some (.ref pk),v5,v6,v7]/\Same H H'/\H' pk=some (.dT kvt)/\kvt.map (·.1)=(W.take i).map cL)
   ⟨[],_,_,_,rfl,s1,e1,rfl⟩ (λi σ H' _ ⟨_,_,_,_,_,e,_⟩=>aH e r1) ?_ ?_
 · rintro i x σ H2 hx ⟨kvt,v5,v6,v7,rfl,s2,e2,hkt⟩;have hi:i<W.length:=by have:=(Ae.mp hx).1; rw [hrl] at this; exact this
   have ew:W[i]?=some W[i]:=Aa hi
   rw [Ag] at hx;cases ep:rs[i]? with
   | none=>rw [ep] at hx; cases hx
   | some p=>
     rw [ep] at hx;cases hx;have htp:=s2 _ _ (hwt.2 i p W[i] ep ew)
     have hwm:=Ai ew
     have hnew:cL W[i] ∉ kvt.map (·.1):=λz=>by
       rw [hkt] at z;obtain ⟨u,hu,eu⟩:=Be.mp z;rw [kM eu] at hu;obtain ⟨j,hj⟩:=List.mem_iff_getElem?.mp hu;rw [List.getElem?_take] at hj;split at hj
       · rename_i hji
         have:=(List.getElem?_inj (by omega) ndW).mp (hj.trans ew.symm)
         omega
       · cases hj
     have hkl:kvt.length=i:=by
       have:=Cw List.length hkt
       rw [Ab,Ab,Bs] at this;omega
     obtain ⟨hw1,hw2,hw3⟩:=wlP_mem.mp (hlo.sub.subset hwm);have htk:(W.take (i+1)).map cL=(W.take i).map cL++[cL W[i]]:=by rw [Ba,ew,Ak]; rfl
     have hall:=hlo.all W[i] hwm
     generalize W[i]=w at htp hnew hw1 hw2 hw3 htk hall hwm;obtain ⟨wn,wp⟩:=w;have hw1:wn<cws.length:=hw1
     have hw2:1<=wp:=hw2
     have hw3:wp<=(cws.getD wn []).length:=hw3
     have hall:∀ c∈chs (cws.getD wn []) (wp - 1),c∈F:=hall
     have hcl:(bC (cws.getD wn [])).length=(cws.getD wn []).length:=fH _
     have hc7:(cws.getD wn []).length<=7:=by
       rw [Ac,Aa hw1];exact h7 _ (Bv hw1)
     have htp:H2 p=some (.tup [.int (wn:Int),.int (wp:Int)]):=htp
     have tt:=kY htp
     walk_at "go";refine ⟨by show 2<=sizeLine; decide,λt ht=>?_⟩
     have s3:=aF ht (HO.tup [V.int (wn:Int),V.int (wp:Int)])
     have t3:(upd H2 t (HO.tup [V.int (wn:Int),V.int (wp:Int)])) t=some (HO.tup ((cL (wn,wp)).map kV)):=aD
     have e3:=s3 _ _ e2
     generalize upd H2 t (HO.tup [V.int (wn:Int),V.int (wp:Int)])=H3 at s3 t3 e3 ⊢;refine dXB (neg:=false) (k:=cL (wn,wp)) (.inl e3) t3 ?_;rw [xR hnew,show (if false=true then !(none:Option V).isSome else (none:Option V).isSome)=false from rfl]
     have s03:=s2.trans s3
     have rb3:=aH s03 hb
     walk_at "go";rw [hll];refine cX0 λr4 hr4=>?_;have s4:=aF hr4 (HO.rng 0 ((cws.length:Nat):Int))
     have g4:(upd H3 r4 (HO.rng 0 ((cws.length:Nat):Int))) r4=some (HO.rng 0 ((cws.length:Nat):Int)):=aD
     have e4:=s4 _ _ e3
     generalize upd H3 r4 (HO.rng 0 ((cws.length:Nat):Int))=H4 at s4 g4 e4 ⊢;refine xC g4 ?_;rw [An (show (0:Int)<=(wn:Int)/\(wn:Int)<((cws.length:Nat):Int) from ⟨by omega,by omega⟩)]
     have s04:=s03.trans s4
     have rb4:=aH s04 hb
     walk_at "go";refine cQ rb4 (xL hw1) ?_;walk_at "go";rw [hcl];refine cXN λr5 hr5=>?_;have s5:=aF hr5 (HO.rng 1 (((cws.getD wn []).length:Int)+1))
     have g5:(upd H4 r5 (HO.rng 1 (((cws.getD wn []).length:Int)+1))) r5=some (HO.rng 1 (((cws.getD wn []).length:Int)+1)):=aD
     have e5:=s5 _ _ e4
     generalize upd H4 r5 (HO.rng 1 (((cws.getD wn []).length:Int)+1))=H5 at s5 g5 e5 ⊢;refine xC g5 ?_;rw [An (show (1:Int)<=(wp:Int)/\(wp:Int)<((cws.getD wn []).length:Int)+1 from ⟨by omega,by omega⟩)]
     have s05:=s04.trans s5
     walk_at "go";refine ⟨by show 2<=sizeLine; decide,λt2 ht2=>?_⟩
     have s6:=aF ht2 (HO.tup [V.int (wn:Int),V.int (wp:Int)])
     have t6:(upd H5 t2 (HO.tup [V.int (wn:Int),V.int (wp:Int)])) t2=some (HO.tup ((cL (wn,wp)).map kV)):=aD
     have e6:=s6 _ _ e5
     generalize upd H5 t2 (HO.tup [V.int (wn:Int),V.int (wp:Int)])=H6 at s6 t6 e6 ⊢;refine pC (k:=cL (wn,wp)) e6 t6 (aV (by omega)) ?_
     rw [iT _ (xR hnew)];have s07:Same H (upd H6 pk (.dT (kvt++[(cL (wn,wp),V.bl true)]))):=aY hpk (s05.trans s6)
     have e7:(upd H6 pk (.dT (kvt++[(cL (wn,wp),V.bl true)]))) pk=some (.dT (kvt++[(cL (wn,wp),V.bl true)])):=aD
     generalize upd H6 pk (.dT (kvt++[(cL (wn,wp),V.bl true)]))=H7 at s07 e7 ⊢;have rb7:=aH s07 hb
     walk_at "go";refine cQ rb7 (xL hw1) ?_;walk_at "go";refine ⟨cws.getD wn [],wp - 1,_,rfl,by omega,by omega,hc7,λrc H8 hrc s8 er8=>?_⟩
     have rc8:=aL er8
     walk_at "go";refine cF (xs:=((chs (cws.getD wn []) (wp - 1)).map one).map V.str) (λu σ H'=>∃ (v7:Option V),σ=[some (.ref a),some (.ref b),some (.ref l1),some (.ref l2),some (.ref pk),some (.int (wn:Int)),some (.int (wp:Int)),v7]/\Same H7 H'/\H' rc=some (.lst (((chs (cws.getD wn []) (wp - 1)).map one).map V.str)))
       ⟨_,rfl,s8,er8⟩ (λu σ H' _ ⟨_,_,_,e⟩=>aL e) ?_ ?_
     · rintro u x σ H9 hx ⟨v7,rfl,s9,er9⟩;obtain ⟨d,hdm,rfl⟩:∃ d,d∈chs (cws.getD wn []) (wp - 1)/\x=.str (one d):=by
         rw [Ag,Ag] at hx;cases e:(chs (cws.getD wn []) (wp - 1))[u]? with
         | none=>rw [e] at hx; cases hx
         | some d=>rw [e] at hx; cases hx; exact ⟨d,Ai e,rfl⟩
       have r9:=aH (s07.trans s9) (aL el2)
       walk_at "go";refine dQE (neg:=true) r9 rfl (dA _) ?_;rw [wR,An (hall d hdm),show (if true=true then !true else true)=false from rfl]
       walk_at "go";exact ⟨_,rfl,s9,er9⟩
     · rintro σ H9 ⟨v7,rfl,s9,er9⟩;walk_at "go";exact ⟨kvt++[(cL (wn,wp),V.bl true)],_,_,_,rfl,s07.trans s9,s9 _ _ e7,by rw [Ak,hkt,htk]; rfl⟩
 · rintro σ H2 ⟨kvt,v5,v6,v7,rfl,s2,e2,hkt⟩;have r2:=aL (s2 _ _ el2)
   have r12:=aL (s2 _ _ el1)
   have hFl:((F.map one).map V.str).length=F.length:=by rw [Ab,Ab]
   walk_at "go";refine dJN (zs:=F.map one) r2 (by rw [Ab]; omega) λrt hrt=>?_
   have hdn:uB (F.map one)=F.length:=by
     rw [yQ,Ab];exact List.pairwise_map.mpr (ndF.imp λh e=>h (one_inj.mp e))
   rw [hdn];have s3:=s2.trans (aF hrt (pK rt F.length))
   have r23:=aH (aF hrt (pK rt F.length)) r2
   have r13:=aH (aF hrt (pK rt F.length)) r12
   have es:(upd H2 rt (pK rt F.length)) rt=some (pK rt F.length):=aD
   generalize upd H2 rt (pK rt F.length)=H3 at s3 r23 r13 es ⊢;walk_at "go";refine bJQ es (by omega) ?_
   walk_at "go";rw [hFl,An rfl];walk_at "go";refine kC (xs:=(F.map one).map V.str) (λj=>(F[j]?).map λc=>V.int (aM f c)) r23 (by rw [hFl]; exact aV (by omega)) (λj x Hc A B hx sm hA hB=>?_) (λD Hd hD sd hr=>?_)
   · obtain ⟨d,hd,rfl⟩:∃ d,F[j]?=some d/\x=.str (one d):=by
       rw [Ag,Ag] at hx;cases e:F[j]? with
       | none=>rw [e] at hx; cases hx
       | some d=>rw [e] at hx; cases hx; exact ⟨d,rfl,rfl⟩
     have r:=hA (.int (aM f d)) (by rw [hd]; rfl)
     have hac:=sm _ _ (s3 _ _ ha)
     walk_at "go";refine ⟨Wk.set rfl (Wk.refl _),?_⟩;walk_at "go";refine pL (z:=one d) (.inl hac) ?_;rw [lk.val d,jK];exact r _ (Same.refl _)
   · have efm:(List.range ((F.map one).map V.str).length).filterMap (λj=>(F[j]?).map λc=>V.int (aM f c))=(F.map (aM f)).map V.int:=by
       rw [hFl,By];have h:∀ n,n<=F.length->(List.range n).filterMap (λj=>(F[j]?).map λc=>V.int (aM f c))=(F.take n).map (V.int ∘ aM f):=λn=>by
         induction n with
         | zero=>intro _; rfl
         | succ n ih=>
           intro hn;have e:F[n]?=some F[n]:=Aa (by omega)
           rw [eG (y:=V.int (aM f F[n])) (by rw [e]; rfl),ih (by omega),Ba,e,Ak]
           rfl
       have r:=h F.length (Ah _)
       rw [Bl] at r;exact r
     rw [efm] at hr;walk_at "go";refine eXD (aL hr) (λn hn=>by obtain ⟨c,_,rfl⟩:=Be.mp hn; have:=hf c; omega) (by rw [Ab]; omega) ?_
     walk_at "go";rw [hrl,An (show ((W.length:Nat):Int) > (F.map (aM f)).sum from hlo.few)];exact q _ (s3.trans sd)
theorem pR {α:Type} (d:α) (l:List α):(List.range l.length).map (λk=>l.getD k d)=l:=by
 refine List.ext_getElem (by rw [Ab,Bz]) λi h1 h2=>?_
 rw [Fy,List.getElem_range,Ac,Aa h2];rfl
def cY:Nat->List (List Nat)
 | 0=>[[]]
 | n+1=>cY n++(cY n).map λl=>l++[n]
def sG (n m:Nat):List Nat:=(List.range (cY n).length).filter λj=>decide (((cY n).getD j []).length=m)
def dN (n m:Nat):List (List Nat):=(sG n m).map λj=>(cY n).getD j []
def iS (L:List (List Nat)):List (List Int):=L.map λl=>l.map λk=>((k:Nat):Int)
def okN:Bool:=(List.range 7).all λn=>(List.range 9).all λm=>bQ4 (iS (dN n m)) && ((kO (iS (dN n m))).map λi=>(dN n m).getD i []) == bM (List.range n) m && decide ((dN n m).length<64)
theorem dXF:okN=true:=by decide +kernel
theorem bXW {n m:Nat} (hn:n<=6) (hm:m<=8):bQ4 (iS (dN n m))=true/\((kO (iS (dN n m))).map λi=>(dN n m).getD i [])=bM (List.range n) m/\(dN n m).length<64:=by
 have h:=dXF
 unfold okN at h;have h1:=Cq.mp h n (Bm.mpr (by omega))
 have h2:=Cq.mp h1 m (Bm.mpr (by omega))
 rw [Cs,Cs,beq_iff_eq,decide_eq_true_eq] at h2;exact ⟨h2.1.1,h2.1.2,h2.2⟩
theorem tF:∀ n,(cY n).length=2 ^ n
 | 0=>rfl
 | n+1=>by rw [cY,Aj,Ab,tF n,Nat.pow_succ]; omega
theorem sX {n:Nat} (h:n<=6):(cY n).length<=64:=by
 rw [tF];exact Fv (by decide) h
theorem rB:∀ {n:Nat} {l:List Nat},l∈cY n->l.length<=n
 | 0,l,h=>by rw [Aw.mp h]; exact Ah _
 | n+1,l,h=>by
   rw [cY] at h;rcases Bk.mp h with e | e
   · have:=rB e; omega
   · obtain ⟨l',h1,rfl⟩:=Be.mp e;have:=rB h1
     rw [Aj];show _+1<=_
     omega
theorem bZ5 (k:Nat) (L:Q5):(List.range L.length).map (λj=>((L.getD j []).map λk=>V.int ((k:Nat):Int))++[V.int (0+((k:Nat):Int))])=(L.map λl=>l++[k]).map λl=>(l.map λk=>V.int ((k:Nat):Int)):=by
 rw [By];have e:=Cw (List.map ((λl=>(l.map λk=>V.int ((k:Nat):Int))) ∘ λl:List Nat=>l++[k])) (pR [] L)
 rw [By] at e;refine Eq.trans (Cp λj _=>?_) e;show _=((L.getD j []++[k]).map λk=>V.int ((k:Nat):Int))
 rw [Ak,Int.zero_add];rfl
theorem cJO {H H':Hp} {ps:List Addr} {L:Q5} (ls:Lsts H H' ps (L.map λl=>(l.map λk=>V.int ((k:Nat):Int)))) {j:Nat} (hj:j<L.length):H (ps.getD j 0)=none/\H' (ps.getD j 0)=some (.lst ((L.getD j []).map λk=>V.int ((k:Nat):Int))):=by
 have hl:ps.length=L.length:=by rw [ls.1,Ab]
 refine ls.2 j _ _ ?_ ?_
 · rw [Ac,Aa (by omega)]
   rfl
 · rw [Ag,Ac,Aa hj];rfl
theorem sS {α:Type} (c:Nat->Prop) [DecidablePred c] (g:Nat->α):∀ L:List Nat,L.filterMap (λj=>if c j then some (g j) else none)=(L.filter λj=>decide (c j)).map g
 | []=>rfl
 | x::r=>by
   have ih:=sS c g r
   by_cases h:c x
   · simp only [List.filterMap_cons,List.filter_cons,h,if_true,decide_true,List.map_cons,ih]
   · simp only [List.filterMap_cons,List.filter_cons,h,if_false,decide_false,ih,Bool.false_eq_true]
theorem cXX {n m j:Nat} (h:j∈sG n m):j<(cY n).length:=Bm.mp (Da.mp h).1
theorem oA (l:List Nat):(l.map λk=>((k:Nat):Int)).map V.int=(l.map λk=>V.int ((k:Nat):Int)):=by rw [By]; rfl
theorem aZJ {H H':Hp} {ps:List Addr} {n m:Nat} (ls:Lsts H H' ps ((cY n).map λl=>(l.map λk=>V.int ((k:Nat):Int)))) {i:Nat} (hi:i<(dN n m).length):H (((sG n m).map λj=>ps.getD j 0).getD i 0)=none/\H' (((sG n m).map λj=>ps.getD j 0).getD i 0)=some (.lst (((dN n m).getD i []).map λk=>V.int ((k:Nat):Int))):=by
 have hi':i<(sG n m).length:=by unfold dN at hi; rwa [Ab] at hi
 have e:=Aa hi'
 have r:=cJO ls (cXX (Bv hi'))
 unfold dN;rw [Ac,Ag,e,Ac (l:=(sG n m).map λj=>(cY n).getD j []),Ag,e];exact r
def rG:Sp:=λvs H Q _=>∃ (n m:Nat),vs=[.int ((n:Nat):Int),.int ((m:Nat):Int)]/\n<=6/\m<=8/\
 ∀ (r:Addr) (ps:List Addr) (H':Hp),H r=none->Same H H'->H' r=some (.lst (ps.map V.ref))->Lsts H H' ps ((bM (List.range n) m).map λl=>(l.map λk=>V.int ((k:Nat):Int)))->Q (.ref r) H'
theorem sc_l_lists:FnScope ["_law_many", "_law_size", "_law_found", "_law_k"] ["_law_many", "_law_size"] (aG eW):=by walk_at "sc"
theorem aQ0 {Zw Zz Zx Zy:Addr} {f:Addr} {fd:FuncData} (F:Fun K "_law_lists" "_law_lists" eW f fd) (G:Gs K mg Zw Zz Zx Zy)  : FnOk P w K mg base CX0 1 f fd ["_law_many", "_law_size"] rG:=by
 refine F.ok sc_l_lists (λvs H Q E h=>?_) (λcdv A outer s H vs Q E hr h=>?_)
 · obtain ⟨n,m,rfl,_⟩:=h; rfl
 obtain ⟨n,m,rfl,hn,hm,q⟩:=h;refine ⟨_,(@aE _ _ _ _ _ (@aP _ _ 2 _ _ _ _ sc_l_lists.nd (by rfl) (by exact (Or.inl rfl)) (bR (aA (bR aB) aB)) (by rfl) (by walk_at "o")) (@aE _ _ _ _ _ (bN Az rfl (dW rfl G.b_range (aA (mv 0) aB)) (aO (i:=3) sc_l_lists.nd rfl (Or.inr rfl)) (@aI _ _ _ (@aP _ _ 2 _ _ _ _ sc_l_lists.nd (by rfl) (by exact (Or.inl rfl)) (aX cB (mv 2) (cJ rfl (bH (mv 2)) (fI (N:=["_law_some", "_law_k"]) ["_law_many", "_law_size", "_law_found", "_law_k"] (aG eW) [none,some 3] rfl rfl rfl (λx h=>bU h) (by decide +kernel)) (by decide +kernel) rfl (by decide +kernel) (λC s₀ H₀ ex=>(aO (i:=0) (show List.Nodup (["_law_some", "_law_k"]:List Str) by decide +kernel) rfl (Or.inl rfl))) (λC s₀ H₀ ex=>fD) (λC s₀ H₀ ex=>(aX cB (mv 0) (bR (aA (mv 1) aB)))))) (by rfl) (by walk_at "o")))) (@aI _ _ _ (aW (aU (aQX (Et (Nat.add_le_add_left (by decide) _) hr.units)) rfl G.b_sorted sZ (aA (cJ rfl (bH (mv 2)) (fI (N:=["_law_some", "_law_size"]) ["_law_many", "_law_size", "_law_found", "_law_k"] (aG eW) [none,some 1] rfl rfl rfl (λx h=>bU h) (by decide +kernel)) (by decide +kernel) rfl (by decide +kernel) (λC s₀ H₀ ex=>(aO (i:=0) (show List.Nodup (["_law_some", "_law_size"]:List Str) by decide +kernel) rfl (Or.inl rfl))) (λC s₀ H₀ ex=>(iG (bB uT (aU eE rfl G.b_len cI (aA (mv 0) aB)) (mv 1) (bI _)))) (λC s₀ H₀ ex=>(mv 0))) aB)))))),?_⟩
 walk_at "go";refine ⟨by decide,λp hp=>?_⟩
 have s1:=aF hp (.lst [])
 have e1:(upd H p (.lst [])) p=some (.lst ((([]:List Nat)).map λk=>V.int ((k:Nat):Int))):=aD
 generalize upd H p (.lst [])=H1 at s1 e1 ⊢;walk_at "go";refine ⟨by show 1<=sizeLine; decide,λr hr=>?_⟩
 have s2:=aF hr (.lst [.ref p])
 have e2:(upd H1 r (.lst [.ref p])) r=some (.lst ([p].map V.ref)):=aD
 have ls2:Lsts H (upd H1 r (.lst [.ref p])) [p] ((cY 0).map λl=>(l.map λk=>V.int ((k:Nat):Int))):=Lsts.snoc (ps:=[]) (fs:=[]) .nil hp (s2 _ _ e1)
 generalize upd H1 r (.lst [.ref p])=H2 at s2 e2 ls2 ⊢;walk_at "go";refine ⟨⟨by omega,by omega⟩,?_⟩
 rw [show ((n:Nat):Int).toNat=n from Dv _];refine gC (λi σ H'=>∃ (r:Addr) (ps:List Addr) (v3:Option V),σ=[some (.int ((n:Nat):Int)),some (.int ((m:Nat):Int)),some (.ref r),v3]/\Same H H'/\H r=none/\H' r=some (.lst (ps.map V.ref))/\Lsts H H' ps ((cY i).map λl=>(l.map λk=>V.int ((k:Nat):Int))))
   ⟨r,[p],_,rfl,s1.trans s2,bA s1 hr,e2,ls2⟩ ?_ ?_
 · rintro i σ H3 hi ⟨r3,ps,v3,rfl,s3,hr3,e3,ls⟩;replace hi:i<n:=hi
   have hsl:=sX (n:=i) (by omega)
   have hpl:ps.length=(cY i).length:=by rw [ls.1,Ab]
   have r3':=aL e3
   walk_at "go";refine aX4 (λj=>(((cY i).getD j []).map λk=>V.int ((k:Nat):Int))++[V.int (0+((i:Nat):Int))]) r3' (aV (by rw [Ab]; omega)) (λj x Hc A B hx sm hA=>?_) (λD Hd us hD sd eD hul lu nu=>?_)
   · obtain ⟨u,eu,rfl⟩:=dE hx;have hj:j<(cY i).length:=by rw [<-hpl]; exact (Ae.mp eu).1
     obtain ⟨l,el⟩:∃ l,(cY i)[j]?=some l:=⟨_,Aa hj⟩;have hu:=sm _ _ (ls.2 j u (l.map λk=>V.int ((k:Nat):Int)) eu (by rw [Ag,el]; rfl)).2
     have hll:=rB (Ai el)
     have hgl:(cY i).getD j []=l:=by rw [Ac,el]; rfl
     rw [hgl] at hA;walk_at "go";refine ⟨Wk.set rfl (Wk.refl _),?_⟩;walk_at "go";refine ⟨by show 1<=sizeLine; decide,λp6 hp6=>?_⟩
     have s6:=aF hp6 (.lst [V.int (0+((i:Nat):Int))])
     have e6:(upd Hc p6 (.lst [V.int (0+((i:Nat):Int))])) p6=some (.lst [V.int (0+((i:Nat):Int))]):=aD
     have hu6:=s6 _ _ hu
     generalize upd Hc p6 (.lst [V.int (0+((i:Nat):Int))])=H6 at s6 e6 hu6 ⊢;refine jH (bF hu6) (bF e6) (bP (by rw [Ab]; show _+1<=_; omega)) λp7 hp7=>?_
     exact hA p7 _ (bA s6 hp7) (s6.trans (aF hp7 _)) aD
   · rw [Ab,hpl,bZ5] at lu;rw [Ab] at hul;have s3d:=s3.trans sd
     refine jH (bF (sd _ _ e3)) (bF eD) (bP (by rw [Ab,Ab]; omega)) λr4 hr4=>?_
     have s4:=aF hr4 (.lst (ps.map V.ref++us.map V.ref))
     walk_at "go";refine ⟨r4,ps++us,_,rfl,s3d.trans s4,bA s3d hr4,by rw [Ak]; exact aD,?_⟩
     rw [cY,Ak];exact ((ls.keep sd).app (lu.older s3)).keep s4
 · rintro σ H3 ⟨r3,ps,v3,rfl,s3,hr3,e3,ls⟩;have hsl:=sX hn
   have hpl:ps.length=(cY n).length:=by rw [ls.1,Ab]
   obtain ⟨ok1,ok2,ok3⟩:=bXW hn hm;have r3':=aL e3
   walk_at "go";refine kC (λj=>if ((cY n).getD j []).length=m then some (V.ref (ps.getD j 0)) else none) r3' (aV (by rw [Ab]; omega)) (λj x Hc A B hx sm hA hB=>?_) (λD Hd hD sd eD=>?_)
   · obtain ⟨u,eu,rfl⟩:=dE hx;have hj:j<(cY n).length:=by rw [<-hpl]; exact (Ae.mp eu).1
     have hu:=aL (sm _ _ (cJO ls hj).2)
     rw [show ps.getD j 0=u by rw [Ac,eu]; rfl] at hu hA hB
     walk_at "go";refine ⟨Wk.set rfl (Wk.refl _),?_⟩;walk_at "go";rw [Ab];by_cases hlm:((cY n).getD j []).length=m
     · rw [show decide (((((cY n).getD j []).length:Nat):Int)=((m:Nat):Int))=true from An (by omega)]
       walk_at "go";exact hA _ (if_pos hlm) _ (Same.refl _)
     · rw [show decide (((((cY n).getD j []).length:Nat):Int)=((m:Nat):Int))=false from Am (by omega)]
       walk_at "go";exact hB (if_neg hlm) _ (Same.refl _)
   · rw [Ab,hpl,sS] at eD;have eD2:Hd D=some (.lst (((sG n m).map λj=>ps.getD j 0).map V.ref)):=by
       rw [By];exact eD
     have hql:((sG n m).map λj=>ps.getD j 0).length=(iS (dN n m)).length:=by unfold iS dN; rw [Ab,Ab,Ab]
     have hcl:(iS (dN n m)).length=(dN n m).length:=Ab ..
     refine zT (ks:=iS (dN n m)) (aL eD2) hql (λi p k hp hk=>?_) (by omega) ok1 λr5 hr5=>?_
     · have hi:i<(dN n m).length:=by rw [<-hcl]; exact (Ae.mp hk).1
       have h1:=sd _ _ (aZJ ls hi).2
       rw [Ac,hp] at h1;unfold iS at hk;rw [Ag,Aa hi] at hk;cases hk;rw [oA];rw [Ac,Aa hi] at h1;exact aL h1
     · have s5:=aF hr5 (.lst ((kO (iS (dN n m))).map λi=>V.ref (((sG n m).map λj=>ps.getD j 0).getD i 0)))
       refine q r5 ((kO (iS (dN n m))).map λi=>((sG n m).map λj=>ps.getD j 0).getD i 0) _ (bA (s3.trans sd) hr5) (s3.trans (sd.trans s5)) (by rw [By]; exact aD) ?_
       rw [<-ok2,By];have hord:∀ i∈kO (iS (dN n m)),i<(dN n m).length:=λi hi=>by
         have o:=ok1
         unfold bQ4 at o;rw [Cs,Cs] at o;rw [<-hcl];exact Bg (Cq.mp o.1.2 i hi)
       refine ⟨by rw [Ab,Ab],λt p g hp hg=>?_⟩
       rw [Ag] at hp hg;cases eo:(kO (iS (dN n m)))[t]? with
       | none=>rw [eo] at hp; cases hp
       | some i=>
         rw [eo] at hp hg;cases hp;cases hg;have r:=aZJ ls (hord i (Ai eo))
         exact ⟨r.1,(sd.trans s5) _ _ r.2⟩
def bQ1 (os l:List Nat):List Nat:=l.map λk=>os.getD k 0
def fP (l:List Nat):List Int:=l.map λk=>((k:Nat):Int)
theorem zN (hs:Q3) (n:Nat):(aQ hs n).Pairwise (· < ·):=List.Pairwise.sublist Ep Fi
theorem aZQ:∀ a:List Int,ltZ a a=false
 | []=>rfl
 | x::r=>by
   show (if x=x then ltZ r r else decide (x<x))=false
   rw [if_pos rfl,aZQ r]
theorem xT:∀ {a b:List Int},ltZ a b=true->ltZ b a=false
 | [],[],_=>rfl
 | [],_::_,_=>rfl
 | _::_,[],h=>by cases h
 | x::r,y::s,h=>by
   have h':(if x=y then ltZ r s else decide (x<y))=true:=h
   show (if y=x then ltZ s r else decide (y<x))=false
   by_cases e:x=y
   · rw [if_pos e] at h';rw [if_pos e.symm];exact xT h'
   · rw [if_neg e] at h';rw [if_neg (λz=>e z.symm)];have:=Bg h'
     exact Am (by omega)
theorem wU:∀ (m:Nat) {os:List Nat},os.Pairwise (· < ·)->(bM os m).Pairwise λa b=>ltZ (fP a) (fP b)=true
 | 0,os,_=>by rw [eT]; exact List.pairwise_singleton _ _
 | m+1,os,ho=>by
   rw [eK,List.pairwise_flatMap];refine ⟨λj _=>?_,?_⟩
   · rw [List.pairwise_map];refine (wU m (ho.sublist (List.drop_sublist _ _))).imp fun {a b} h=>?_;show (if ((os.getD j 0:Nat):Int)=((os.getD j 0:Nat):Int) then ltZ (fP a) (fP b) else _)=true
     rw [if_pos rfl];exact h
   · refine List.Pairwise.imp_of_mem (fun {i j} hi hj hij x hx y hy=>?_) (Fi (n:=os.length));obtain ⟨a,_,rfl⟩:=Be.mp hx;obtain ⟨b,_,rfl⟩:=Be.mp hy;have h1:=Bm.mp hi
     have h2:=Bm.mp hj
     have hlt:os.getD i 0<os.getD j 0:=by
       rw [Ac,Aa h1,Ac,Aa h2];exact Ea.mp ho i j h1 h2 hij
     show (if ((os.getD i 0:Nat):Int)=((os.getD j 0:Nat):Int) then ltZ (fP a) (fP b) else decide (((os.getD i 0:Nat):Int)<((os.getD j 0:Nat):Int)))=true
     rw [if_neg (by omega)]
     exact An (by omega)
theorem nO {α β:Type} {f g:α->List β}:∀ {L:List α},(∀ x∈L,f x=g x)->L.flatMap f=L.flatMap g
 | [],_=>rfl
 | x::r,h=>by rw [El,El,h x As,nO λy hy=>h y (Ao _ hy)]
theorem sK (h:Nat->Nat):∀ (m:Nat) (l:List Nat),bM (l.map h) m=(bM l m).map λx=>x.map h
 | 0,l=>by rw [eT,eT]; rfl
 | m+1,l=>by
   rw [eK,eK,Ab,List.map_flatMap];refine nO λj hj=>?_;have hj':=Bm.mp hj
   rw [By,<-List.map_drop,sK h m,By];refine Cp λx _=>?_;show (l.map h).getD j 0::x.map h=h (l.getD j 0)::x.map h
   rw [Ac,Ag,Aa hj',Ac,Aa hj'];rfl
theorem aQ5 (os:List Nat):(List.range os.length).map (λk=>os.getD k 0)=os:=by
 refine List.ext_getElem (by rw [Ab,Bz]) λi h1 h2=>?_
 rw [Fy,List.getElem_range,Ac,Aa h2];rfl
theorem aJ8 (os:List Nat) (m:Nat):(bM (List.range os.length) m).map (bQ1 os)=bM os m:=by
 have e:=sK (λk=>os.getD k 0) m (List.range os.length)
 rw [aQ5] at e;exact e.symm
def gH (ks l:List Nat):Bool:=decide (l.length<ks.length) || ltZ (fP l) (fP ks)
theorem zV (os:List Nat) {m:Nat} (hm:m<=os.length):∃ B,bV os=dZ os (m+1)++B/\∀ l∈B,m<l.length:=by
 refine ⟨(List.range' (m+1) (os.length - m)).flatMap λk=>bM os k,?_,λl hl=>?_⟩
 · unfold bV dZ;rw [<-Dh];congr 1
   rw [List.range_eq_range',List.range_eq_range'];have:=List.range'_append (s:=0) (m:=m+1) (n:=os.length - m) (step:=1)
   rw [show 0+1 * (m+1)=m+1 by omega,show m+1+(os.length - m)=os.length+1 by omega] at this
   exact this.symm
 · obtain ⟨k,hk,hl'⟩:=Ff.mp hl;rw [(mem_combs.mp hl').2];have:=List.mem_range'.mp hk
   omega
theorem sQ {p:List Nat->Bool}:∀ {A:Q5} {j:Nat},j<=A.length->(∀ (i:Nat) x,A[i]?=some x->(p x=true ↔ i<j))->A.filter p=A.take j
 | [],j,hj,_=>by rw [List.take_nil]; rfl
 | a::r,0,_,h=>by
   rw [Ej,Gz];intro x hx z;obtain ⟨i,hi⟩:=List.mem_iff_getElem?.mp hx;exact Fa _ ((h i x hi).mp z)
 | a::r,j+1,hj,h=>by
   rw [List.filter_cons_of_pos ((h 0 a rfl).mpr (Nat.succ_pos _)),List.take_succ_cons,sQ (A:=r) (j:=j) (Nat.le_of_succ_le_succ hj) λi x hi=>by
     have:=h (i+1) x hi
     exact ⟨λq=>Nat.lt_of_succ_lt_succ (this.mp q),λq=>this.mpr (Nat.succ_lt_succ q)⟩]
theorem bJA {os ks:List Nat} {j:Nat} (ho:os.Pairwise (· < ·)) (h:(bV os)[j]?=some ks):(dZ os (ks.length+1)).filter (gH ks)=(bV os).take j:=by
 have hsub:=mem_sets.mp (Ai h)
 obtain ⟨B,hB,hBl⟩:=zV os hsub.length_le;have hjA:j<(dZ os (ks.length+1)).length:=by
   refine Nat.lt_of_not_le λz=>?_;rw [hB,Av z] at h;exact Di _ (hBl ks (Ai h))
 rw [hB,Ap hjA] at h;rw [hB,List.take_append_of_le_length (De hjA)];have hpw:(dZ os (ks.length+1)).Pairwise λa b=>a.length<b.length\/(a.length=b.length/\ltZ (fP a) (fP b)=true):=by
   unfold dZ;rw [List.pairwise_flatMap];refine ⟨λm _=>List.Pairwise.imp_of_mem (fun {a b} ha hb hab=>.inr ⟨by rw [(mem_combs.mp ha).2,(mem_combs.mp hb).2],hab⟩) (wU m ho),(Fi (n:=ks.length+1)).imp fun {a b} hab x hx y hy=>.inl (by rw [(mem_combs.mp hx).2,(mem_combs.mp hy).2]; exact hab)⟩
 refine sQ (De hjA) λi x hx=>?_;obtain ⟨hi,ei⟩:=Ae.mp hx;obtain ⟨hj,ej⟩:=Ae.mp h;have hxl:x.length<=ks.length:=by
   obtain ⟨m,hm,hx'⟩:=Ff.mp (Ai hx);rw [(mem_combs.mp hx').2];have:=Bm.mp hm
   omega
 unfold gH;by_cases hij:i<j
 · have:=Ea.mp hpw i j hi hj hij
   rw [ei,ej] at this;refine ⟨λ_=>hij,λ_=>?_⟩;rcases this with q | ⟨_,q⟩
   · rw [An q,Bool.true_or]
   · rw [q,Bool.or_true]
 · refine ⟨λz=>?_,λz=>absurd z hij⟩;exfalso
   by_cases e:i=j
   · subst e;rw [ei] at ej;rw [ej,aZQ,Am (Di _)] at z;cases z
   · have:=Ea.mp hpw j i hj hi (by omega)
     rw [ei,ej] at this;rcases this with q | ⟨q1,q2⟩
     · omega
     · rw [xT q2,Am (by omega)] at z
       cases z
def RowsAt (H:Hp) (ts:List Addr) (L:List (List Nat)):Prop:=ts.length=L.length/\∀ (j:Nat) u l,ts[j]?=some u->L[j]?=some l->H u=some (.lst (l.map λk=>V.int ((k:Nat):Int)))
theorem RowsAt.keep {H H':Hp} {ts:List Addr} {L:Q5} (h:RowsAt H ts L) (s:∀ p xs,p∈ts->H p=some (.lst xs)->H' p=some (.lst xs)):RowsAt H' ts L:=⟨h.1,λj u l hu hl=>s _ _ (Ai hu) (h.2 j u l hu hl)⟩
theorem RowsAt.snoc {H:Hp} {ts:List Addr} {L:Q5} {u:Addr} {l:List Nat} (h:RowsAt H ts L) (e:H u=some (.lst (l.map λk=>V.int ((k:Nat):Int)))):RowsAt H (ts++[u]) (L++[l]):=by
 refine ⟨by rw [Aj,Aj,h.1]; rfl,λj v m hv hm=>?_⟩
 by_cases hj:j<ts.length
 · rw [Ap hj] at hv;rw [Ap (by rw [<-h.1]; exact hj)] at hm
   exact h.2 j v m hv hm
 · rw [Av (by omega)] at hv
   rw [Av (by rw [<-h.1]; omega),<-h.1] at hm
   cases ej:j - ts.length with
   | zero=>rw [ej] at hv hm; cases hv; cases hm; exact e
   | succ k=>rw [ej] at hv; cases hv
def ahL (os:List Nat) (i:Nat):List (List Nat):=((List.range i).flatMap λm=>bM (List.range os.length) m).map (bQ1 os)
theorem bXL (os:List Nat) (i:Nat):ahL os i=dZ os i:=by
 unfold ahL dZ;rw [List.map_flatMap];exact nO λm _=>aJ8 os m
theorem bXN (os:List Nat) (i:Nat):ahL os (i+1)=ahL os i++(bM (List.range os.length) i).map (bQ1 os):=by
 unfold ahL;rw [Ci,Dh,Ak];simp
def qE:Sp:=λvs H Q _=>∃ (b c:Addr) (os ks:List Nat),vs=[.ref b,.ref c]/\rdL H b=some (os.map λk=>V.int ((k:Nat):Int))/\rdL H c=some (ks.map λk=>V.int ((k:Nat):Int))/\os.length<=6/\ks.length<=6/\
 ∀ (r:Addr) (ts:List Addr) (H':Hp),Same H H'->H' r=some (.lst (ts.map V.ref))->RowsAt H' ts ((dZ os (ks.length+1)).filter (gH ks))->Q (.ref r) H'
theorem sc_l_ahead:FnScope ["_law_others_here", "_law_lowered", "_law_found", "_law_size", "_law_some"] ["_law_others_here", "_law_lowered"] (aG eX):=by walk_at "sc"
theorem aQR {Zw Zz Zx Zy:Addr} {f:Addr} {fd:FuncData} (F:Fun K "_law_ahead" "_law_ahead" eX f fd) (G:Gs K mg Zw Zz Zx Zy) (c_l_lists:Cal P w K mg base 1 "_law_lists" ["_law_many", "_law_size"] rG):FnOk P w K mg base CX0 2 f fd ["_law_others_here", "_law_lowered"] qE:=by
 refine F.ok sc_l_ahead (λvs H Q E h=>?_) (λcdv A outer s H vs Q E hr h=>?_)
 · obtain ⟨b,c,os,ks,rfl,_⟩:=h; rfl
 obtain ⟨b,c,os,ks,rfl,hb,hc,ho,hk,q⟩:=h;refine ⟨_,(@aE _ _ _ _ _ (@aP _ _ 2 _ _ _ _ sc_l_ahead.nd (by rfl) (by exact (Or.inl rfl)) (bR aB) (by rfl) (by walk_at "o")) (@aE _ _ _ _ _ (bN Az rfl (dW rfl G.b_range (aA (aX cB (aU eE rfl G.b_len cI (aA (mv 1) aB)) aJ) aB)) (aO (i:=3) sc_l_ahead.nd rfl (Or.inl rfl)) (@aI _ _ _ (bN Az rfl (bH (aZ c_l_lists hr (by decide) rfl (aA (aU eE rfl G.b_len cI (aA (mv 0) aB)) (aA (mv 3) aB)))) (aO (i:=4) sc_l_ahead.nd rfl (Or.inl rfl)) (@aI _ _ _ (cG (cV Bj Cf Cg mX (mv 2) (aA (cJ rfl (bH (mv 4)) (fI (N:=["_law_k", "_law_others_here"]) ["_law_others_here", "_law_lowered", "_law_found", "_law_size", "_law_some"] (aG eX) [none,some 0] rfl rfl rfl (λx h=>bU h) (by decide +kernel)) (by decide +kernel) rfl (by decide +kernel) (λC s₀ H₀ ex=>(aO (i:=0) (show List.Nodup (["_law_k", "_law_others_here"]:List Str) by decide +kernel) rfl (Or.inl rfl))) (λC s₀ H₀ ex=>fD) (λC s₀ H₀ ex=>(bG cC (mv 1) (mv 0) (λ_ _=>rfl)))) aB))))))) (@aI _ _ _ (aW (cJ rfl (bH (mv 2)) (fI (N:=["_law_some", "_law_lowered"]) ["_law_others_here", "_law_lowered", "_law_found", "_law_size", "_law_some"] (aG eX) [none,some 1] rfl rfl rfl (λx h=>bU h) (by decide +kernel)) (by decide +kernel) rfl (by decide +kernel) (λC s₀ H₀ ex=>(aO (i:=0) (show List.Nodup (["_law_some", "_law_lowered"]:List Str) by decide +kernel) rfl (Or.inl rfl))) (λC s₀ H₀ ex=>(iG (PW.pt (iW (bB bQB (aU eE rfl G.b_len cI (aA (mv 0) aB)) (aU eE rfl G.b_len cI (aA (mv 1) aB)) (bI _)) (jG (bB (dZT (Room.u1 hr)) (mv 0) (mv 1) (bI _))))))) (λC s₀ H₀ ex=>(mv 0))))))),?_⟩
 have hkl:(ks.map λk=>V.int ((k:Nat):Int)).length=ks.length:=dU ks
 have hol:(os.map λk=>V.int ((k:Nat):Int)).length=os.length:=dU os
 have hcl:∀ m,m<=7->(bM (List.range os.length) m).length<=279936:=λm hm=>Bc (gL (by rw [Bz]; exact ho)) (eQ8 hm)
 walk_at "go";refine ⟨by decide,λp hp=>?_⟩
 have s1:=aF hp (.lst [])
 have e1:(upd H p (.lst [])) p=some (.lst (([]:List Addr).map V.ref)):=aD
 generalize upd H p (.lst [])=H1 at s1 e1 ⊢;have hc1:=aH s1 hc
 walk_at "go";rw [hkl];refine ⟨⟨by omega,by omega⟩,?_⟩
 rw [show (((ks.length:Nat):Int)+1).toNat=ks.length+1 by omega]
 refine gC (λi σ H'=>∃ (ts:List Addr) (v3 v4:Option V),σ=[some (.ref b),some (.ref c),some (.ref p),v3,v4]/\Same H H'/\H' p=some (.lst (ts.map V.ref))/\RowsAt H' ts (ahL os i)/\(∀ z∈ts,z≠p)/\ts.length<=279936 * i) ⟨[],_,_,rfl,s1,e1,⟨rfl,λj u l hu=>nomatch hu⟩,(λz hz=>nomatch hz),Bw _⟩ ?_ ?_
 · rintro i σ H2 hi ⟨ts,v3,v4,rfl,s2,e2,hts,hne,htl⟩;have hb2:=aH s2 hb
   rw [show (0:Int)+(i:Int)=((i:Nat):Int) by omega]
   walk_at "go";refine ⟨os.length,i,by rw [hol]; rfl,ho,by omega,λr ps H3 hr s3 e3 ls=>?_⟩
   have r3:=aL e3
   have hpl:ps.length=(bM (List.range os.length) i).length:=by rw [ls.1,Ab]
   have hci:=hcl i (by omega)
   have nrp:r≠p:=λz=>by rw [z,e2] at hr; cases hr
   walk_at "go";refine cF (xs:=ps.map V.ref) (λj σ H'=>∃ (ts:List Addr) (v4:Option V),σ=[some (.ref b),some (.ref c),some (.ref p),some (.int ((i:Nat):Int)),v4]/\(∀ z u,z≠p->H3 z=some u->H' z=some u)/\H' p=some (.lst (ts.map V.ref))/\RowsAt H' ts (ahL os i++((bM (List.range os.length) i).take j).map (bQ1 os))/\(∀ z∈ts,z≠p)/\ts.length<=279936 * i+j)
     ⟨ts,_,rfl,λz u _ h=>h,s3 _ _ e2,by rw [Ej,Fx,Br]; exact hts.keep λp xs _ e=>s3 _ _ e,hne,by omega⟩ (λj σ H' _ ⟨_,_,_,fr,_⟩=>aL (fr _ _ nrp e3)) ?_ ?_
   · clear hts hne htl;rintro j x σ H4 hx ⟨ts,v4,rfl,fr4,e4,hts,hne,htl⟩;obtain ⟨u,eu,rfl⟩:=dE hx;have hj:j<(bM (List.range os.length) i).length:=by rw [<-hpl]; exact (Ae.mp eu).1
     obtain ⟨l,el⟩:∃ l,(bM (List.range os.length) i)[j]?=some l:=⟨_,Aa hj⟩;obtain ⟨hsub,hli⟩:=mem_combs.mp (Ai el);obtain ⟨hu0,hu3⟩:=ls.2 j u (l.map λk=>V.int ((k:Nat):Int)) eu (by rw [Ag,el]; rfl)
     have nup:u≠p:=λz=>by rw [z,e2] at hu0; cases hu0
     have ru:=aL (fr4 _ _ nup hu3)
     have s4:Same H H4:=λz w hw=>by
       by_cases ez:z=p
       · rw [ez,hp] at hw; cases hw
       · exact fr4 z w ez (s3 _ _ (s2 _ _ hw))
     have hb4:=aH s4 hb
     have hll:(l.map λk=>V.int ((k:Nat):Int)).length=l.length:=dU l
     have hin:(ts.map V.ref).length<sizeLine:=Et (show (ts.map V.ref).length<=279936 * 7+279936 by rw [Ab]; omega) (by decide)
     walk_at "go";refine kC (xs:=(l.map λk=>V.int ((k:Nat):Int))) (λm=>(l[m]?).map λk=>V.int ((os.getD k 0:Nat):Int)) ru (aV (by omega)) (λm x Hc A B hxm sm hA hB=>?_) (λD H5 hD s45 hd=>?_)
     · obtain ⟨k,hk',rfl⟩:=jO hxm;have hkl2:k<os.length:=Bm.mp (hsub.subset (Ai hk'))
       have hbc:=aH sm hb4
       walk_at "go";refine ⟨Wk.set rfl (Wk.refl _),?_⟩;walk_at "go";refine cQ hbc (v:=V.int ((os.getD k 0:Nat):Int)) (eI (by rw [Ag,Aa hkl2,Ac,Aa hkl2]; rfl)) ?_
       exact hA _ (by rw [hk']; rfl) _ (Same.refl _)
     rw [hll,lX (λk=>V.int ((os.getD k 0:Nat):Int)) l] at hd;have hd5:H5 D=some (.lst ((bQ1 os l).map λk=>V.int ((k:Nat):Int))):=by
       rw [hd];unfold bQ1;rw [By];rfl
     have e5:=s45 _ _ e4
     have m5:=bF e5
     have nDp:D≠p:=λz=>by rw [z,e4] at hD; cases hD
     walk_at "go";refine ⟨ts++[D],_,rfl,λz w hz hw=>by rw [aK hz]; exact s45 _ _ (fr4 z w hz hw),by rw [aD,Ak]; rfl,?_,λz hz=>?_,by rw [Aj]; show _+1<=_; omega⟩
     · rw [Ba,el,Ak,<-Gw];refine RowsAt.snoc (hts.keep λq xs hq e=>?_) (by rw [aK nDp]; exact hd5)
       rw [aK (hne q hq)];exact s45 _ _ e
     · rcases Bk.mp hz with e | e
       · exact hne z e
       · rw [Aw.mp e]; exact nDp
   · rintro σ H4 ⟨ts,v4,rfl,fr4,e4,hts,hne,htl⟩;rw [Ab,hpl] at htl;rw [Ab,hpl,Bl,<-bXN] at hts;refine ⟨ts,_,_,rfl,λz w hw=>?_,e4,hts,hne,by omega⟩
     by_cases ez:z=p
     · rw [ez,hp] at hw; cases hw
     · exact fr4 z w ez (s3 _ _ (s2 _ _ hw))
 · rintro σ H2 ⟨ts,v3,v4,rfl,s2,e2,hts,hne,htl⟩;rw [bXL] at hts;have r2:=aL e2
   have hc2:=aH s2 hc
   walk_at "go";refine fE (n:=ts.length) (λD i ys Hc=>Same H2 Hc/\∃ us:List Addr,ys=us.map V.ref/\RowsAt H2 us (((dZ os (ks.length+1)).take i).filter (gH ks))) (Et (show ts.length<=279936 * 7 by omega) (by decide)) (λD hD=>⟨aF hD _,[],rfl,rfl,λj u l hu=>nomatch hu⟩)
     (λD i ys Hc _ r h=>⟨ts.map V.ref,(ts.map V.ref)[i]'(by rw [List.length_map]; exact h),aR (aH r.1 r2),by simp [h]⟩) (λD ys Hc _ r=>⟨ts.map V.ref,aR (aH r.1 r2),by rw [List.length_map]; exact Nat.le_refl _⟩) ?_ ?_
   · rintro D i ys Hc x H3 A B hD hi ⟨sm,us,rfl,hus⟩ hDc ⟨rfl,hz⟩ ha' hb';have hx:=hz _ (aR (aH sm r2))
     obtain ⟨u,eu,rfl⟩:=dE hx;obtain ⟨l,el⟩:∃ l,(dZ os (ks.length+1))[i]?=some l:=⟨_,Aa (by rw [<-hts.1]; exact hi)⟩
     have hu2:=hts.2 i u l eu el
     have ru:=aL (sm _ _ hu2)
     have hc3:=aH sm hc2
     have hll:(l.map λk=>V.int ((k:Nat):Int)).length=l.length:=dU l
     have tk:((dZ os (ks.length+1)).take (i+1)).filter (gH ks)=((dZ os (ks.length+1)).take i).filter (gH ks)++if gH ks l=true then [l] else []:=by
       rw [Ba,el,Ew];congr 1
       show [l].filter _=_
       rw [Ga,List.filter_nil]
     have yes:gH ks l=true->A (.ref u) H3:=λh=>ha' _ _ hDc ⟨aY hD sm,us++[u],by rw [Ak]; rfl,by rw [tk,if_pos h]; exact hus.snoc hu2⟩
     have no:gH ks l=false->B H3:=λh=>hb' _ hDc ⟨sm,us,rfl,by rw [tk,if_neg (by rw [h]; decide),Br]; exact hus⟩
     clear ha' hb';walk_at "go";refine ⟨Wk.set rfl (Wk.refl _),?_⟩;walk_at "go";rw [hll,hkl];by_cases h1:l.length<ks.length
     · rw [An (show ((l.length:Nat):Int)<((ks.length:Nat):Int) by omega)]
       walk_at "go";exact yes (by unfold gH; rw [An h1,Bool.true_or])
     · have ea:gH ks l=ltZ (fP l) (fP ks):=by unfold gH; rw [Am h1,Fl]
       rw [Am (show ¬ ((l.length:Nat):Int)<((ks.length:Nat):Int) by omega)]
       walk_at "go";refine dZ8 (as:=fP l) (bs:=fP ks) (by unfold fP; rw [oA]; exact ru) (by unfold fP; rw [oA]; exact hc3) ?_
       cases hz:ltZ (fP l) (fP ks) with
       | true=>
         walk_at "go";exact yes (by rw [ea]; exact hz)
       | false=>
         walk_at "go";exact no (by rw [ea]; exact hz)
   · rintro D ys H3 hD ⟨sm,us,rfl,hus⟩ hDc _;rw [hts.1,Bl] at hus;exact q D us H3 (s2.trans sm) hDc (hus.keep λp xs _ e=>sm _ _ e)
theorem aX2 (cws:Q5):∀ i,(wlP cws i).Pairwise λa b=>cZW ((a.1:Int),(a.2:Int)) ((b.1:Int),(b.2:Int))
 | 0=>List.Pairwise.nil
 | i+1=>by
   rw [jX];refine List.pairwise_append.mpr ⟨aX2 cws i,?_,λa ha b hb=>?_⟩
   · unfold lJ;refine List.Pairwise.map _ (λa b h=>?_) Fi;exact .inr ⟨rfl,by show ((1+a:Nat):Int)<((1+b:Nat):Int); omega⟩
   · have h1:=(wlP_mem.mp ha).1
     unfold lJ at hb;obtain ⟨j,_,rfl⟩:=Be.mp hb;exact .inl (by show (a.1:Int)<(i:Int); omega)
theorem yW {F:List Nat} {p:Nat->Bool} (e:F=flagsT.cps.toList.filter p):flagsT.cps.toList.filter (λc=>decide (c∈F))=F:=by
 have h:flagsT.cps.toList.filter (λc=>decide (c∈F))=flagsT.cps.toList.filter p:=by
   refine List.filter_congr λc hc=>?_;have hm:c∈F ↔ p c=true:=by rw [e,Da]; exact ⟨λz=>z.2,λz=>⟨hc,z⟩⟩
   cases hp:p c with
   | true=>exact An (hm.mpr hp)
   | false=>exact Am λz=>by rw [hm.mp z] at hp; cases hp
 rw [h,<-e]
theorem pW (F:List Nat):∀ L:List Nat,L.filterMap (λc=>if decide (c∈F)=true then some (V.str (one c)) else none)=((L.filter λc=>decide (c∈F)).map one).map V.str
 | []=>rfl
 | c::r=>by
   rw [Dx,Ga];by_cases hg:decide (c∈F)=true
   · rw [if_pos hg,if_pos hg,Au,Au,<-pW F r]
   · rw [if_neg hg,if_neg hg,<-pW F r]
theorem bJ0 {f:Nat->Option Int} (hf0:∀ c,0<=aM f c) (hs:Q3) (L:List Nat) (c:Nat):lF f hs L c=if nG c then aM f c+cnt (bJ hs L) c else 0:=by
 by_cases hc:nG c
 · rw [if_pos hc];have h0:0<=aM f c+cnt (bJ hs L) c:=by have:=hf0 c; have:=pT (bJ hs L) c; omega
   have e:aM (mS f hs L) c=aM f c+cnt (bJ hs L) c:=iM (n:=λc=>aM f c+cnt (bJ hs L) c) hc h0
   unfold lF;rw [iM hc (by rw [e]; exact h0),e]
 · rw [if_neg hc];show (bT _ c).getD 0=0
   unfold bT;rw [if_neg λz=>hc z.1];rfl
theorem aJP {f g:Nat->Option Int} {hs:Q3} {L:List Nat} {cws:Q5} {W:List Wt} {F:List Nat} (hf0:∀ c,0<=aM f c) (hg:∀ c,aM g c=aM f c+cnt (bJ hs L) c) (h:LackOk cws (lF f hs L) W F):LackOk cws (aM g) W F:=by
 refine ⟨h.sub,h.flags,h.all,?_⟩;have e:F.map (aM g)=F.map (lF f hs L):=Cp λc hc=>by
   obtain ⟨p,hp⟩:=h.flags;rw [hp] at hc;rw [bJ0 hf0,if_pos (flags_mem.mp (Da.mp hc).1),hg c]
 rw [e];exact h.few
theorem aZO (ks:List Nat):(ks.map λk=>V.int ((k:Nat):Int)).all cA=true:=by
 rw [Cq];intro x hx;obtain ⟨k,_,rfl⟩:=Be.mp hx;rfl
theorem bX0 {H:Hp} {Q:VK} {p:Addr} {xs:List V} (e:H p=some (.tup xs)) (h:Q (.int xs.length) H):aXJ [.ref p] H Q:=by
 have e1:rdL H p=none:=by unfold rdL; rw [e]; rfl
 unfold aXJ;simp only [e1,kY e];exact h
def lI:Sp:=λvs H Q _=>∃ (a b u:Addr) (kvs:List (Key×V)) (f:Nat->Option Int) (us:List V) (hs:List (Option (List Nat))) (n:Nat) (cw l:List Nat) (X:Addr->Prop),vs=[.ref a,.ref b,.int ((n:Nat):Int),.str (bC cw),.ref u]/\jW H a b kvs f us hs n cw/\kvs.length<=100/\(∀ c,aM f c<=1000)/\l.Sublist (aQ hs n)/\PaperH X H f hs n cw l u/\∀ H',Same H H'->Q (.bl true) H'
theorem sc_l_is_paper:FnScope ["_law_locker_here", "_law_halyards_here", "_law_number", "_law_word_here", "_law_paper", "_law_some", "_law_wants", "_law_flags", "_law_want", "_law_pool_here"] ["_law_locker_here", "_law_halyards_here", "_law_number", "_law_word_here", "_law_paper"] (aG dH):=by walk_at "sc"
theorem sA {Zw Zz Zx Zy:Addr} {f:Addr} {fd:FuncData} (F:Fun K "_law_is_paper" "_law_is_paper" dH f fd) (G:Gs K mg Zw Zz Zx Zy) (c_l_pool:Cal P w K mg base 1 "_law_pool" ["_law_locker_here", "_law_halyards_here", "_law_numbers"] sN) (c_l_are_short:Cal P w K mg base 2 "_law_are_short" ["_law_locker_here", "_law_words_here", "_law_wants", "_law_flags"] kK) (c_l_words:Cal P w K mg base 2 "_law_words" ["_law_halyards_here", "_law_word_here", "_law_numbers"] pU):FnOk P w K mg base CX0 3 f fd ["_law_locker_here", "_law_halyards_here", "_law_number", "_law_word_here", "_law_paper"] lI:=by
 refine F.ok sc_l_is_paper (λvs H Q E h=>?_) (λcdv A outer s H vs Q E hr h=>?_)
 · obtain ⟨a,b,u,kvs,f,us,hs,n,cw,l,X,rfl,_⟩:=h; rfl
 obtain ⟨a,b,u,kvs,f,us,hs,n,cw,l,X,rfl,⟨ha,lk,hf0,hb,hat,ok,h6,hn,hc1,hc7,hcL⟩,hkl,hf1,hsub,⟨c,l1,l2,rs,W,F,et,ec,el1,hwt,el2,hlo,_,_,_,_⟩,q⟩:=h;refine ⟨_,(@aE _ _ _ _ _ (cU (PW.pt (iW (iE (cW (aU oG rfl G.b_isinstance cM (aA (mv 4) (aA (kI rfl G.b_tuple xA) aB))))) (jG (bB bZO (aU eE rfl G.b_len cI (aA (mv 4) aB)) aJ (bI _))))) (@aI _ _ _ (aW fO)) bO) (@aE _ _ _ _ _ (aQC (mv 4) (bJX rfl (fK (aO (i:=5) sc_l_is_paper.nd rfl (Or.inl rfl)) (fK (aO (i:=6) sc_l_is_paper.nd rfl (Or.inl rfl)) (fK (aO (i:=7) sc_l_is_paper.nd rfl (Or.inr rfl)) uR))))) (@aE _ _ _ _ _ (cU (PW.pt (iW (iE (cW (aU oG rfl G.b_isinstance cM (aA (mv 5) (aA (kI rfl G.b_list dG) aB))))) (iW (iE (cW (aU oG rfl G.b_isinstance cM (aA (mv 6) (aA (kI rfl G.b_list dG) aB))))) (jG (iE (cW (aU oG rfl G.b_isinstance cM (aA (mv 7) (aA (kI rfl G.b_list dG) aB))))))))) (@aI _ _ _ (aW fO)) bO) (@aE _ _ _ _ _ (cU (PW.pt (iW (bB (dJ3 hr.units) (mv 6) (aU (bQD (Et (Nat.add_le_add_left (by decide) _) hr.units)) rfl G.b_sorted sZ (aA (mv 6) aB)) (bI _)) (jG (bB (eXJ hr.units0) (cJ rfl (rD gG) (fI (N:=["_law_flag", "_law_flags"]) ["_law_locker_here", "_law_halyards_here", "_law_number", "_law_word_here", "_law_paper", "_law_some", "_law_wants", "_law_flags", "_law_want", "_law_pool_here"] (aG dH) [none,some 7] rfl rfl rfl (λx h=>bU h) (by decide +kernel)) (by decide +kernel) rfl (by decide +kernel) (λC s₀ H₀ ex=>(aO (i:=0) (show List.Nodup (["_law_flag", "_law_flags"]:List Str) by decide +kernel) rfl (Or.inl rfl))) (λC s₀ H₀ ex=>(iG (bB eXI (mv 0) (mv 1) (by rfl)))) (λC s₀ H₀ ex=>(mv 0))) (mv 7) (bI _))))) (@aI _ _ _ (aW fO)) bO) (@aE _ _ _ _ _ (bN Az rfl (bH (mv 6)) (aO (i:=8) sc_l_is_paper.nd rfl (Or.inl rfl)) (@aI _ _ _ (cU (PW.pt (iW (iE (cW (aU oG rfl G.b_isinstance cM (aA (mv 8) (aA (kI rfl G.b_tuple xA) aB))))) (iW (bB bZO (aU eE rfl G.b_len cI (aA (mv 8) aB)) aJ (bI _)) (iW (cW (aU oG rfl G.b_isinstance cM (aA (bG cC (mv 8) aJ (λ_ _=>rfl)) (aA (kI rfl G.b_bool aZY) aB)))) (jG (cW (aU oG rfl G.b_isinstance cM (aA (bG cC (mv 8) aJ (λ_ _=>rfl)) (aA (kI rfl G.b_bool aZY) aB))))))))) (@aI _ _ _ (aW fO)) bO))) (@aE _ _ _ _ _ (@aP _ _ 9 _ _ _ _ sc_l_is_paper.nd (by rfl) (by exact (Or.inl rfl)) (aZ c_l_pool hr (by decide) rfl (aA (mv 0) (aA (mv 1) (aA (aX cB (bR (aA (mv 2) aB)) (mv 5)) aB)))) (by rfl) (by walk_at "o")) (@aI _ _ _ (aW (aZ c_l_are_short hr (by decide) rfl (aA (mv 9) (aA (aZ c_l_words hr (by decide) rfl (aA (mv 1) (aA (mv 3) (aA (mv 5) aB)))) (aA (mv 6) (aA (mv 7) aB))))))))))))),?_⟩
 have hol:=jI hn
 have hll:=hsub.length_le
 have hok:∀ k∈l,k<hs.length/\(hs.getD k none).isSome=true:=λk hk=>⟨(fX (hsub.subset hk)).1,(fX (hsub.subset hk)).2.1⟩
 have hww:=iX (cw:=cw) ok ⟨hc7,hcL⟩ hok
 have hwl:(bW hs cw l).length<=7:=by unfold bW; rw [Bb,Ab]; omega
 have hW56:W.length<=56:=Bc hlo.sub.length_le (Bc (mF (λc hc=>(hww c hc).1) _) (by omega))
 obtain ⟨pF,hpF⟩:=hlo.flags;have r1:=aL el1
 have r2:=aL el2
 have rc:=aL ec
 have tt:=kY et
 walk_at "go";refine bX0 et ?_;walk_at "go";rw [show decide ((([V.ref c,V.ref l1,V.ref l2]:List V).length:Int)=3)=true from rfl];walk_at "go";refine aJ3 (ks:=W.map λw=>((w.1:Int),(w.2:Int))) r1 (by rw [Ab,hwt.1]) (λi p k hp hk=>?_) (by rw [hwt.1]; omega) ?_ λp1 hp1=>?_
 · rw [Ag] at hk;cases ew:W[i]? with
   | none=>rw [ew] at hk; cases hk
   | some w=>rw [ew] at hk; cases hk; exact hwt.2 i p w hp ew
 · exact List.Pairwise.map _ (λ_ _ h=>h) ((aX2 _ _).sublist hlo.sub)
 have s1:=aF hp1 (.lst (rs.map V.ref))
 refine eX4 0 (aH s1 r1) cZ rfl (λj x y hx hy=>?_) ?_
 · rw [hx] at hy;cases hy;obtain ⟨p,_,rfl⟩:=dE hx;exact Alx.same (.inr ⟨p,rfl⟩)
 generalize upd H p1 (.lst (rs.map V.ref))=H1 at s1 ⊢;walk_at "go";refine aX9 (λc=>if decide (c∈F)=true then some (.str (one c)) else none) (by decide) (λi3 c Hc2 A' B' hc sm2 hA'=>?_) (λD H2 hD s2 e2=>?_)
 · have r:=hA' _ (Same.refl _)
   have r22:=aH (s1.trans sm2) r2
   walk_at "go";refine ⟨Wk.set rfl (Wk.refl _),?_⟩;walk_at "go";refine dQE (neg:=false) r22 rfl (dA _) ?_;rw [if_neg (by decide),show inV (V.str ⟨#[c]⟩) ((F.map one).map V.str)=decide (c∈F) from wR]
   refine iI (λhg=>?_) (λhg=>?_)
   · rw [if_pos hg] at r;walk_at "go";exact r
   · rw [if_neg hg] at r;exact r
 rw [show (Str.ofString "abcdefghijklmnopqrstuvw1234")=flagsT from rfl,pW,yW hpF] at e2;have s02:=s1.trans s2
 refine cJV (aL e2) (aH s02 r2) (dA _) (dA _) ?_;rw [if_pos rfl,aJ1 (dA _)];have r12:=aH s02 r1
 walk_at "go";refine cF (xs:=rs.map V.ref) (λi σ H'=>∃ (v8:Option V),σ=[some (.ref a),some (.ref b),some (.int ((n:Nat):Int)),some (.str (bC cw)),some (.ref u),some (.ref c),some (.ref l1),some (.ref l2),v8,none]/\Same H H')
   ⟨_,rfl,s02⟩ (λi σ H' _ ⟨_,_,s⟩=>aH s r1) ?_ ?_
 · rintro i x σ H3 hx ⟨v6,rfl,s3⟩;obtain ⟨p,ep,rfl⟩:=dE hx;have hi:i<W.length:=by rw [<-hwt.1]; exact (Ae.mp ep).1
   have ew:W[i]?=some W[i]:=Aa hi
   have htp:=s3 _ _ (hwt.2 i p _ ep ew)
   generalize W[i]=w at htp;obtain ⟨wn,wp⟩:=w;have htp:H3 p=some (.tup [.int (wn:Int),.int (wp:Int)]):=htp
   walk_at "go";refine bX0 htp ?_;walk_at "go";rw [show decide ((([V.int (wn:Int),V.int (wp:Int)]:List V).length:Int)=2)=true from rfl];walk_at "go";refine gD htp (v:=.int (wn:Int)) rfl ?_;walk_at "go";refine gD htp (v:=.int (wp:Int)) rfl ?_;walk_at "go";exact ⟨_,rfl,s3⟩
 · rintro σ H3 ⟨v6,rfl,s3⟩;have ec3:=s3 _ _ ec
   walk_at "go";refine ⟨by show 1<=sizeLine; decide,λp4 hp4=>?_⟩
   have s4:=aF hp4 (.lst [V.int ((n:Nat):Int)])
   have e4:(upd H3 p4 (.lst [V.int ((n:Nat):Int)])) p4=some (.lst [V.int ((n:Nat):Int)]):=aD
   generalize upd H3 p4 (.lst [V.int ((n:Nat):Int)])=H4 at s4 e4 ⊢;walk_at "go";refine jH (bF e4) (bF (s4 _ _ ec3)) (bP (by rw [dU]; show 1+_<=_; omega)) λp5 hp5=>?_
   have s5:=aF hp5 (.lst ((n::l).map λk=>V.int ((k:Nat):Int)))
   have e5:rdL (upd H4 p5 (.lst ((n::l).map λk=>V.int ((k:Nat):Int)))) p5=some ((n::l).map λk=>V.int ((k:Nat):Int)):=cZ
   have s05:=s3.trans (s4.trans s5)
   change xQ _ (upd H4 p5 (.lst ((n::l).map λk=>V.int ((k:Nat):Int)))) _
   generalize upd H4 p5 (.lst ((n::l).map λk=>V.int ((k:Nat):Int)))=H5 at s05 e5 ⊢;clear s5;walk_at "go";refine ⟨a,b,p5,kvs,f,us,hs,n::l,rfl,s05 _ _ ha,lk,by omega,aH s05 hb,hat.keep s05,ok,e5,by rw [Bb]; omega,λk hk=>by rcases Bd.mp hk with e | e; (· rw [e]; exact hn); (· exact (hok k e).1),λr6 kw6 g6 H6 hr6 s6 e6 lk6 hg6=>?_⟩
   have s06:=s05.trans s6
   walk_at "go";refine ⟨b,c,us,hs,cw,l,rfl,aH s06 hb,hat.keep s06,ok,aH s06 rc,by omega,hok,λr7 H7 hr7 s7 e7=>?_⟩
   have s07:=s06.trans s7
   have fl:=gP ok (n::l)
   rw [Bb] at fl;walk_at "go";refine ⟨r6,r7,l1,l2,kw6,g6,bW hs cw l,rs,W,F,rfl,s7 _ _ e6,lk6,λc=>?_,aL e7,by omega,λc hc=>(hww c hc).1,s07 _ _ el1,⟨hwt.1,λj p w hp hw=>s07 _ _ (hwt.2 j p w hp hw)⟩,s07 _ _ el2,aJP hf0 hg6 hlo,λH8 s8=>q _ (s07.trans s8)⟩
   have h1:=hf0 c
   have h2:=hf1 c
   have h3:=pT (bJ hs (n::l)) c
   have h4:cnt (bJ hs (n::l)) c<=((bJ hs (n::l)).length:Int):=Int.ofNat_le.mpr List.countP_le_length
   rw [hg6 c];omega
def NoS (f:Nat->Option Int) (hs:List (Option (List Nat))) (n:Nat) (cw:List Nat):Prop:=∀ l,l.Sublist (aQ hs n)->¬ aQ2 f hs n cw l
def yN:Sp:=λvs H Q _=>∃ (a b:Addr) (kvs:List (Key×V)) (f:Nat->Option Int) (us:List V) (hs:List (Option (List Nat))) (n:Nat) (cw:List Nat),vs=[.ref a,.ref b,.int ((n:Nat):Int),.str (bC cw)]/\jW H a b kvs f us hs n cw/\
 (∀ H',¬ NoS f hs n cw->Same H H'->Q (.bl true) H')/\(∀ H',Same H H'->Q (.bl false) H')
theorem sc_l_can:FnScope ["_law_locker_here", "_law_halyards_here", "_law_number", "_law_word_here", "_law_can_here"] ["_law_locker_here", "_law_halyards_here", "_law_number", "_law_word_here"] (aG kP):=by walk_at "sc"
theorem bXO {Zw Zz Zx Zy:Addr} {f:Addr} {fd:FuncData} (F:Fun K "_law_can" "_law_can" kP f fd) (G:Gs K mg Zw Zz Zx Zy) (c_hauled:oQ P w K mg base 12 "hauled" ["locker", "halyards", "number", "word"] (nT Zw)):FnOk P w K mg base CX0 13 f fd ["_law_locker_here", "_law_halyards_here", "_law_number", "_law_word_here"] yN:=by
 refine F.ok sc_l_can (λvs H Q E h=>?_) (λcdv A outer s H vs Q E hr h=>?_)
 · obtain ⟨a,b,kvs,f,us,hs,n,cw,rfl,_⟩:=h; rfl
 obtain ⟨a,b,kvs,f,us,hs,n,cw,rfl,hin,q,qe⟩:=h;refine ⟨_,(@aE _ _ _ _ _ (@aP _ _ 4 _ _ _ _ sc_l_can.nd (by rfl) (by exact (Or.inl rfl)) fO (by rfl) (by walk_at "o")) (@aE _ _ _ _ _ (cZI rfl rfl rfl rfl G.c_Lack (λpins R=>(@aI _ _ _ (cG (aXQ c_hauled (rK rfl) hr (by decide) rfl (aA (mv 0) (aA (mv 1) (aA (mv 2) (aA (mv 3) aB)))))))) (λpins ea=>(@aI _ _ _ (@aP _ _ 4 _ _ _ _ sc_l_can.nd (by rfl) (by exact (Or.inl rfl)) fO (by rfl) (by walk_at "o"))))) (@aI _ _ _ (aW (mv 4))))),?_⟩
 walk_at "go";refine ⟨a,b,kvs,f,us,hs,n,cw,rfl,hin,λt L B R ks gs j vs' kwr H1 s1 ht et hL eL hfst hgs hcnt hB eB hatB hR eR lkR=>?_,λhno dx l1 l2 rs W F H1 s1 ed el1 hwt el2 hlo _ _=>⟨G.m_Lack,?_⟩⟩
 · walk_at "go";exact q H1 (λz=>z ks (mem_sets.mp (Ai hfst.1)) hfst.2.1) s1
 · walk_at "go";exact qe H1 s1
theorem HalsAt.alw {H:Hp} {vs us:List V} {hs:Q3} {p q:Addr} (a:HalsAt H vs hs) (b:HalsAt H us hs) (hp:rdL H p=some vs) (hq:rdL H q=some us):Alw H 2 (.ref p) (.ref q):=by
 refine .lst hp hq (by rw [a.len,b.len]) λj x y hx hy=>?_
 obtain ⟨h,hh,hv⟩:=a.at hx;have hw:=b.val j y h hy hh
 cases h with
 | none=>
   rw [show x=.non from hv,show y=.non from hw];exact Alw.flat rfl
 | some cs=>
   obtain ⟨p1,rfl,h1⟩:=hv;obtain ⟨p2,rfl,h2⟩:=hw;exact .lst (aL h1) (aL h2) rfl (Alw.flats (dA _))
theorem Alw.up {H:Hp}:∀ {n:Nat} {x y:V},Alw H n x y->Alw H (n+1) x y
 | 0,x,y,h=>.inl h
 | n+1,x,y,h=>by
   rcases h with h | ⟨p,q,h1,h2,⟨xs,ys,h3,h4,h5,h6⟩ | h3⟩
   · exact .inl h
   · exact .inr ⟨p,q,h1,h2,.inl ⟨xs,ys,h3,h4,h5,λj x' y' hx hy=>Alw.up (h6 j x' y' hx hy)⟩⟩
   · exact .inr ⟨p,q,h1,h2,.inr h3⟩
theorem sO {f:Nat->Option Int} {hs:Q3} {n:Nat} {cw ks ks':List Nat} {j j':Nat} (h:qF f hs n cw ks j) (h':qF f hs n cw ks' j'):ks=ks'/\j=j':=by
 rcases Nat.lt_trichotomy j j' with l | rfl | l
 · exact absurd h.2.1 (h'.2.2 j ks l h.1)
 · have e:=h.1
   rw [h'.1] at e;exact ⟨(Bo e).symm,rfl⟩
 · exact absurd h'.2.1 (h.2.2 j' ks' l h'.1)
theorem zW {X Y:Addr->Prop} {H:Hp} {f:Nat->Option Int} {hs:Q3} {n:Nat} {cw l:List Nat} {u v:Addr} (a:PaperH X H f hs n cw l u) (b:PaperH Y H f hs n cw l v):Alt H 3 (.ref u) (.ref v):=by
 obtain ⟨c,l1,l2,rs,W,F,h1,h2,h3,h4,h5,_,h7,_⟩:=a;obtain ⟨c',l1',l2',rs',W',F',g1,g2,g3,g4,g5,_,g7,_⟩:=b;obtain ⟨rfl,rfl⟩:=h7.one g7;refine .tup h1 g1 rfl λj x y hx hy=>?_
 match j,hx,hy with
 | 0,hx,hy=>cases hx; cases hy; exact .lst (aL h2) (aL g2) rfl (Alt.flats (aZO _))
 | 1,hx,hy=>
   cases hx;cases hy;refine .lst (aL h3) (aL g3) (by rw [Ab,Ab,h4.1,g4.1]) λj x y hx hy=>?_
   obtain ⟨p,ep,rfl⟩:=dE hx;obtain ⟨q,eq,rfl⟩:=dE hy;have hj:j<W.length:=by rw [<-h4.1]; exact (Ae.mp ep).1
   have ew:=Aa hj
   exact .tup (h4.2 j p _ ep ew) (g4.2 j q _ eq ew) rfl (Alt.flats rfl)
 | 2,hx,hy=>cases hx; cases hy; exact .lst (aL h5) (aL g5) rfl (Alt.flats (dA _))
 | j+3,hx,_=>cases hx
theorem RowsAt.alw {H:Hp} {us ts:List Addr} {L:Q5} {p q:Addr} (a:RowsAt H us L) (b:RowsAt H ts L) (hp:rdL H p=some (us.map V.ref)) (hq:rdL H q=some (ts.map V.ref)):Alw H 2 (.ref p) (.ref q):=by
 refine .lst hp hq (by rw [Ab,Ab,a.1,b.1]) λj x y hx hy=>?_
 obtain ⟨u,eu,rfl⟩:=dE hx;obtain ⟨t,et,rfl⟩:=dE hy;have hj:j<L.length:=by rw [<-a.1]; exact (Ae.mp eu).1
 have el:=Aa hj
 exact .lst (aL (a.2 j u _ eu el)) (aL (b.2 j t _ et el)) rfl (Alw.flats (aZO _))
def mG (H:Hp) (ts:List Addr) (p:Addr):Prop:=∃ (i:Nat) (u c l1 l2:Addr),ts[i]?=some u/\H u=some (.tup [.ref c,.ref l1,.ref l2])/\(p=c\/p=l1\/p=l2)
def tG:Sp:=λvs H Q _=>∃ (a b:Addr) (kvs:List (Key×V)) (f:Nat->Option Int) (us:List V) (hs:List (Option (List Nat))) (n:Nat) (cw:List Nat),vs=[.ref a,.ref b,.int ((n:Nat):Int),.str (bC cw)]/\jW H a b kvs f us hs n cw/\kvs.length<=100/\(∀ c,aM f c<=1000)/\¬ NoS f hs n cw/\∀ H',Same H H'->Q (.bl true) H'
theorem sc_l_good:FnScope ["_law_locker_here", "_law_halyards_here", "_law_number", "_law_word_here", "_law_handed", "_law_lowered", "_law_papers", "_law_paper", "_law_kept"] ["_law_locker_here", "_law_halyards_here", "_law_number", "_law_word_here"] (aG iP):=by walk_at "sc"
theorem aJO {Zw Zz Zx Zy:Addr} {f:Addr} {fd:FuncData} (F:Fun K "_law_good" "_law_good" iP f fd) (G:Gs K mg Zw Zz Zx Zy) (c_hauling_papers:oQ P w K mg base 12 "hauling_papers" ["locker", "halyards", "number", "word"] (iB Zw)) (c_hauled:oQ P w K mg base 12 "hauled" ["locker", "halyards", "number", "word"] (nT Zw)) (c_l_ahead:Cal P w K mg base 2 "_law_ahead" ["_law_others_here", "_law_lowered"] qE) (c_l_others:Cal P w K mg base 1 "_law_others" ["_law_halyards_here", "_law_number"] oF) (c_l_is_paper:Cal P w K mg base 3 "_law_is_paper" ["_law_locker_here", "_law_halyards_here", "_law_number", "_law_word_here", "_law_paper"] lI):FnOk P w K mg base CX0 13 f fd ["_law_locker_here", "_law_halyards_here", "_law_number", "_law_word_here"] tG:=by
 refine F.ok sc_l_good (λvs H Q E h=>?_) (λcdv A outer s H vs Q E hr h=>?_)
 · obtain ⟨a,b,kvs,f,us,hs,n,cw,rfl,_⟩:=h; rfl
 obtain ⟨a,b,kvs,f,us,hs,n,cw,rfl,hin,hkl,hf1,hcan,q⟩:=h;have hin':=hin
 obtain ⟨ha,lk,hf0,hb,hat,ok,h6,hn,hc1,hc7,hcL⟩:=hin';have hinK:∀ H',Same H H'->jW H' a b kvs f us hs n cw:=λH' s=>⟨s _ _ ha,lk,hf0,aH s hb,hat.keep s,ok,h6,hn,hc1,hc7,hcL⟩
 have hul:=hat.len
 have hol:=jI hn
 have hsl:(bV (aQ hs n)).length<=6 * 6 ^ 5:=Bc (kT (i:=(aQ hs n).length+1) (by omega) (by omega)) (Nat.mul_le_mul_right _ (by omega))
 refine ⟨_,(@aE _ _ _ _ _ (@aP _ _ 4 _ _ _ _ sc_l_good.nd (by rfl) (by exact (Or.inl rfl)) (bR (aA (bK xB rfl G.b_dict aZH (aA (mv 0) aB)) (aA (cJ rfl (bH (mv 1)) (wF (N:=["_law_hoist_here"]) (by decide +kernel) (by decide +kernel)) (by decide +kernel) rfl (by decide +kernel) (λC s₀ H₀ ex=>(aO (i:=0) (show List.Nodup (["_law_hoist_here"]:List Str) by decide +kernel) rfl (Or.inl rfl))) (λC s₀ H₀ ex=>fD) (λC s₀ H₀ ex=>(wI (bB bXG (mv 0) gU (bI _)) gU (bK iH rfl G.b_list dG (aA (mv 0) aB))))) aB))) (by rfl) (by walk_at "o")) (@aE _ _ _ _ _ (@aP _ _ 5 _ _ _ _ sc_l_good.nd (by rfl) (by exact (Or.inl rfl)) (bG cC (hZ c_hauled kR hr (by decide) rfl (aA (mv 0) (aA (mv 1) (aA (mv 2) (aA (mv 3) aB))))) aJ (λ_ _=>rfl)) (by rfl) (by walk_at "o")) (@aE _ _ _ _ _ (@aP _ _ 6 _ _ _ _ sc_l_good.nd (by rfl) (by exact (Or.inl rfl)) (hZ c_hauling_papers kR hr (by decide) rfl (aA (bG cC (mv 4) aJ (λ_ _=>rfl)) (aA (bG cC (mv 4) aJ (λ_ _=>rfl)) (aA (mv 2) (aA (mv 3) aB))))) (by rfl) (by walk_at "o")) (@aE _ _ _ _ _ (cU (PW.pt (iW (iE (cW (aU oG rfl G.b_isinstance cM (aA (mv 6) (aA (kI rfl G.b_list dG) aB))))) (jG (bB (cJK hr.units) (mv 4) (bR (aA (mv 0) (aA (mv 1) aB))) (bI _))))) (@aI _ _ _ (aW fO)) bO) (@aE _ _ _ _ _ (cU (bB (cJK hr.units) (cJ rfl (bH (mv 6)) (wF (N:=["_law_paper"]) (by decide +kernel) (by decide +kernel)) (by decide +kernel) rfl (by decide +kernel) (λC s₀ H₀ ex=>(aO (i:=0) (show List.Nodup (["_law_paper"]:List Str) by decide +kernel) rfl (Or.inl rfl))) (λC s₀ H₀ ex=>fD) (λC s₀ H₀ ex=>(bG cC (mv 0) aJ (λ_ _=>rfl)))) (aZ c_l_ahead hr (by decide) rfl (aA (aZ c_l_others hr (by decide) rfl (aA (mv 1) (aA (mv 2) aB))) (aA (mv 5) aB))) (bI _)) (@aI _ _ _ (aW fO)) bO) (@aE _ _ _ _ _ (bN Az rfl (bH (mv 6)) (aO (i:=7) sc_l_good.nd rfl (Or.inl rfl)) (@aI _ _ _ (cU (iE (cW (aZ c_l_is_paper hr (by decide) rfl (aA (mv 0) (aA (mv 1) (aA (mv 2) (aA (mv 3) (aA (mv 7) aB)))))))) (@aI _ _ _ (aW fO)) bO))) (@aE _ _ _ _ _ (mH (i:=8) sc_l_good.nd rfl (Or.inl rfl) rfl (bH (mv 6)) (wF (N:=["_law_paper"]) (by decide +kernel) (by decide +kernel)) (by decide +kernel) rfl (by decide +kernel) (λC s₀ H₀ ex=>(aO (i:=0) (show List.Nodup (["_law_paper"]:List Str) by decide +kernel) rfl (Or.inl rfl))) (λC s₀ H₀ ex=>fD) (λC s₀ H₀ ex=>(kF (aA (bK iH rfl G.b_list dG (aA (bG cC (mv 0) aJ (λ_ _=>rfl)) aB)) (aA (bK iH rfl G.b_list dG (aA (bG cC (mv 0) aJ (λ_ _=>rfl)) aB)) (aA (bK iH rfl G.b_list dG (aA (bG cC (mv 0) aJ (λ_ _=>rfl)) aB)) aB)))))) (@aE _ _ _ _ _ (bN Az rfl (bH (mv 6)) (aO (i:=7) sc_l_good.nd rfl (Or.inl rfl)) (@aE _ _ _ _ _ (cG (cV Bj Cf Cg mX (bG cC (mv 7) aJ (λ_ _=>rfl)) (aA aJ aB))) (@aI _ _ _ (cG (bJD Bj PySem.F.slot_list_clear PySem.F.type_list_clear cXY (bG cC (mv 7) aJ (λ_ _=>rfl))))))) (@aI _ _ _ (aW (nF (dXU hr.units) (hZ c_hauling_papers kR hr (by decide) rfl (aA (mv 0) (aA (mv 1) (aA (mv 2) (aA (mv 3) aB))))) (mv 8) (bI _)))))))))))),?_⟩
 walk_at "go";refine wX (.inl ha) λd hd=>?_;have s1:=aF hd (.dK kvs)
 have e1:(upd H d (.dK kvs)) d=some (.dK kvs):=aD
 generalize upd H d (.dK kvs)=H1 at s1 e1 ⊢;have hb1:=aH s1 hb
 walk_at "go";refine aX7 (hs:=hs) hb1 (aV (by omega)) hul (λi x h Hc A B hx hh sm hA=>?_) (λD Hd vs hD sD hdd hatD hfr=>?_)
 · have hv:=(hat.keep (s1.trans sm)).val i x h hx hh
   cases h with
   | none=>
     obtain rfl:x=V.non:=hv;walk_at "go";refine ⟨Wk.set rfl (Wk.refl _),?_⟩;walk_at "go";rw [show decide (V.non=V.non)=true from rfl];walk_at "go";exact hA .non _ (Same.refl _) rfl λp z=>nomatch z
   | some cs=>
     obtain ⟨pc,rfl,hpc⟩:=hv;have rc:=aL hpc
     walk_at "go";refine ⟨Wk.set rfl (Wk.refl _),?_⟩;walk_at "go";rw [show decide (V.ref pc=V.non)=false from Am (λz=>nomatch z)]
     walk_at "go";intro l2 hl2;exact hA (.ref l2) _ (aF hl2 _) ⟨l2,rfl,aD⟩ λp z=>by cases z; exact hl2
 walk_at "go";refine ⟨by show 2<=sizeLine; decide,λpH hpH=>?_⟩
 have s2:=aF hpH (.lst [.ref d,.ref D])
 have e2:(upd Hd pH (.lst [.ref d,.ref D])) pH=some (.lst [.ref d,.ref D]):=aD
 generalize upd Hd pH (.lst [.ref d,.ref D])=H2 at s2 e2 ⊢;have sd2:=sD.trans s2
 have s02:=s1.trans sd2
 have hin2:∀ H',Same H2 H'->jW H' d D kvs f vs hs n cw:=λH' s=>⟨(sd2.trans s) _ _ e1,lk,hf0,aL ((s2.trans s) _ _ hdd),hatD.keep (s2.trans s),ok,h6,hn,hc1,hc7,hcL⟩
 have r2:=aL e2
 have alw:∀ H' p,Same H2 H'->rdL H' p=some [.ref a,.ref b]->Alw H' 4 (.ref pH) (.ref p):=λH' p s hp=>by
   refine .lst (aH s r2) hp rfl λj x y hx hy=>?_
   match j,hx,hy with
   | 0,hx,hy=>cases hx; cases hy; exact .dic (.inl ((sd2.trans s) _ _ e1)) (.inl ((s02.trans s) _ _ ha)) (lk.deq lk)
   | 1,hx,hy=>cases hx; cases hy; exact Alw.up ((hatD.keep (s2.trans s)).alw (hat.keep (s02.trans s)) (aL ((s2.trans s) _ _ hdd)) (aH (s02.trans s) hb))
   | j+2,hx,_=>cases hx
 walk_at "go";refine ⟨a,b,kvs,f,us,hs,n,cw,rfl,hinK _ s02,λt L B R ks gs j vs' kwr H3 s3 ht et hL eL hfst _ _ _ _ _ _ _ _=>?_,λhno=>absurd hno hcan⟩;walk_at "go";refine gD et (v:=.ref L) rfl ?_;have hks:ks.Sublist (aQ hs n):=mem_sets.mp (Ai hfst.1)
 have hkl5:=hks.length_le
 have r3:=aH s3 r2
 walk_at "go";refine cQ r3 (v:=.ref d) rfl ?_;walk_at "go";refine cQ r3 (v:=.ref D) rfl ?_;walk_at "go";refine ⟨d,D,kvs,f,vs,hs,n,cw,rfl,hin2 _ s3,λp ts ks2 j2 H4 s4 hfst2 hp ep htl hpap=>?_,λhno=>absurd hno hcan⟩;obtain ⟨rfl,rfl⟩:=sO hfst hfst2;have s24:=s3.trans s4
 have hj46:j<(bV (aQ hs n)).length:=(Ae.mp hfst.1).1
 have lat:∀ (i:Nat) u,ts[i]?=some u->∃ l,(bV (aQ hs n))[i]?=some l/\l.Sublist (aQ hs n):=λi u hu=>by
   have hi:i<(bV (aQ hs n)).length:=by have:=(Ae.mp hu).1; omega
   exact ⟨_,Aa hi,mem_sets.mp (Bv hi)⟩
 have hpap4:∀ (i:Nat) u l,ts[i]?=some u->(bV (aQ hs n))[i]?=some l->PaperH (λz=>H2 z≠none\/z=p) H4 f hs n cw l u:=λi u l hu hl=>by
   obtain ⟨c,l1,l2,rs,W,F,h1,h2,h3,h4,h5,h6',h7,h8,h9,h10⟩:=hpap i u l hu hl;have up:∀ q,¬ (H3 q≠none\/q=p)->¬ (H2 q≠none\/q=p):=λq hq z=>z.elim (λw=>hq (.inl λe=>w (bA s3 e))) λw=>hq (.inr w)
   exact ⟨c,l1,l2,rs,W,F,h1,h2,h3,h4,h5,h6',h7,up c h8,up l1 h9,up l2 h10⟩
 walk_at "go";refine ⟨by show 2<=sizeLine; decide,λp5 hp5=>?_⟩
 have k5:=aF hp5 (.lst [.ref a,.ref b])
 have e5:rdL (upd H4 p5 (.lst [.ref a,.ref b])) p5=_:=cZ
 generalize upd H4 p5 (.lst [.ref a,.ref b])=H5 at k5 e5 ⊢;have s25:=s24.trans k5
 refine dQB 3 (alw _ _ s25 e5) ?_;have rp5:=aL (k5 _ _ ep)
 walk_at "go";refine fE (n:=ts.length) (λDq i ys Hc=>Same H5 Hc/\∃ cs:List Addr,ys=cs.map V.ref/\RowsAt H5 cs ((bV (aQ hs n)).take i)) (aV (by omega)) (λDq hDq=>⟨aF hDq _,[],rfl,rfl,λj u l hu=>nomatch hu⟩)
   (λDq i ys Hc _ r h=>⟨ts.map V.ref,(ts.map V.ref)[i]'(by rw [List.length_map]; exact h),aR (aH r.1 rp5),by simp [h]⟩) (λDq ys Hc _ r=>⟨ts.map V.ref,aR (aH r.1 rp5),by rw [List.length_map]; exact Nat.le_refl _⟩) ?_ ?_
 · rintro Dq i ys Hc x H6 A B' hDq hi ⟨sm,cs,rfl,hcs⟩ hDc ⟨rfl,hz⟩ ha' hb';have hx:=hz _ (aR (aH sm rp5))
   obtain ⟨u,eu,rfl⟩:=dE hx;obtain ⟨l,el,_⟩:=lat i u eu;obtain ⟨c,l1,l2,rs,W,F,h1,h2,_⟩:=(hpap4 i u l eu el).keep k5;walk_at "go";refine ⟨Wk.set rfl (Wk.refl _),?_⟩;walk_at "go";refine gD (sm _ _ h1) (v:=.ref c) rfl ?_;refine ha' _ _ hDc ⟨aY hDq sm,cs++[c],by rw [Ak]; rfl,?_⟩
   rw [Ba,el];exact hcs.snoc h2
 rintro Dq ys H6 hDq ⟨s6,cs,rfl,hcs⟩ hDq6 _;have s56:=k5.trans s6
 have s26:=s24.trans s56
 have s06:=s02.trans s26
 walk_at "go";refine ⟨b,us,hs,n,rfl,aH s06 hb,hat.keep s06,by omega,λro H7 hro s7 eo=>?_⟩
 walk_at "go";refine ⟨ro,L,aQ hs n,ks,rfl,aL eo,aL ((s4.trans (s56.trans s7)) _ _ eL),by omega,by omega,λra tsa H8 s8 ea hra=>?_⟩
 rw [bJA (zN hs n) hfst.1] at hra;have s68:=s7.trans s8
 rw [htl] at hcs;refine dQB 1 ((hcs.keep λq xs _ e=>(s6.trans s68) _ _ e).alw hra (aL (s68 _ _ hDq6)) (aL ea)) ?_;have s48:=s56.trans s68
 have s28:=s24.trans s48
 have s08:=s02.trans s28
 have rp8:=aL (s48 _ _ ep)
 clear hcs hDq6 hra ea eo r3 k5 s6 s56 s26 s06 s7 s8 s68 rp5 e5 hp5 hDq hro;walk_at "go";refine cF (xs:=ts.map V.ref) (λi σ H'=>∃ (v7:Option V),σ=[some (.ref a),some (.ref b),some (.int ((n:Nat):Int)),some (.str (bC cw)),some (.ref pH),some (.ref L),some (.ref p),v7,none]/\Same H8 H')
   ⟨_,rfl,Same.refl _⟩ (λi σ H' _ ⟨_,_,s⟩=>aH s rp8) ?_ ?_
 · rintro i x σ H9 hx ⟨v7,rfl,s9⟩;obtain ⟨u,eu,rfl⟩:=dE hx;obtain ⟨l,el,hsub⟩:=lat i u eu;walk_at "go";refine ⟨a,b,u,kvs,f,us,hs,n,cw,l,_,rfl,hinK _ (s08.trans s9),hkl,hf1,hsub,(hpap4 i u l eu el).keep (s48.trans s9),λH10 s10=>?_⟩;walk_at "go";exact ⟨_,rfl,s9.trans s10⟩
 rintro σ H9 ⟨v7,rfl,s9⟩;have s49:=s48.trans s9
 have s29:=s28.trans s9
 have rp9:=aH s9 rp8
 have ep9:=s49 _ _ ep
 have hpap9:∀ (i:Nat) u l,ts[i]?=some u->(bV (aQ hs n))[i]?=some l->PaperH (λz=>H2 z≠none\/z=p) H9 f hs n cw l u:=λi u l hu hl=>(hpap4 i u l hu hl).keep s49
 walk_at "go";refine fE (n:=ts.length) (λDk i ys Hc=>Same H9 Hc/\∃ qs:List Addr,ys=qs.map V.ref/\qs.length=i/\∀ (j:Nat) v l,qs[j]?=some v->(bV (aQ hs n))[j]?=some l->PaperH (λz=>H9 z≠none\/z=Dk) Hc f hs n cw l v) (aV (by omega)) (λDk hDk=>⟨aF hDk _,[],rfl,rfl,λj u l hu=>nomatch hu⟩)
   (λDk i ys Hc _ r h=>⟨ts.map V.ref,(ts.map V.ref)[i]'(by rw [List.length_map]; exact h),aR (aH r.1 rp9),by simp [h]⟩) (λDk ys Hc _ r=>⟨ts.map V.ref,aR (aH r.1 rp9),by rw [List.length_map]; exact Nat.le_refl _⟩) ?_ ?_
 · rintro Dk i ys Hc x H10 A B' hDk hi ⟨sm,qs,rfl,hql,hqs⟩ hDc ⟨rfl,hz⟩ ha' hb';have hx:=hz _ (aR (aH sm rp9))
   obtain ⟨u,eu,rfl⟩:=dE hx;obtain ⟨l,el,_⟩:=lat i u eu;obtain ⟨c,l1,l2,rs,W,F,h1,h2,h3,h4,h5,h6',h7,h8,h9,h10⟩:=(hpap9 i u l eu el).keep sm;have rc:=aL h2
   walk_at "go";refine ⟨Wk.set rfl (Wk.refl _),?_⟩;walk_at "go";refine gD h1 (v:=.ref c) rfl ?_;walk_at "go";intro c' hc';have k7:=aF hc' (.lst (l.map λk=>V.int ((k:Nat):Int)))
   have e7:(upd H10 c' (.lst (l.map λk=>V.int ((k:Nat):Int)))) c'=some (.lst (l.map λk=>V.int ((k:Nat):Int))):=aD
   generalize upd H10 c' (.lst (l.map λk=>V.int ((k:Nat):Int)))=H11 at k7 e7 ⊢;have r37:=aL (k7 _ _ h3)
   walk_at "go";refine gD (k7 _ _ h1) (v:=.ref l1) rfl ?_;walk_at "go";intro l1' hl1';have k8:=aF hl1' (.lst (rs.map V.ref))
   have e8:(upd H11 l1' (.lst (rs.map V.ref))) l1'=some (.lst (rs.map V.ref)):=aD
   generalize upd H11 l1' (.lst (rs.map V.ref))=H12 at k8 e8 ⊢;have r58:=aL ((k7.trans k8) _ _ h5)
   walk_at "go";refine gD ((k7.trans k8) _ _ h1) (v:=.ref l2) rfl ?_;walk_at "go";intro l2' hl2';have k9:=aF hl2' (.lst ((F.map one).map V.str))
   have e9:(upd H12 l2' (.lst ((F.map one).map V.str))) l2'=some (.lst ((F.map one).map V.str)):=aD
   generalize upd H12 l2' (.lst ((F.map one).map V.str))=H13 at k9 e9 ⊢;walk_at "go";refine ⟨by show 3<=sizeLine; decide,λv hv=>?_⟩
   have k10:=aF hv (.tup [.ref c',.ref l1',.ref l2'])
   have e10:(upd H13 v (.tup [.ref c',.ref l1',.ref l2'])) v=_:=aD
   generalize upd H13 v (.tup [.ref c',.ref l1',.ref l2'])=H14 at k10 e10 ⊢;have s610:=k7.trans (k8.trans (k9.trans k10))
   have hX:∀ {Hi:Hp} {p:Addr},Same H10 Hi->Hi p=none->¬ (H9 p≠none\/p=Dk):=fun {Hi p} s hp z=>by
     have hp6:=bA s hp
     rcases z with z | z
     · exact z (bA sm hp6)
     · rw [z,hDc] at hp6; cases hp6
   refine ha' _ _ (s610 _ _ hDc) ⟨aY hDk (sm.trans s610),qs++[v],by rw [Ak]; rfl,by rw [Aj,hql]; rfl,λj w l' hw hl'=>?_⟩
   by_cases hj:j<qs.length
   · rw [Ap hj] at hw;exact ((hqs j w l' hw hl').keep s610).put (.inr rfl) (s610 _ _ hDc)
   · rw [Av (by omega)] at hw
     have ej:j=i:=by
       have:=(Ae.mp hw).1
       rw [List.length_singleton] at this;omega
     subst ej;rw [show j - qs.length=0 by omega] at hw
     cases hw;rw [el] at hl';cases hl';exact PaperH.put ⟨c',l1',l2',rs,W,F,e10,(k8.trans (k9.trans k10)) _ _ e7,(k9.trans k10) _ _ e8,⟨h4.1,λj p w hp hw=>s610 _ _ (h4.2 j p w hp hw)⟩,k10 _ _ e9,h6',h7,hX (Same.refl _) hc',hX k7 hl1',hX (k7.trans k8) hl2'⟩ (.inr rfl) (s610 _ _ hDc)
 rintro Dk ys H10 hDk ⟨sm,qs,rfl,hql,hqs⟩ hDk10 _;have hS:∀ q,mG H9 ts q->(∃ xs,H10 q=some (.lst xs)/\xs.length<=100)/\H2 q=none/\q≠p/\H9 q≠none:=λq ⟨i,u,c,l1,l2,hu,e,hq⟩=>by
   obtain ⟨l,el,hsub⟩:=lat i u hu;obtain ⟨c',l1',l2',rs,W,F,h1,h2,h3,h4,h5,h6',_,h8,h9,h10⟩:=hpap9 i u l hu el;rw [e] at h1;cases h1;have hok:∀ k∈l,k<hs.length/\(hs.getD k none).isSome=true:=λk hk=>⟨(fX (hsub.subset hk)).1,(fX (hsub.subset hk)).2.1⟩
   have hwl:(bW hs cw l).length<=7:=by have:=hsub.length_le; unfold bW; rw [Bb,Ab]; omega
   have hW56:W.length<=56:=Bc h6'.sub.length_le (Bc (mF (λc hc=>(iX (cw:=cw) ok ⟨hc7,hcL⟩ hok c hc).1) _) (by omega))
   have hF27:F.length<=27:=by
     obtain ⟨pF,e⟩:=h6'.flags;rw [e];exact Bc (List.length_filter_le _ _) (by decide)
   have key:∀ xs,H9 q=some (.lst xs)->xs.length<=100->¬ (H2 q≠none\/q=p)->(∃ xs,H10 q=some (.lst xs)/\xs.length<=100)/\H2 q=none/\q≠p/\H9 q≠none:=λxs hx hl hn=>⟨⟨xs,sm _ _ hx,hl⟩,Classical.byContradiction λz=>hn (.inl z),λz=>hn (.inr z),by rw [hx]; exact λz=>nomatch z⟩
   rcases hq with rfl | rfl | rfl
   · exact key _ h2 (by rw [dU]; have:=hsub.length_le; omega) h8
   · exact key _ h3 (by rw [Ab,h4.1]; omega) h9
   · exact key _ h5 (by rw [Ab,Ab]; omega) h10
 have ep10:=sm _ _ ep9
 have nSp:¬ mG H9 ts p:=λz=>(hS p z).2.2.1 rfl
 have nTup:∀ q xs,H10 q=some (.tup xs)->¬ mG H9 ts q:=λq xs e z=>by
   obtain ⟨ys,ey,_⟩:=(hS q z).1;rw [e] at ey;cases ey
 have rp10:=aL ep10
 walk_at "go";refine cF (xs:=ts.map V.ref) (λi σ H'=>∃ (v7:Option V),σ=[some (.ref a),some (.ref b),some (.int ((n:Nat):Int)),some (.str (bC cw)),some (.ref pH),some (.ref L),some (.ref p),v7,some (.ref Dk)]/\(∀ q u,¬ mG H9 ts q->H10 q=some u->H' q=some u)/\∀ q,mG H9 ts q->∃ xs,H' q=some (.lst xs)/\xs.length<=100+i)
   ⟨_,rfl,λq u _ h=>h,λq hq=>(hS q hq).1⟩ (λi σ H' _ ⟨_,_,fr,_⟩=>aL (fr p _ nSp ep10)) ?_ ?_
 · rintro i x σ H11 hx ⟨v7,rfl,f11,l11⟩;obtain ⟨u,eu,rfl⟩:=dE hx;have hi:i<ts.length:=(Ae.mp eu).1
   obtain ⟨l,el,_⟩:=lat i u eu;obtain ⟨c,l1,l2,rs,W,F,h1,_⟩:=hpap9 i u l eu el;have h110:=sm _ _ h1
   have nu:=nTup u _ h110
   have step:∀ (Hx:Hp) (p0:Addr) (xs0:List V),mG H9 ts p0->xs0.length<=100+(i+1)->(∀ q u,¬ mG H9 ts q->H10 q=some u->Hx q=some u)->(∀ q,mG H9 ts q->∃ xs,Hx q=some (.lst xs)/\xs.length<=100+(i+1))->(∀ q u,¬ mG H9 ts q->H10 q=some u->(upd Hx p0 (.lst xs0)) q=some u)/\∀ q,mG H9 ts q->∃ xs,(upd Hx p0 (.lst xs0)) q=some (.lst xs)/\xs.length<=100+(i+1):=λHx p0 xs0 h0 hl0 hf hl=>⟨λq u hq hu=>(aK λz=>hq (by rw [z]; exact h0)).trans (hf q u hq hu),λq hq=>by
     by_cases z:q=p0
     · rw [z]; exact ⟨_,aD,hl0⟩
     · rw [aK z]; exact hl q hq⟩
   have sc:mG H9 ts c:=⟨i,u,c,l1,l2,eu,h1,.inl rfl⟩
   have sl2:mG H9 ts l2:=⟨i,u,c,l1,l2,eu,h1,.inr (.inr rfl)⟩
   have eu11:=f11 u _ nu h110
   obtain ⟨x1,ex1,hx1⟩:=l11 c sc;have mx1:=bF ex1
   have hlt1:x1.length<sizeLine:=aV (by omega)
   walk_at "go";refine gD eu11 (v:=.ref c) rfl ?_;walk_at "go";obtain ⟨f12,l12⟩:=step H11 c (x1++[V.int 7]) sc (by rw [Aj]; show _+1<=_; omega) f11 (λq hq=>by obtain ⟨xs,e,hl⟩:=l11 q hq; exact ⟨xs,e,by omega⟩)
   generalize upd H11 c (.lst (x1++[V.int 7]))=H12 at f12 l12 ⊢;have eu12:=f12 u _ nu h110
   obtain ⟨x2,ex2,hx2⟩:=l12 l2 sl2;have mx2:=bF ex2
   walk_at "go";refine gD eu12 (v:=.ref l2) rfl ?_;walk_at "go";obtain ⟨f13,l13⟩:=step H12 l2 [] sl2 (by show 0<=_; omega) f12 l12
   exact ⟨_,rfl,f13,l13⟩
 · rintro σ H11 ⟨v7,rfl,f11,_⟩;have s210:Same H2 H10:=s29.trans sm
   have s211:Same H2 H11:=λq u hu=>f11 q u (λz=>by rw [(hS q z).2.1] at hu; cases hu) (s210 _ _ hu)
   have s011:=s02.trans s211
   walk_at "go";refine ⟨a,b,kvs,f,us,hs,n,cw,rfl,hinK _ s011,λp2 ts2 ks2 j2 H12 s12 hfst3 hp2 ep2 htl2 hpap2=>?_,λhno=>absurd hno hcan⟩;obtain ⟨rfl,rfl⟩:=sO hfst hfst3;have f12:∀ q u,¬ mG H9 ts q->H10 q=some u->H12 q=some u:=λq u hq hu=>s12 _ _ (f11 q u hq hu)
   have n9:∀ q,H9 q=none->¬ mG H9 ts q:=λq hq z=>(hS q z).2.2.2 hq
   have eDk12:=f12 Dk _ (n9 _ hDk) hDk10
   refine eQQ 3 (.lst (aL ep2) (aL eDk12) (by rw [Ab,Ab,htl2,hql,htl]) λi x y hx hy=>?_) (q _ (s011.trans s12))
   obtain ⟨u,eu,rfl⟩:=dE hx;obtain ⟨v,ev,rfl⟩:=dE hy;obtain ⟨l,el⟩:∃ l,(bV (aQ hs n))[i]?=some l:=⟨_,Aa (by have:=(Ae.mp eu).1; omega)⟩
   exact zW (hpap2 i u l eu el) ((hqs i v l ev el).frame f12 (λq hq=>n9 q (Classical.byContradiction λz=>hq (.inl z))) nTup)
theorem sc_law:FnScope ["_law_script", "_law_start", "_law_locker_here", "_law_halyards_here", "_law_number", "_law_word_here"] ["_law_script"] (aG mZ):=by walk_at "sc"
theorem dJB {Zw Zz Zx Zy:Addr} {f:Addr} {fd:FuncData} (F:Fun K "law" "law" mZ f fd) (G:Gs K mg Zw Zz Zx Zy) (c_l_drawn:Cal P w K mg base 4 "_law_drawn" ["_law_script", "_law_start"] (qB K)) (c_l_can:Cal P w K mg base 13 "_law_can" ["_law_locker_here", "_law_halyards_here", "_law_number", "_law_word_here"] yN) (c_l_good:Cal P w K mg base 13 "_law_good" ["_law_locker_here", "_law_halyards_here", "_law_number", "_law_word_here"] tG):FnOk P w K mg base CX0 14 f fd ["_law_script"] (wD K):=by
 refine F.ok sc_law (λvs H Q E h=>?_) (λcdv A outer s H vs Q E hr h=>?_)
 · obtain ⟨a,ns,rfl,_⟩:=h; rfl
 obtain ⟨a,ns,rfl,hS,h63,q⟩:=h;refine ⟨_,(@aE _ _ _ _ _ (bN Az rfl (aJY rfl G.b_range (aA aJ (aA (aU (cJ0 rfl) rfl G.b_max bZD (aA aJ (aA (aU (dQL rfl) rfl G.b_min bXK (aA (aU mJ rfl G.b_len cI (aA (mv 0) aB)) (aA aJ aB))) aB))) (aA aJ aB)))) (aO (i:=1) sc_law.nd rfl (Or.inl rfl)) (@aE _ _ _ _ _ (aQC (aZ c_l_drawn hr (by decide) rfl (aA (mv 0) (aA (mv 1) aB))) (dQS rfl (fK (aO (i:=2) sc_law.nd rfl (Or.inl rfl)) (fK (aO (i:=3) sc_law.nd rfl (Or.inl rfl)) (fK (aO (i:=4) sc_law.nd rfl (Or.inl rfl)) (fK (aO (i:=5) sc_law.nd rfl (Or.inl rfl)) uR)))))) (@aI _ _ _ (cU (PW.pt (vK (cW (aZ c_l_can hr (by decide) rfl (aA (mv 2) (aA (mv 3) (aA (mv 4) (aA (mv 5) aB)))))) (pE (iE (cW (aZ c_l_good hr (by decide) rfl (aA (mv 2) (aA (mv 3) (aA (mv 4) (aA (mv 5) aB)))))))))) (@aI _ _ _ (aW fO)) bO)))) (@aI _ _ _ (aW fO))),?_⟩
 walk_at "go";refine ⟨_,_,rfl,.inl hS,?_⟩;have hnl:(ns.map V.int).length=ns.length:=Ab ..
 rw [hnl];walk_at "go";obtain ⟨m,hm⟩:∃ m:Int,m=(if (1:Int)<(if (50:Int)<(ns.length:Int) then 50 else (ns.length:Int)) then (if (50:Int)<(ns.length:Int) then 50 else (ns.length:Int)) else 1):=⟨_,rfl⟩
 have hm1:m<=50:=by rw [hm]; split <;> split <;> omega
 have hm2:0<=m:=by rw [hm]; split <;> split <;> omega
 rw [<-hm];refine ⟨⟨by omega,by omega,by omega,by omega,by omega,by omega⟩,?_⟩
 refine aJH (λi σ H'=>∃ (v1 v2 v3 v4 v5:Option V),σ=[some (.ref a),v1,v2,v3,v4,v5]/\Same H H') ⟨_,_,_,_,_,rfl,Same.refl _⟩ ?_ ?_
 · rintro i σ H3 hi ⟨v1,v2,v3,v4,v5,rfl,s3⟩;have hat:=cJF (by omega) hi
   have hS3:=s3.seq hS
   walk_at "go";refine ⟨a,ns,_,rfl,hS3,by omega,by omega,λr l b kvs f us hs n cw H4 s4 e4 eb hin hkl hf1=>?_⟩
   have r4:=aL e4
   obtain ⟨ha,lk,hf0,hb,hatH,ok,h6,hn,hc1,hc7,hcL⟩:=id hin;walk_at "go";refine ⟨l,b,kvs,f,us,hs,n,cw,rfl,hin,λH5 hcan s5=>?_,λH5 s5=>?_⟩
   · walk_at "go";refine ⟨l,b,kvs,f,us,hs,n,cw,rfl,⟨s5 _ _ ha,lk,hf0,aH s5 hb,hatH.keep s5,ok,h6,hn,hc1,hc7,hcL⟩,hkl,hf1,hcan,λH6 s6=>?_⟩;walk_at "go";exact ⟨_,_,_,_,_,rfl,s3.trans (s4.trans (s5.trans s6))⟩
   · walk_at "go";exact ⟨_,_,_,_,_,rfl,s3.trans (s4.trans s5)⟩
 · rintro σ H3 ⟨v1,v2,v3,v4,v5,rfl,s3⟩;walk_at "go";exact q _
end
local macro_rules | `(tactic| walk_at "bd") => `(tactic| (intro a1 a2 a3 a4 a5 a6 us hl; iterate 7 (all_goals try (rcases us with _ | ⟨u,us⟩; (· first | rfl | (simp at hl)))); all_goals (simp at hl)))
theorem all_mk {l:PySem.W.OpenLaw} {w:World} {K:PySem.W.Frag} {h:Heap} {mg:Q4} {fa:Addr} {od_0 an_0 od_1 an_1 od_2 an_2 od_3 an_3 od_4 an_4 od_5 an_5 od_6 an_6 od_7 an_7 od_8 an_8 od_9 an_9 od_10 an_10 od_11 an_11 od_12 an_12 od_13 an_13 od_14 an_14 od_15 an_15 od_16 an_16 od_17 an_17 od_18 an_18 od_19 an_19 od_20 an_20 od_21 an_21 od_22 an_22 od_23 an_23 od_24 an_24 od_25 an_25 od_26 an_26 od_27 an_27 od_28 an_28 od_29 an_29 od_30 an_30 od_31 an_31 od_32 an_32 od_33 an_33 od_34 an_34 od_35 an_35 od_36 an_36 od_37 an_37 od_38 an_38 od_39 an_39 od_40 an_40 od_41 an_41 od_42 an_42 od_43 an_43:Option Addr} {sl_0 sl_1 sl_2 sl_3 sl_4 sl_5 sl_6 sl_7 sl_8 sl_9 sl_10 sl_11 sl_12 sl_13 sl_14 sl_15 sl_16 sl_17 sl_18 sl_19 sl_20 sl_21 sl_22 sl_23 sl_24 sl_25 sl_26 sl_27 sl_28 sl_29 sl_30 sl_31 sl_32 sl_33 sl_34 sl_35 sl_36 sl_37 sl_38 sl_39 sl_40 sl_41 sl_42 sl_43:Array (Option Value)} {f_0 f_1 f_2 f_3 f_4 f_5 f_6 f_7 f_8 f_9 f_10 f_11 f_12 f_13 f_14 f_15 f_16 f_17 f_18 f_19 f_20 f_21 f_22 f_23 f_24 f_25 f_26 f_27 f_28 f_29 f_30 f_31 f_32 f_33 f_34 f_35 f_36 f_37 f_38 f_39 f_40 f_41 f_42 f_43:Addr} {oc_0 kV_0 dc_0 pm_0 cd_0 ct_0 oc_1 kV_1 dc_1 pm_1 cd_1 ct_1 oc_2 kV_2 dc_2 pm_2 cd_2 ct_2 oc_3 kV_3 dc_3 pm_3 cd_3 ct_3 oc_4 kV_4 dc_4 pm_4 cd_4 ct_4 oc_5 kV_5 dc_5 pm_5 cd_5 ct_5 oc_6 kV_6 dc_6 pm_6 cd_6 ct_6 oc_7 kV_7 dc_7 pm_7 cd_7 ct_7 oc_8 kV_8 dc_8 pm_8 cd_8 ct_8 oc_9 kV_9 dc_9 pm_9 cd_9 ct_9 oc_10 kV_10 dc_10 pm_10 cd_10 ct_10 oc_11 kV_11 dc_11 pm_11 cd_11 ct_11 oc_12 kV_12 dc_12 pm_12 cd_12 ct_12 oc_13 kV_13 dc_13 pm_13 cd_13 ct_13 oc_14 kV_14 dc_14 pm_14 cd_14 ct_14 oc_15 kV_15 dc_15 pm_15 cd_15 ct_15 oc_16 kV_16 dc_16 pm_16 cd_16 ct_16 oc_17 kV_17 dc_17 pm_17 cd_17 ct_17 oc_18 kV_18 dc_18 pm_18 cd_18 ct_18 oc_19 kV_19 dc_19 pm_19 cd_19 ct_19 oc_20 kV_20 dc_20 pm_20 cd_20 ct_20 oc_21 kV_21 dc_21 pm_21 cd_21 ct_21 oc_22 kV_22 dc_22 pm_22 cd_22 ct_22 oc_23 kV_23 dc_23 pm_23 cd_23 ct_23 oc_24 kV_24 dc_24 pm_24 cd_24 ct_24 oc_25 kV_25 dc_25 pm_25 cd_25 ct_25 oc_26 kV_26 dc_26 pm_26 cd_26 ct_26 oc_27 kV_27 dc_27 pm_27 cd_27 ct_27 oc_28 kV_28 dc_28 pm_28 cd_28 ct_28 oc_29 kV_29 dc_29 pm_29 cd_29 ct_29 oc_30 kV_30 dc_30 pm_30 cd_30 ct_30 oc_31 kV_31 dc_31 pm_31 cd_31 ct_31 oc_32 kV_32 dc_32 pm_32 cd_32 ct_32 oc_33 kV_33 dc_33 pm_33 cd_33 ct_33 oc_34 kV_34 dc_34 pm_34 cd_34 ct_34 oc_35 kV_35 dc_35 pm_35 cd_35 ct_35 oc_36 kV_36 dc_36 pm_36 cd_36 ct_36 oc_37 kV_37 dc_37 pm_37 cd_37 ct_37 oc_38 kV_38 dc_38 pm_38 cd_38 ct_38 oc_39 kV_39 dc_39 pm_39 cd_39 ct_39 oc_40 kV_40 dc_40 pm_40 cd_40 ct_40 oc_41 kV_41 dc_41 pm_41 cd_41 ct_41 oc_42 kV_42 dc_42 pm_42 cd_42 ct_42 oc_43 kV_43 dc_43 pm_43 cd_43 ct_43:Value} {t_FLAGS:Tok} {t_SUBSTITUTES:Tok} {t_MOST_PLACES:Tok} {Zw:Addr} {Zz:Addr} {Zx:Addr} {Zy:Addr} (X:K.In h) (Gn:h.Ns mainGlobals mg) (hfa:mg "law"=some (.ref fa))
   (a_0:PySem.W.nsIn K mainGlobals "_law_cell"=some (some (.ref f_0))) (l_0:K.lookup f_0=some ⟨oc_0,od_0,.func (PySem.W.fnOf "_law_cell" "_law_cell" (aT jA) (aS jA) (aG jA) .none kV_0 dc_0 pm_0 an_0 cd_0 ct_0),sl_0⟩) (c_0:PySem.W.codeIn K cd_0 "_law_cell"=true) (k_0:PySem.W.keepIn K (.ref f_0)=true)
   (a_1:PySem.W.nsIn K mainGlobals "_law_stream"=some (some (.ref f_1))) (l_1:K.lookup f_1=some ⟨oc_1,od_1,.func (PySem.W.fnOf "_law_stream" "_law_stream" (aT fS) (aS fS) (aG fS) .none kV_1 dc_1 pm_1 an_1 cd_1 ct_1),sl_1⟩) (c_1:PySem.W.codeIn K cd_1 "_law_stream"=true) (k_1:PySem.W.keepIn K (.ref f_1)=true)
   (a_2:PySem.W.nsIn K mainGlobals "_law_choices"=some (some (.ref f_2))) (l_2:K.lookup f_2=some ⟨oc_2,od_2,.func (PySem.W.fnOf "_law_choices" "_law_choices" (aT eZ) (aS eZ) (aG eZ) .none kV_2 dc_2 pm_2 an_2 cd_2 ct_2),sl_2⟩) (c_2:PySem.W.codeIn K cd_2 "_law_choices"=true) (k_2:PySem.W.keepIn K (.ref f_2)=true)
   (a_3:PySem.W.nsIn K mainGlobals "_law_hoist"=some (some (.ref f_3))) (l_3:K.lookup f_3=some ⟨oc_3,od_3,.func (PySem.W.fnOf "_law_hoist" "_law_hoist" (aT gO) (aS gO) (aG gO) .none kV_3 dc_3 pm_3 an_3 cd_3 ct_3),sl_3⟩) (c_3:PySem.W.codeIn K cd_3 "_law_hoist"=true) (k_3:PySem.W.keepIn K (.ref f_3)=true)
   (a_4:PySem.W.nsIn K mainGlobals "_law_word"=some (some (.ref f_4))) (l_4:K.lookup f_4=some ⟨oc_4,od_4,.func (PySem.W.fnOf "_law_word" "_law_word" (aT iR) (aS iR) (aG iR) .none kV_4 dc_4 pm_4 an_4 cd_4 ct_4),sl_4⟩) (c_4:PySem.W.codeIn K cd_4 "_law_word"=true) (k_4:PySem.W.keepIn K (.ref f_4)=true)
   (a_5:PySem.W.nsIn K mainGlobals "_law_halyards"=some (some (.ref f_5))) (l_5:K.lookup f_5=some ⟨oc_5,od_5,.func (PySem.W.fnOf "_law_halyards" "_law_halyards" (aT dP) (aS dP) (aG dP) .none kV_5 dc_5 pm_5 an_5 cd_5 ct_5),sl_5⟩) (c_5:PySem.W.codeIn K cd_5 "_law_halyards"=true) (k_5:PySem.W.keepIn K (.ref f_5)=true)
   (a_6:PySem.W.nsIn K mainGlobals "_law_locker"=some (some (.ref f_6))) (l_6:K.lookup f_6=some ⟨oc_6,od_6,.func (PySem.W.fnOf "_law_locker" "_law_locker" (aT fQ) (aS fQ) (aG fQ) .none kV_6 dc_6 pm_6 an_6 cd_6 ct_6),sl_6⟩) (c_6:PySem.W.codeIn K cd_6 "_law_locker"=true) (k_6:PySem.W.keepIn K (.ref f_6)=true)
   (a_7:PySem.W.nsIn K mainGlobals "_law_drawn"=some (some (.ref f_7))) (l_7:K.lookup f_7=some ⟨oc_7,od_7,.func (PySem.W.fnOf "_law_drawn" "_law_drawn" (aT fT) (aS fT) (aG fT) .none kV_7 dc_7 pm_7 an_7 cd_7 ct_7),sl_7⟩) (c_7:PySem.W.codeIn K cd_7 "_law_drawn"=true) (k_7:PySem.W.keepIn K (.ref f_7)=true)
   (a_8:PySem.W.nsIn K mainGlobals "plain_locker"=some (some (.ref f_8))) (l_8:K.lookup f_8=some ⟨oc_8,od_8,.func (PySem.W.fnOf "plain_locker" "plain_locker" (aT cX) (aS cX) (aG cX) .none kV_8 dc_8 pm_8 an_8 cd_8 ct_8),sl_8⟩) (c_8:PySem.W.codeIn K cd_8 "plain_locker"=true) (k_8:PySem.W.keepIn K (.ref f_8)=true)
   (a_9:PySem.W.nsIn K mainGlobals "put_in"=some (some (.ref f_9))) (l_9:K.lookup f_9=some ⟨oc_9,od_9,.func (PySem.W.fnOf "put_in" "put_in" (aT iY) (aS iY) (aG iY) .none kV_9 dc_9 pm_9 an_9 cd_9 ct_9),sl_9⟩) (c_9:PySem.W.codeIn K cd_9 "put_in"=true) (k_9:PySem.W.keepIn K (.ref f_9)=true)
   (a_10:PySem.W.nsIn K mainGlobals "rising_lists"=some (some (.ref f_10))) (l_10:K.lookup f_10=some ⟨oc_10,od_10,.func (PySem.W.fnOf "rising_lists" "rising_lists" (aT cO) (aS cO) (aG cO) .none kV_10 dc_10 pm_10 an_10 cd_10 ct_10),sl_10⟩) (c_10:PySem.W.codeIn K cd_10 "rising_lists"=true) (k_10:PySem.W.keepIn K (.ref f_10)=true)
   (a_11:PySem.W.nsIn K mainGlobals "sets_of"=some (some (.ref f_11))) (l_11:K.lookup f_11=some ⟨oc_11,od_11,.func (PySem.W.fnOf "sets_of" "sets_of" (aT gQ) (aS gQ) (aG gQ) .none kV_11 dc_11 pm_11 an_11 cd_11 ct_11),sl_11⟩) (c_11:PySem.W.codeIn K cd_11 "sets_of"=true) (k_11:PySem.W.keepIn K (.ref f_11)=true)
   (y_12:PySem.W.typeIn K (.ref f_12)=some (.type "function"))
   (a_12:PySem.W.findIn K (.ref Zw) "__init__"=some (some (.ref f_12))) (l_12:K.lookup f_12=some ⟨oc_12,od_12,.func (PySem.W.fnOf "__init__" "Lack.__init__" (aT eV) (aS eV) (aG eV) .none kV_12 dc_12 pm_12 an_12 cd_12 ct_12),sl_12⟩) (c_12:PySem.W.codeIn K cd_12 "Lack.__init__"=true) (k_12:PySem.W.keepIn K (.ref f_12)=true)
   (a_13:PySem.W.nsIn K mainGlobals "others_hung"=some (some (.ref f_13))) (l_13:K.lookup f_13=some ⟨oc_13,od_13,.func (PySem.W.fnOf "others_hung" "others_hung" (aT cS) (aS cS) (aG cS) .none kV_13 dc_13 pm_13 an_13 cd_13 ct_13),sl_13⟩) (c_13:PySem.W.codeIn K cd_13 "others_hung"=true) (k_13:PySem.W.keepIn K (.ref f_13)=true)
   (a_14:PySem.W.nsIn K mainGlobals "wants_of"=some (some (.ref f_14))) (l_14:K.lookup f_14=some ⟨oc_14,od_14,.func (PySem.W.fnOf "wants_of" "wants_of" (aT eM) (aS eM) (aG eM) .none kV_14 dc_14 pm_14 an_14 cd_14 ct_14),sl_14⟩) (c_14:PySem.W.codeIn K cd_14 "wants_of"=true) (k_14:PySem.W.keepIn K (.ref f_14)=true)
   (a_15:PySem.W.nsIn K mainGlobals "choices_at"=some (some (.ref f_15))) (l_15:K.lookup f_15=some ⟨oc_15,od_15,.func (PySem.W.fnOf "choices_at" "choices_at" (aT dC) (aS dC) (aG dC) .none kV_15 dc_15 pm_15 an_15 cd_15 ct_15),sl_15⟩) (c_15:PySem.W.codeIn K cd_15 "choices_at"=true) (k_15:PySem.W.keepIn K (.ref f_15)=true)
   (a_16:PySem.W.nsIn K mainGlobals "choices_of"=some (some (.ref f_16))) (l_16:K.lookup f_16=some ⟨oc_16,od_16,.func (PySem.W.fnOf "choices_of" "choices_of" (aT dO) (aS dO) (aG dO) .none kV_16 dc_16 pm_16 an_16 cd_16 ct_16),sl_16⟩) (c_16:PySem.W.codeIn K cd_16 "choices_of"=true) (k_16:PySem.W.keepIn K (.ref f_16)=true)
   (a_17:PySem.W.nsIn K mainGlobals "hoists_of"=some (some (.ref f_17))) (l_17:K.lookup f_17=some ⟨oc_17,od_17,.func (PySem.W.fnOf "hoists_of" "hoists_of" (aT fA) (aS fA) (aG fA) .none kV_17 dc_17 pm_17 an_17 cd_17 ct_17),sl_17⟩) (c_17:PySem.W.codeIn K cd_17 "hoists_of"=true) (k_17:PySem.W.keepIn K (.ref f_17)=true)
   (a_18:PySem.W.nsIn K mainGlobals "asked_from"=some (some (.ref f_18))) (l_18:K.lookup f_18=some ⟨oc_18,od_18,.func (PySem.W.fnOf "asked_from" "asked_from" (aT dI) (aS dI) (aG dI) .none kV_18 dc_18 pm_18 an_18 cd_18 ct_18),sl_18⟩) (c_18:PySem.W.codeIn K cd_18 "asked_from"=true) (k_18:PySem.W.keepIn K (.ref f_18)=true)
   (a_19:PySem.W.nsIn K mainGlobals "hang_along"=some (some (.ref f_19))) (l_19:K.lookup f_19=some ⟨oc_19,od_19,.func (PySem.W.fnOf "hang_along" "hang_along" (aT dQ) (aS dQ) (aG dQ) .none kV_19 dc_19 pm_19 an_19 cd_19 ct_19),sl_19⟩) (c_19:PySem.W.codeIn K cd_19 "hang_along"=true) (k_19:PySem.W.keepIn K (.ref f_19)=true)
   (a_20:PySem.W.nsIn K mainGlobals "hang_all"=some (some (.ref f_20))) (l_20:K.lookup f_20=some ⟨oc_20,od_20,.func (PySem.W.fnOf "hang_all" "hang_all" (aT cR) (aS cR) (aG cR) .none kV_20 dc_20 pm_20 an_20 cd_20 ct_20),sl_20⟩) (c_20:PySem.W.codeIn K cd_20 "hang_all"=true) (k_20:PySem.W.keepIn K (.ref f_20)=true)
   (a_21:PySem.W.nsIn K mainGlobals "lack_of"=some (some (.ref f_21))) (l_21:K.lookup f_21=some ⟨oc_21,od_21,.func (PySem.W.fnOf "lack_of" "lack_of" (aT gM) (aS gM) (aG gM) .none kV_21 dc_21 pm_21 an_21 cd_21 ct_21),sl_21⟩) (c_21:PySem.W.codeIn K cd_21 "lack_of"=true) (k_21:PySem.W.keepIn K (.ref f_21)=true)
   (a_22:PySem.W.nsIn K mainGlobals "flags_on"=some (some (.ref f_22))) (l_22:K.lookup f_22=some ⟨oc_22,od_22,.func (PySem.W.fnOf "flags_on" "flags_on" (aT fZ) (aS fZ) (aG fZ) .none kV_22 dc_22 pm_22 an_22 cd_22 ct_22),sl_22⟩) (c_22:PySem.W.codeIn K cd_22 "flags_on"=true) (k_22:PySem.W.keepIn K (.ref f_22)=true)
   (a_23:PySem.W.nsIn K mainGlobals "is_flag"=some (some (.ref f_23))) (l_23:K.lookup f_23=some ⟨oc_23,od_23,.func (PySem.W.fnOf "is_flag" "is_flag" (aT gR) (aS gR) (aG gR) .none kV_23 dc_23 pm_23 an_23 cd_23 ct_23),sl_23⟩) (c_23:PySem.W.codeIn K cd_23 "is_flag"=true) (k_23:PySem.W.keepIn K (.ref f_23)=true)
   (a_24:PySem.W.nsIn K mainGlobals "may_stand"=some (some (.ref f_24))) (l_24:K.lookup f_24=some ⟨oc_24,od_24,.func (PySem.W.fnOf "may_stand" "may_stand" (aT eY) (aS eY) (aG eY) .none kV_24 dc_24 pm_24 an_24 cd_24 ct_24),sl_24⟩) (c_24:PySem.W.codeIn K cd_24 "may_stand"=true) (k_24:PySem.W.keepIn K (.ref f_24)=true)
   (a_25:PySem.W.nsIn K mainGlobals "is_hoist"=some (some (.ref f_25))) (l_25:K.lookup f_25=some ⟨oc_25,od_25,.func (PySem.W.fnOf "is_hoist" "is_hoist" (aT fV) (aS fV) (aG fV) .none kV_25 dc_25 pm_25 an_25 cd_25 ct_25),sl_25⟩) (c_25:PySem.W.codeIn K cd_25 "is_hoist"=true) (k_25:PySem.W.keepIn K (.ref f_25)=true)
   (a_26:PySem.W.nsIn K mainGlobals "read_of"=some (some (.ref f_26))) (l_26:K.lookup f_26=some ⟨oc_26,od_26,.func (PySem.W.fnOf "read_of" "read_of" (aT gN) (aS gN) (aG gN) .none kV_26 dc_26 pm_26 an_26 cd_26 ct_26),sl_26⟩) (c_26:PySem.W.codeIn K cd_26 "read_of"=true) (k_26:PySem.W.keepIn K (.ref f_26)=true)
   (a_27:PySem.W.nsIn K mainGlobals "words_with"=some (some (.ref f_27))) (l_27:K.lookup f_27=some ⟨oc_27,od_27,.func (PySem.W.fnOf "words_with" "words_with" (aT dD) (aS dD) (aG dD) .none kV_27 dc_27 pm_27 an_27 cd_27 ct_27),sl_27⟩) (c_27:PySem.W.codeIn K cd_27 "words_with"=true) (k_27:PySem.W.keepIn K (.ref f_27)=true)
   (a_28:PySem.W.nsIn K mainGlobals "least_set"=some (some (.ref f_28))) (l_28:K.lookup f_28=some ⟨oc_28,od_28,.func (PySem.W.fnOf "least_set" "least_set" (aT eU) (aS eU) (aG eU) .none kV_28 dc_28 pm_28 an_28 cd_28 ct_28),sl_28⟩) (c_28:PySem.W.codeIn K cd_28 "least_set"=true) (k_28:PySem.W.keepIn K (.ref f_28)=true)
   (y_29:PySem.W.typeIn K (.ref f_29)=some (.type "function"))
   (a_29:PySem.W.findIn K (.ref Zx) "__init__"=some (some (.ref f_29))) (l_29:K.lookup f_29=some ⟨oc_29,od_29,.func (PySem.W.fnOf "__init__" "Short.__init__" (aT dS) (aS dS) (aG dS) .none kV_29 dc_29 pm_29 an_29 cd_29 ct_29),sl_29⟩) (c_29:PySem.W.codeIn K cd_29 "Short.__init__"=true) (k_29:PySem.W.keepIn K (.ref f_29)=true)
   (a_30:PySem.W.nsIn K mainGlobals "taken"=some (some (.ref f_30))) (l_30:K.lookup f_30=some ⟨oc_30,od_30,.func (PySem.W.fnOf "taken" "taken" (aT kS) (aS kS) (aG kS) .none kV_30 dc_30 pm_30 an_30 cd_30 ct_30),sl_30⟩) (c_30:PySem.W.codeIn K cd_30 "taken"=true) (k_30:PySem.W.keepIn K (.ref f_30)=true)
   (a_31:PySem.W.nsIn K mainGlobals "hauled"=some (some (.ref f_31))) (l_31:K.lookup f_31=some ⟨oc_31,od_31,.func (PySem.W.fnOf "hauled" "hauled" (aT iN) (aS iN) (aG iN) .none kV_31 dc_31 pm_31 an_31 cd_31 ct_31),sl_31⟩) (c_31:PySem.W.codeIn K cd_31 "hauled"=true) (k_31:PySem.W.keepIn K (.ref f_31)=true)
   (a_32:PySem.W.nsIn K mainGlobals "_law_can"=some (some (.ref f_32))) (l_32:K.lookup f_32=some ⟨oc_32,od_32,.func (PySem.W.fnOf "_law_can" "_law_can" (aT kP) (aS kP) (aG kP) .none kV_32 dc_32 pm_32 an_32 cd_32 ct_32),sl_32⟩) (c_32:PySem.W.codeIn K cd_32 "_law_can"=true) (k_32:PySem.W.keepIn K (.ref f_32)=true)
   (a_33:PySem.W.nsIn K mainGlobals "hauling_papers"=some (some (.ref f_33))) (l_33:K.lookup f_33=some ⟨oc_33,od_33,.func (PySem.W.fnOf "hauling_papers" "hauling_papers" (aT cN) (aS cN) (aG cN) .none kV_33 dc_33 pm_33 an_33 cd_33 ct_33),sl_33⟩) (c_33:PySem.W.codeIn K cd_33 "hauling_papers"=true) (k_33:PySem.W.keepIn K (.ref f_33)=true)
   (a_34:PySem.W.nsIn K mainGlobals "_law_lists"=some (some (.ref f_34))) (l_34:K.lookup f_34=some ⟨oc_34,od_34,.func (PySem.W.fnOf "_law_lists" "_law_lists" (aT eW) (aS eW) (aG eW) .none kV_34 dc_34 pm_34 an_34 cd_34 ct_34),sl_34⟩) (c_34:PySem.W.codeIn K cd_34 "_law_lists"=true) (k_34:PySem.W.keepIn K (.ref f_34)=true)
   (a_35:PySem.W.nsIn K mainGlobals "_law_ahead"=some (some (.ref f_35))) (l_35:K.lookup f_35=some ⟨oc_35,od_35,.func (PySem.W.fnOf "_law_ahead" "_law_ahead" (aT eX) (aS eX) (aG eX) .none kV_35 dc_35 pm_35 an_35 cd_35 ct_35),sl_35⟩) (c_35:PySem.W.codeIn K cd_35 "_law_ahead"=true) (k_35:PySem.W.keepIn K (.ref f_35)=true)
   (a_36:PySem.W.nsIn K mainGlobals "_law_others"=some (some (.ref f_36))) (l_36:K.lookup f_36=some ⟨oc_36,od_36,.func (PySem.W.fnOf "_law_others" "_law_others" (aT eP) (aS eP) (aG eP) .none kV_36 dc_36 pm_36 an_36 cd_36 ct_36),sl_36⟩) (c_36:PySem.W.codeIn K cd_36 "_law_others"=true) (k_36:PySem.W.keepIn K (.ref f_36)=true)
   (a_37:PySem.W.nsIn K mainGlobals "_law_pool"=some (some (.ref f_37))) (l_37:K.lookup f_37=some ⟨oc_37,od_37,.func (PySem.W.fnOf "_law_pool" "_law_pool" (aT iO) (aS iO) (aG iO) .none kV_37 dc_37 pm_37 an_37 cd_37 ct_37),sl_37⟩) (c_37:PySem.W.codeIn K cd_37 "_law_pool"=true) (k_37:PySem.W.keepIn K (.ref f_37)=true)
   (a_38:PySem.W.nsIn K mainGlobals "_law_are_short"=some (some (.ref f_38))) (l_38:K.lookup f_38=some ⟨oc_38,od_38,.func (PySem.W.fnOf "_law_are_short" "_law_are_short" (aT cT) (aS cT) (aG cT) .none kV_38 dc_38 pm_38 an_38 cd_38 ct_38),sl_38⟩) (c_38:PySem.W.codeIn K cd_38 "_law_are_short"=true) (k_38:PySem.W.keepIn K (.ref f_38)=true)
   (a_39:PySem.W.nsIn K mainGlobals "_law_read"=some (some (.ref f_39))) (l_39:K.lookup f_39=some ⟨oc_39,od_39,.func (PySem.W.fnOf "_law_read" "_law_read" (aT iQ) (aS iQ) (aG iQ) .none kV_39 dc_39 pm_39 an_39 cd_39 ct_39),sl_39⟩) (c_39:PySem.W.codeIn K cd_39 "_law_read"=true) (k_39:PySem.W.keepIn K (.ref f_39)=true)
   (a_40:PySem.W.nsIn K mainGlobals "_law_words"=some (some (.ref f_40))) (l_40:K.lookup f_40=some ⟨oc_40,od_40,.func (PySem.W.fnOf "_law_words" "_law_words" (aT fR) (aS fR) (aG fR) .none kV_40 dc_40 pm_40 an_40 cd_40 ct_40),sl_40⟩) (c_40:PySem.W.codeIn K cd_40 "_law_words"=true) (k_40:PySem.W.keepIn K (.ref f_40)=true)
   (a_41:PySem.W.nsIn K mainGlobals "_law_is_paper"=some (some (.ref f_41))) (l_41:K.lookup f_41=some ⟨oc_41,od_41,.func (PySem.W.fnOf "_law_is_paper" "_law_is_paper" (aT dH) (aS dH) (aG dH) .none kV_41 dc_41 pm_41 an_41 cd_41 ct_41),sl_41⟩) (c_41:PySem.W.codeIn K cd_41 "_law_is_paper"=true) (k_41:PySem.W.keepIn K (.ref f_41)=true)
   (a_42:PySem.W.nsIn K mainGlobals "_law_good"=some (some (.ref f_42))) (l_42:K.lookup f_42=some ⟨oc_42,od_42,.func (PySem.W.fnOf "_law_good" "_law_good" (aT iP) (aS iP) (aG iP) .none kV_42 dc_42 pm_42 an_42 cd_42 ct_42),sl_42⟩) (c_42:PySem.W.codeIn K cd_42 "_law_good"=true) (k_42:PySem.W.keepIn K (.ref f_42)=true)
   (a_43:PySem.W.nsIn K mainGlobals "law"=some (some (.ref f_43))) (l_43:K.lookup f_43=some ⟨oc_43,od_43,.func (PySem.W.fnOf "law" "law" (aT mZ) (aS mZ) (aG mZ) .none kV_43 dc_43 pm_43 an_43 cd_43 ct_43),sl_43⟩) (c_43:PySem.W.codeIn K cd_43 "law"=true) (k_43:PySem.W.keepIn K (.ref f_43)=true)
   (z_len:PySem.W.nsIn K mainGlobals "len"=some none)
   (z_range:PySem.W.nsIn K mainGlobals "range"=some none)
   (z_min:PySem.W.nsIn K mainGlobals "min"=some none)
   (z_list:PySem.W.nsIn K mainGlobals "list"=some none)
   (z_max:PySem.W.nsIn K mainGlobals "max"=some none)
   (z_enumerate:PySem.W.nsIn K mainGlobals "enumerate"=some none)
   (z_int:PySem.W.nsIn K mainGlobals "int"=some none)
   (z_all:PySem.W.nsIn K mainGlobals "all"=some none)
   (z_zip:PySem.W.nsIn K mainGlobals "zip"=some none)
   (z_sorted:PySem.W.nsIn K mainGlobals "sorted"=some none)
   (z_dict:PySem.W.nsIn K mainGlobals "dict"=some none)
   (z_sum:PySem.W.nsIn K mainGlobals "sum"=some none)
   (z_set:PySem.W.nsIn K mainGlobals "set"=some none)
   (z_isinstance:PySem.W.nsIn K mainGlobals "isinstance"=some none)
   (z_tuple:PySem.W.nsIn K mainGlobals "tuple"=some none)
   (z_bool:PySem.W.nsIn K mainGlobals "bool"=some none)
   (g_FLAGS:PySem.W.nsIn K mainGlobals "FLAGS"=some (some (.str "abcdefghijklmnopqrstuvw1234" t_FLAGS)))
   (g_SUBSTITUTES:PySem.W.nsIn K mainGlobals "SUBSTITUTES"=some (some (.str "1234" t_SUBSTITUTES)))
   (g_MOST_PLACES:PySem.W.nsIn K mainGlobals "MOST_PLACES"=some (some (.int 7 t_MOST_PLACES)))
   (q_Lack:PySem.W.nsIn K mainGlobals "Lack"=some (some (.ref Zw)))
   (q_TowerError:PySem.W.nsIn K mainGlobals "TowerError"=some (some (.ref Zz)))
   (q_Short:PySem.W.nsIn K mainGlobals "Short"=some (some (.ref Zx)))
   (q_NoHoist:PySem.W.nsIn K mainGlobals "NoHoist"=some (some (.ref Zy)))
   (f_m_Lack:PySem.W.exmOne K (.ref Zw) (.ref Zw)=some true)
   (f_x_NoHoist:PySem.W.excIn K Zy [.type "ValueError",.type "Exception",.type "BaseException",.type "object"] "ValueError.__new__"=true)
   (f_m_Short:PySem.W.exmOne K (.ref Zx) (.ref Zx)=some true)
   (f_t1_TowerError:PySem.W.specialIn K (.ref Zz) "__getattribute__"=some (some (.builtin "type.__getattribute__")))
   (f_t2_TowerError:PySem.W.readsIn K Zz (.type "type")=true)
   (f_t3_TowerError:PySem.W.findCls K (.ref Zz) (.type "type") "__init__"=some (.val (.builtin "ValueError.__init__")))
   (f_xo_Lack:uI K Zw [.type "ValueError",.type "Exception",.type "BaseException",.type "object"] "ValueError.__new__"=true)
   (f_xk_Lack:PySem.W.keepIn K (.ref Zw)=true)
   (f_xe1_Lack:PySem.W.hasDictIn K Zw=true)
   (f_xe2_Lack:PySem.W.findIn K (.ref Zw) "__getattribute__"=some (some (.builtin "BaseException.__getattribute__")))
   (f_xe3_Lack:PySem.W.findIn K (.ref Zw) "__getattr__"=some none)
   (f_xe4_Lack:PySem.W.findIn K (.ref Zw) "__class__"=some (some (.builtin "object.__class__")))
   (f_xe5_Lack:PySem.W.specialIn K (.builtin "object.__class__") "__get__"=some (some (.builtin "getset_descriptor.__get__")))
   (f_xe6_Lack:PySem.W.takesIn K (.builtin "object.__class__")=some true)
   (f_xe7_Lack:PySem.W.mroIn K Zw (.type "object")=some true)
   (f_xe8_Lack:PySem.W.subIn K (.ref Zw) (.type "BaseException")=some true)
   (f_xs_Lack:PySem.W.findIn K (.ref Zw) "__setattr__"=some (some (.builtin "object.__setattr__")))
   (f_xr_Lack:bXM K Zw Zz=true)
   (f_xv_Lack:PySem.W.subIn K (.ref Zw) (.type "ValueError")=some true)
   (f_xn_Lack_wants:PySem.W.findIn K (.ref Zw) "wants"=some none)
   (f_xn_Lack_flags:PySem.W.findIn K (.ref Zw) "flags"=some none)
   (f_xo_Short:uI K Zx [.type "ValueError",.type "Exception",.type "BaseException",.type "object"] "ValueError.__new__"=true)
   (f_xk_Short:PySem.W.keepIn K (.ref Zx)=true)
   (f_xe1_Short:PySem.W.hasDictIn K Zx=true)
   (f_xe2_Short:PySem.W.findIn K (.ref Zx) "__getattribute__"=some (some (.builtin "BaseException.__getattribute__")))
   (f_xe3_Short:PySem.W.findIn K (.ref Zx) "__getattr__"=some none)
   (f_xe4_Short:PySem.W.findIn K (.ref Zx) "__class__"=some (some (.builtin "object.__class__")))
   (f_xe5_Short:PySem.W.specialIn K (.builtin "object.__class__") "__get__"=some (some (.builtin "getset_descriptor.__get__")))
   (f_xe6_Short:PySem.W.takesIn K (.builtin "object.__class__")=some true)
   (f_xe7_Short:PySem.W.mroIn K Zx (.type "object")=some true)
   (f_xe8_Short:PySem.W.subIn K (.ref Zx) (.type "BaseException")=some true)
   (f_xs_Short:PySem.W.findIn K (.ref Zx) "__setattr__"=some (some (.builtin "object.__setattr__")))
   (f_xr_Short:bXM K Zx Zz=true)
   (f_xv_Short:PySem.W.subIn K (.ref Zx) (.type "ValueError")=some true)
   (f_xn_Short_flag:PySem.W.findIn K (.ref Zx) "flag"=some none)
   : ∃ fd:FuncData,(∀ (s:Shared) (v:Value),BindsTo s fd ⟨[v],[]⟩ [("_law_script",v)])/\∀ base:Heap,K.In base->base.Ns mainGlobals mg->FnOk l.prog w K mg base CX0 14 fa fd ["_law_script"] (wD K):=by
 have M:∀ {x:Str} {v:Value},PySem.W.nsIn K mainGlobals x=some (some v)->mg x=some v:=λh=>PySem.W.mg_of X Gn h
 have N:∀ {x:Str},PySem.W.nsIn K mainGlobals x=some none->mg x=none:=λh=>PySem.W.mg_none_of X Gn h
 have e:=hfa.symm.trans (M a_43)
 cases e;have G:Gs K mg Zw Zz Zx Zy:=⟨M q_Lack,M q_TowerError,M q_Short,M q_NoHoist,f_m_Lack,f_x_NoHoist,f_m_Short,f_t1_TowerError,f_t2_TowerError,f_t3_TowerError,f_xo_Lack,f_xk_Lack,f_xe1_Lack,f_xe2_Lack,f_xe3_Lack,f_xe4_Lack,f_xe5_Lack,f_xe6_Lack,f_xe7_Lack,f_xe8_Lack,f_xs_Lack,f_xr_Lack,f_xv_Lack,f_xn_Lack_wants,f_xn_Lack_flags,f_xo_Short,f_xk_Short,f_xe1_Short,f_xe2_Short,f_xe3_Short,f_xe4_Short,f_xe5_Short,f_xe6_Short,f_xe7_Short,f_xe8_Short,f_xs_Short,f_xr_Short,f_xv_Short,f_xn_Short_flag,N z_len,N z_range,N z_min,N z_list,N z_max,N z_enumerate,N z_int,N z_all,N z_zip,N z_sorted,N z_dict,N z_sum,N z_set,N z_isinstance,N z_tuple,N z_bool,⟨_,M g_FLAGS⟩,⟨_,M g_SUBSTITUTES⟩,⟨_,M g_MOST_PLACES⟩⟩
 have F_0:=bD (st:=jA) l_0 c_0 k_0
 have b_0:=F_0.binds (ps:=["_law_script", "_law_k"]) (by walk_at "bd")
 have F_1:=bD (st:=fS) l_1 c_1 k_1
 have b_1:=F_1.binds (ps:=["_law_cell_here", "_law_many"]) (by walk_at "bd")
 have F_2:=bD (st:=eZ) l_2 c_2 k_2
 have b_2:=F_2.binds (ps:=["_law_word_here", "_law_place"]) (by walk_at "bd")
 have F_3:=bD (st:=gO) l_3 c_3 k_3
 have b_3:=F_3.binds (ps:=["_law_word_here", "_law_cell_here"]) (by walk_at "bd")
 have F_4:=bD (st:=iR) l_4 c_4 k_4
 have b_4:=F_4.binds (ps:=["_law_cell_here", "_law_spread", "_law_longest"]) (by walk_at "bd")
 have F_5:=bD (st:=dP) l_5 c_5 k_5
 have b_5:=F_5.binds (ps:=["_law_cells", "_law_spread"]) (by walk_at "bd")
 have F_6:=bD (st:=fQ) l_6 c_6 k_6
 have b_6:=F_6.binds (ps:=["_law_cell_here", "_law_words_here"]) (by walk_at "bd")
 have F_7:=bD (st:=fT) l_7 c_7 k_7
 have b_7:=F_7.binds (ps:=["_law_script", "_law_start"]) (by walk_at "bd")
 have F_8:=bD (st:=cX) l_8 c_8 k_8
 have b_8:=F_8.binds (ps:=["locker"]) (by walk_at "bd")
 have F_9:=bD (st:=iY) l_9 c_9 k_9
 have b_9:=F_9.binds (ps:=["locker", "flags"]) (by walk_at "bd")
 have F_10:=bD (st:=cO) l_10 c_10 k_10
 have b_10:=F_10.binds (ps:=["numbers", "many"]) (by walk_at "bd")
 have F_11:=bD (st:=gQ) l_11 c_11 k_11
 have b_11:=F_11.binds (ps:=["others"]) (by walk_at "bd")
 have F_12:=bD (st:=eV) l_12 c_12 k_12
 have b_12:=F_12.binds (ps:=["self", "wants", "flags"]) (by walk_at "bd")
 have F_13:=bD (st:=cS) l_13 c_13 k_13
 have b_13:=F_13.binds (ps:=["halyards", "number"]) (by walk_at "bd")
 have F_14:=bD (st:=eM) l_14 c_14 k_14
 have b_14:=F_14.binds (ps:=["words"]) (by walk_at "bd")
 have F_15:=bD (st:=dC) l_15 c_15 k_15
 have b_15:=F_15.binds (ps:=["word", "place"]) (by walk_at "bd")
 have F_16:=bD (st:=dO) l_16 c_16 k_16
 have b_16:=F_16.binds (ps:=["words"]) (by walk_at "bd")
 have F_17:=bD (st:=fA) l_17 c_17 k_17
 have b_17:=F_17.binds (ps:=["words", "flags"]) (by walk_at "bd")
 have F_18:=bD (st:=dI) l_18 c_18 k_18
 have b_18:=F_18.binds (ps:=["first", "choices", "hung"]) (by walk_at "bd")
 have F_19:=bD (st:=dQ) l_19 c_19 k_19
 have b_19:=F_19.binds (ps:=["flag", "asked", "hung"]) (by walk_at "bd")
 have F_20:=bD (st:=cR) l_20 c_20 k_20
 have b_20:=F_20.binds (ps:=["locker", "words"]) (by walk_at "bd")
 have F_21:=bD (st:=gM) l_21 c_21 k_21
 have b_21:=F_21.binds (ps:=["locker", "words"]) (by walk_at "bd")
 have F_22:=bD (st:=fZ) l_22 c_22 k_22
 have b_22:=F_22.binds (ps:=["halyards", "numbers"]) (by walk_at "bd")
 have F_23:=bD (st:=gR) l_23 c_23 k_23
 have b_23:=F_23.binds (ps:=["text"]) (by walk_at "bd")
 have F_24:=bD (st:=eY) l_24 c_24 k_24
 have b_24:=F_24.binds (ps:=["text", "place"]) (by walk_at "bd")
 have F_25:=bD (st:=fV) l_25 c_25 k_25
 have b_25:=F_25.binds (ps:=["flags"]) (by walk_at "bd")
 have F_26:=bD (st:=gN) l_26 c_26 k_26
 have b_26:=F_26.binds (ps:=["flags"]) (by walk_at "bd")
 have F_27:=bD (st:=dD) l_27 c_27 k_27
 have b_27:=F_27.binds (ps:=["halyards", "word", "lowered"]) (by walk_at "bd")
 have F_28:=bD (st:=eU) l_28 c_28 k_28
 have b_28:=F_28.binds (ps:=["locker", "halyards", "number", "word"]) (by walk_at "bd")
 have F_29:=bD (st:=dS) l_29 c_29 k_29
 have b_29:=F_29.binds (ps:=["self", "flag"]) (by walk_at "bd")
 have F_30:=bD (st:=kS) l_30 c_30 k_30
 have b_30:=F_30.binds (ps:=["locker", "flags"]) (by walk_at "bd")
 have F_31:=bD (st:=iN) l_31 c_31 k_31
 have b_31:=F_31.binds (ps:=["locker", "halyards", "number", "word"]) (by walk_at "bd")
 have F_32:=bD (st:=kP) l_32 c_32 k_32
 have b_32:=F_32.binds (ps:=["_law_locker_here", "_law_halyards_here", "_law_number", "_law_word_here"]) (by walk_at "bd")
 have F_33:=bD (st:=cN) l_33 c_33 k_33
 have b_33:=F_33.binds (ps:=["locker", "halyards", "number", "word"]) (by walk_at "bd")
 have F_34:=bD (st:=eW) l_34 c_34 k_34
 have b_34:=F_34.binds (ps:=["_law_many", "_law_size"]) (by walk_at "bd")
 have F_35:=bD (st:=eX) l_35 c_35 k_35
 have b_35:=F_35.binds (ps:=["_law_others_here", "_law_lowered"]) (by walk_at "bd")
 have F_36:=bD (st:=eP) l_36 c_36 k_36
 have b_36:=F_36.binds (ps:=["_law_halyards_here", "_law_number"]) (by walk_at "bd")
 have F_37:=bD (st:=iO) l_37 c_37 k_37
 have b_37:=F_37.binds (ps:=["_law_locker_here", "_law_halyards_here", "_law_numbers"]) (by walk_at "bd")
 have F_38:=bD (st:=cT) l_38 c_38 k_38
 have b_38:=F_38.binds (ps:=["_law_locker_here", "_law_words_here", "_law_wants", "_law_flags"]) (by walk_at "bd")
 have F_39:=bD (st:=iQ) l_39 c_39 k_39
 have b_39:=F_39.binds (ps:=["_law_hoist_here"]) (by walk_at "bd")
 have F_40:=bD (st:=fR) l_40 c_40 k_40
 have b_40:=F_40.binds (ps:=["_law_halyards_here", "_law_word_here", "_law_numbers"]) (by walk_at "bd")
 have F_41:=bD (st:=dH) l_41 c_41 k_41
 have b_41:=F_41.binds (ps:=["_law_locker_here", "_law_halyards_here", "_law_number", "_law_word_here", "_law_paper"]) (by walk_at "bd")
 have F_42:=bD (st:=iP) l_42 c_42 k_42
 have b_42:=F_42.binds (ps:=["_law_locker_here", "_law_halyards_here", "_law_number", "_law_word_here"]) (by walk_at "bd")
 have F_43:=bD (st:=mZ) l_43 c_43 k_43
 refine ⟨PySem.W.fnOf "law" "law" (aT mZ) (aS mZ) (aG mZ) .none kV_43 dc_43 pm_43 an_43 cd_43 ct_43,λs v=>.of_eq rfl,λbase _ _=>?_⟩;have mk:∀ {k:Nat} {x:Str} {ps:List Str} {sp:Sp} {f:Addr} {fd:FuncData},FnOk l.prog w K mg base CX0 k f fd ps sp->mg x=some (.ref f)->PySem.W.keepIn K (.ref f)=true->Binds K fd ps []->Cal l.prog w K mg base k x ps sp:=λa b c d=>⟨_,_,a,b,c,d⟩
 have mkX:∀ {k:Nat} {x:Str} {ps:List Str} {sp:Sp} {f:Addr} {fd:FuncData},FnOk l.prog w K mg base (CXr l.prog w) k f fd ps sp->mg x=some (.ref f)->PySem.W.keepIn K (.ref f)=true->Binds K fd ps []->oQ l.prog w K mg base k x ps sp:=λa b c d=>⟨_,_,a,b,c,d⟩
 have c_l_cell:=mk (aJ5 F_0 G ) (M a_0) k_0 b_0
 have c_l_stream:=mk (wM F_1 G ) (M a_1) k_1 b_1
 have c_l_choices:=mk (vB F_2 G ) (M a_2) k_2 b_2
 have c_l_hoist:=mk (aXI F_3 G c_l_stream c_l_choices) (M a_3) k_3 b_3
 have c_l_word:=mk (aZ7 F_4 G c_l_stream) (M a_4) k_4 b_4
 have c_l_halyards:=mk (sB F_5 G c_l_hoist c_l_word) (M a_5) k_5 b_5
 have c_l_locker:=mk (xX F_6 G c_l_stream) (M a_6) k_6 b_6
 have c_l_drawn:=mk (aXD F_7 G c_l_cell c_l_halyards c_l_word c_l_locker) (M a_7) k_7 b_7
 have c_plain_locker:=mk (oR F_8 G ) (M a_8) k_8 b_8
 have c_put_in:=mk (aJK F_9 G c_plain_locker) (M a_9) k_9 b_9
 have c_rising_lists:Cal l.prog w K mg base 9 "rising_lists" ["numbers", "many"] (cP 8):=⟨f_10,_,bJO cP nY (M a_10) k_10 b_10 (λd n c=>oV F_10 G c) 8,M a_10,k_10,b_10⟩
 have c_sets_of:=mk (aQB F_11 G c_rising_lists) (M a_11) k_11 b_11
 have c_Lack_init:zO l.prog w K mg base 1 Zw ["self", "wants", "flags"] (gI Zw):=⟨f_12,_,vG F_12 G ,a_12,y_12,b_12⟩
 have c_others_hung:=mk (qQ F_13 G ) (M a_13) k_13 b_13
 have c_wants_of:=mk (yT F_14 G ) (M a_14) k_14 b_14
 have c_choices_at:=mk (sC F_15 G ) (M a_15) k_15 b_15
 have c_choices_of:=mk (rZ F_16 G c_wants_of c_choices_at) (M a_16) k_16 b_16
 have c_hoists_of:=mk (vN F_17 G ) (M a_17) k_17 b_17
 have c_asked_from:=mk (rY F_18 G ) (M a_18) k_18 b_18
 have c_hang_along:=mk (rO F_19 G ) (M a_19) k_19 b_19
 have c_hang_all:=mkX (yO F_20 G c_choices_of c_plain_locker c_hoists_of c_asked_from c_hang_along c_Lack_init) (M a_20) k_20 b_20
 have c_lack_of:=mk (zY F_21 G c_hang_all) (M a_21) k_21 b_21
 have c_flags_on:=mk (wN F_22 G ) (M a_22) k_22 b_22
 have c_is_flag:=mk (aXE F_23 G ) (M a_23) k_23 b_23
 have c_may_stand:=mk (wC F_24 G c_is_flag) (M a_24) k_24 b_24
 have c_is_hoist:=mk (xP F_25 G c_may_stand) (M a_25) k_25 b_25
 have c_read_of:=mkX (aQP F_26 G c_is_hoist) (M a_26) k_26 b_26
 have c_words_with:=mk (rL F_27 G c_read_of) (M a_27) k_27 b_27
 have c_least_set:=mkX (vA F_28 G c_sets_of c_Lack_init c_others_hung c_put_in c_lack_of c_flags_on c_words_with) (M a_28) k_28 b_28
 have c_Short_init:zO l.prog w K mg base 1 Zx ["self", "flag"] (iK Zx):=⟨f_29,_,sE F_29 G ,a_29,y_29,b_29⟩
 have c_taken:=mkX (bX5 F_30 G c_plain_locker c_Short_init) (M a_30) k_30 b_30
 have c_hauled:=mkX (aJV F_31 G c_put_in c_least_set c_flags_on c_hang_all c_taken c_words_with) (M a_31) k_31 b_31
 have c_l_can:=mk (bXO F_32 G c_hauled) (M a_32) k_32 b_32
 have c_hauling_papers:=mkX (mU F_33 G c_least_set) (M a_33) k_33 b_33
 have c_l_lists:=mk (aQ0 F_34 G ) (M a_34) k_34 b_34
 have c_l_ahead:=mk (aQR F_35 G c_l_lists) (M a_35) k_35 b_35
 have c_l_others:=mk (wO F_36 G ) (M a_36) k_36 b_36
 have c_l_pool:=mk (bQO F_37 G ) (M a_37) k_37 b_37
 have c_l_are_short:=mk (qK F_38 G c_l_choices) (M a_38) k_38 b_38
 have c_l_read:=mk (aJ0 F_39 G ) (M a_39) k_39 b_39
 have c_l_words:=mk (aQK F_40 G c_l_read) (M a_40) k_40 b_40
 have c_l_is_paper:=mk (sA F_41 G c_l_pool c_l_are_short c_l_words) (M a_41) k_41 b_41
 have c_l_good:=mk (aJO F_42 G c_hauling_papers c_hauled c_l_ahead c_l_others c_l_is_paper) (M a_42) k_42 b_42
 exact dJB F_43 G c_l_drawn c_l_can c_l_good
theorem walk {l:PySem.W.OpenLaw} {q:Program} {loose:List Str} {XP:(Q4)->Heap->Prop} {YP:World->Heap->Prop} {d:DefRec} {K:Params->PySem.W.Frag} (hn:l.most=some 63) (hdf:d.params.defaults=[])
   (hY:∀ (w:World) (h:Heap),YP w h->(K w.params).In h)
   (F:∀ (w:World) (mg:Q4) (fa:Addr) (h:Heap),(K w.params).In h->h.Ns mainGlobals mg->mg d.name=some (.ref fa)->
     ∃ fd:FuncData,(∀ (s:Shared) (u:Value),BindsTo s fd ⟨[u],[]⟩ [("_law_script",u)])/\∀ base:Heap,(K w.params).In base->base.Ns mainGlobals mg->FnOk l.prog w (K w.params) mg base CX0 14 fa fd ["_law_script"] (wD (K w.params))) :
   PySem.W.WalkO q loose XP YP l.row.toRowW d [] (λf vs=>PySem.call f vs) :=
 L2.cZX (n:=63) (k:=14) (x := "_law_script") (CX:=λ_=>CX0) (sp:=λw=>wD (K w.params)) hn (by decide) hdf ⟨rfl,by decide,by decide⟩ hY F (λ_ _ a ns hl _ hS=>⟨a,ns,rfl,hS,hl,λ_=>rfl⟩) λ_ _ _ _ _ z=>z
end Mine
namespace PySem.W.Fast
theorem tw2779827475293959436:True:=⟨⟩
theorem tw2975460294769545729:True:=⟨⟩
theorem tw8946211230764457198:True:=⟨⟩
theorem tw1451774708289902140:True:=⟨⟩
theorem tw4539648708076887926:True:=⟨⟩
theorem tw9231882842073918012:True:=⟨⟩
theorem tw16852350059904152082:True:=⟨⟩
theorem tw14680116541565954107:True:=⟨⟩
theorem tw439668728325324444:True:=⟨⟩
theorem tw5298775578127254781:True:=⟨⟩
theorem tw10095147331618055167:True:=⟨⟩
theorem tw7766388451636251759:True:=⟨⟩
theorem tw7394887954248693382:True:=⟨⟩
theorem tw8126481328490420229:True:=⟨⟩
theorem tw243408684194479271:True:=⟨⟩
theorem tw5314410229513593367:True:=⟨⟩
theorem tw11642706370885673312:True:=⟨⟩
theorem tw5488995835739936942:True:=⟨⟩
theorem tw7930303307322560736:True:=⟨⟩
theorem tw11323060627861189318:True:=⟨⟩
theorem tw4939149828296802563:True:=⟨⟩
theorem tw1225780856593328782:True:=⟨⟩
theorem tw10632018405005261079:True:=⟨⟩
theorem tw9728169494511625453:True:=⟨⟩
theorem tw4256202073293211659:True:=⟨⟩
theorem tw2819445541144544860:True:=⟨⟩
theorem tw17733886679603243079:True:=⟨⟩
theorem tw13006809778015542172:True:=⟨⟩
theorem tw10930091999003199782:True:=⟨⟩
theorem tw9128714974925293175:True:=⟨⟩
theorem tw16799634677637816288:True:=⟨⟩
theorem tw11050747871930175516:True:=⟨⟩
theorem tw7467860591300415269:True:=⟨⟩
theorem tw16772173733419796506:True:=⟨⟩
theorem tw15789687501523349993:True:=⟨⟩
theorem tw12938228600395826350:True:=⟨⟩
theorem tw16055675513589304700:True:=⟨⟩
theorem tw8270809698747980918:True:=⟨⟩
theorem tw13850041662295339674:True:=⟨⟩
theorem tw10169687073589559712:True:=⟨⟩
theorem tw8368749811431597832:True:=⟨⟩
theorem tw769488960758898269:True:=⟨⟩
theorem tw15047288673749714250:True:=⟨⟩
theorem tw7873304828821331992:True:=⟨⟩
theorem tw13942404952443862161:True:=⟨⟩
theorem tw2945403615633105039:True:=⟨⟩
theorem tw7392267468102742544:True:=⟨⟩
theorem tw8767112892243129345:True:=⟨⟩
theorem tw13142211118509280871:True:=⟨⟩
theorem tw15349691793452102443:True:=⟨⟩
theorem tw8369984546303936544:True:=⟨⟩
theorem tw15325702886377688623:True:=⟨⟩
theorem tw8089413222299831417:True:=⟨⟩
theorem tw14579315539209543894:True:=⟨⟩
theorem tw12143336128783956632:True:=⟨⟩
theorem tw16745370940872471986:True:=⟨⟩
theorem tw9406775142732710659:True:=⟨⟩
theorem tw7497616269413743612:True:=⟨⟩
theorem tw10516711474977217613:True:=⟨⟩
theorem tw5859222416850833535:True:=⟨⟩
theorem tw17124971080955057726:True:=⟨⟩
theorem tw7069871620580196751:True:=⟨⟩
theorem tw3884265641504935584:True:=⟨⟩
theorem tw2590723344964100855:True:=⟨⟩
theorem tw11513056521771292363:True:=⟨⟩
theorem tw4498936575492360182:True:=⟨⟩
theorem tw13403534987097850147:True:=⟨⟩
theorem tw11272339492844258287:True:=⟨⟩
theorem tw16165464072332516149:True:=⟨⟩
theorem tw16683979063194126934:True:=⟨⟩
theorem tw3940122530554538249:True:=⟨⟩
theorem tw3199710591791070686:True:=⟨⟩
theorem tw2860407439691151805:True:=⟨⟩
theorem tw18064263731543015505:True:=⟨⟩
theorem tw8474127376113296911:True:=⟨⟩
theorem tw2520891281996806200:True:=⟨⟩
theorem tw11296650763885071255:True:=⟨⟩
theorem tw5184542081993737284:True:=⟨⟩
theorem tw920495123332187780:True:=⟨⟩
theorem tw15281694894531504235:True:=⟨⟩
theorem tw7500724893454546285:True:=⟨⟩
theorem tw15496040901015160915:True:=⟨⟩
theorem tw17305685772469436942:True:=⟨⟩
theorem tw3843351167086231615:True:=⟨⟩
theorem tw3796953842379409522:True:=⟨⟩
theorem tw11209877414344490982:True:=⟨⟩
theorem tw14583504598702972020:True:=⟨⟩
theorem tw14771754309896022369:True:=⟨⟩
theorem tw982746103961239697:True:=⟨⟩
theorem tw4057040810762682611:True:=⟨⟩
theorem tw2115327471122748947:True:=⟨⟩
theorem tw12273818078415162032:True:=⟨⟩
theorem tw9111741108253377102:True:=⟨⟩
theorem tw9683380996158212430:True:=⟨⟩
theorem tw6779118310919761864:True:=⟨⟩
theorem tw11492800201029030497:True:=⟨⟩
theorem tw18360024956635952974:True:=⟨⟩
theorem tw182660343731689131:True:=⟨⟩
theorem tw6564087508777372302:True:=⟨⟩
theorem tw9728553360783110021:True:=⟨⟩
theorem tw5737137501554026932:True:=⟨⟩
theorem tw12390335590673423568:True:=⟨⟩
theorem tw15096574188287705544:True:=⟨⟩
theorem tw1793505199738762890:True:=⟨⟩
theorem tw12619630358548096679:True:=⟨⟩
theorem tw9612047244701440266:True:=⟨⟩
theorem tw4856354773274794822:True:=⟨⟩
theorem tw4797941458197732391:True:=⟨⟩
theorem tw15666108924307289390:True:=⟨⟩
theorem tw17523912213117005308:True:=⟨⟩
theorem tw9814990373143671803:True:=⟨⟩
theorem tw16306897383629029862:True:=⟨⟩
theorem tw1974349978282339116:True:=⟨⟩
theorem tw15160020575041072007:True:=⟨⟩
theorem tw10221002587415703420:True:=⟨⟩
theorem tw7009716642151781559:True:=⟨⟩
theorem tw16524625343976022791:True:=⟨⟩
theorem tw3036259699719663819:True:=⟨⟩
theorem tw16786817076203440909:True:=⟨⟩
theorem tw14626984604196911191:True:=⟨⟩
theorem tw15432517754962693733:True:=⟨⟩
theorem tw1371564007097314029:True:=⟨⟩
theorem tw5887709791993563434:True:=⟨⟩
theorem tw3092467036856778906:True:=⟨⟩
theorem tw12704348818421856416:True:=⟨⟩
theorem tw7628064844572758676:True:=⟨⟩
theorem tw237761258378930159:True:=⟨⟩
theorem tw5392834112940761960:True:=⟨⟩
theorem tw9420366069270880159:True:=⟨⟩
theorem tw8601105593558430128:True:=⟨⟩
theorem tw3838093544958681988:True:=⟨⟩
theorem tw11180713545868020263:True:=⟨⟩
theorem tw1637650944088333229:True:=⟨⟩
theorem tw4393888906257215683:True:=⟨⟩
theorem tw13191477219641564154:True:=⟨⟩
theorem tw6225208276126160186:True:=⟨⟩
theorem tw963705330350858342:True:=⟨⟩
theorem tw12675194197592880789:True:=⟨⟩
theorem tw14301561187574647834:True:=⟨⟩
theorem tw9343149648741556026:True:=⟨⟩
theorem tw2608931695834177930:True:=⟨⟩
theorem tw3405037446215793589:True:=⟨⟩
theorem tw17378671559538273551:True:=⟨⟩
theorem tw3254325353607458415:True:=⟨⟩
theorem tw12843625901795665628:True:=⟨⟩
theorem tw5954822459807146458:True:=⟨⟩
theorem tw2680812642087854508:True:=⟨⟩
theorem tw13534177443866843634:True:=⟨⟩
theorem tw13744390276635381705:True:=⟨⟩
theorem tw7745296888682967374:True:=⟨⟩
theorem tw270205668968589071:True:=⟨⟩
theorem tw16174176613538619781:True:=⟨⟩
theorem tw3455127010209218779:True:=⟨⟩
theorem tw2151288280249552515:True:=⟨⟩
theorem tw15591262004134723607:True:=⟨⟩
theorem tw114157002363095785:True:=⟨⟩
theorem tw12832080544030419411:True:=⟨⟩
theorem tw4096774730913762957:True:=⟨⟩
theorem tw5839626403719887435:True:=⟨⟩
theorem tw8541542351306811303:True:=⟨⟩
theorem tw15585856102389893731:True:=⟨⟩
theorem tw5742382162492844174:True:=⟨⟩
theorem tw7551519679026485822:True:=⟨⟩
theorem tw17963735041999778688:True:=⟨⟩
theorem tw14353482291945475450:True:=⟨⟩
theorem tw3523035859652869115:True:=⟨⟩
theorem tw14605860753551116093:True:=⟨⟩
theorem tw8702079540067823526:True:=⟨⟩
theorem tw5985669282349372517:True:=⟨⟩
theorem tw8584766265924204776:True:=⟨⟩
theorem tw9683682715191176443:True:=⟨⟩
theorem tw10299708319626464784:True:=⟨⟩
theorem tw1459088330762851418:True:=⟨⟩
theorem tw9907099152947534987:True:=⟨⟩
theorem tw8778532240618599213:True:=⟨⟩
theorem tw15064793756312389946:True:=⟨⟩
theorem tw17791747927089569686:True:=⟨⟩
theorem tw18280669338622739360:True:=⟨⟩
theorem tw10360690281600250823:True:=⟨⟩
theorem tw642524851581343630:True:=⟨⟩
theorem tw8646996791828472537:True:=⟨⟩
theorem tw2817809548989649603:True:=⟨⟩
theorem tw5484288725857063115:True:=⟨⟩
theorem tw12362360101295701658:True:=⟨⟩
theorem tw3846547784139472697:True:=⟨⟩
theorem tw4017476429371788435:True:=⟨⟩
theorem tw7949650086014670167:True:=⟨⟩
theorem tw14744927886425878320:True:=⟨⟩
theorem tw7711445416996246880:True:=⟨⟩
theorem tw10983852221785565486:True:=⟨⟩
theorem tw10234543744987443250:True:=⟨⟩
theorem tw1347621048854874902:True:=⟨⟩
theorem tw2209085385766382736:True:=⟨⟩
theorem tw15036648652443382188:True:=⟨⟩
theorem tw15047618143335408504:True:=⟨⟩
theorem tw15437010252497344859:True:=⟨⟩
theorem tw13656120105887155028:True:=⟨⟩
theorem tw8470298989827444089:True:=⟨⟩
theorem tw4422376089527732677:True:=⟨⟩
theorem tw8290447456086438197:True:=⟨⟩
theorem tw4915292420858570982:True:=⟨⟩
theorem tw5332990238963386540:True:=⟨⟩
theorem tw9592146135093877419:True:=⟨⟩
theorem tw10547409758835133082:True:=⟨⟩
theorem tw17249556211900324229:True:=⟨⟩
theorem tw3520734210309877024:True:=⟨⟩
theorem tw5024669499770930349:True:=⟨⟩
theorem tw56075733617187606:True:=⟨⟩
theorem tw16062673080746182071:True:=⟨⟩
theorem tw13921718647552208300:True:=⟨⟩
theorem tw15007416138484183001:True:=⟨⟩
theorem tw1107601923642140467:True:=⟨⟩
theorem tw3468721749614977784:True:=⟨⟩
theorem tw7674151542517843080:True:=⟨⟩
theorem tw13137030033559325472:True:=⟨⟩
theorem tw17087196104223951242:True:=⟨⟩
theorem tw13253135399173131181:True:=⟨⟩
theorem tw13510069381365749736:True:=⟨⟩
theorem tw11727255422045161887:True:=⟨⟩
theorem tw603093413894786501:True:=⟨⟩
theorem tw7378320156550810686:True:=⟨⟩
theorem tw8698239254943966238:True:=⟨⟩
theorem tw9434643526547587145:True:=⟨⟩
theorem tw3069462228086626599:True:=⟨⟩
theorem tw8955410887559599821:True:=⟨⟩
theorem tw9503481778273435679:True:=⟨⟩
theorem tw15020831507710569090:True:=⟨⟩
theorem tw5006157671668216471:True:=⟨⟩
theorem tw6095209570504256284:True:=⟨⟩
theorem tw16831217095820765658:True:=⟨⟩
theorem tw17868887436547075556:True:=⟨⟩
theorem tw7079476663952930048:True:=⟨⟩
theorem tw8199765731424714911:True:=⟨⟩
theorem tw7339337502839306948:True:=⟨⟩
theorem tw13325086419963072083:True:=⟨⟩
theorem tw16801063388493275683:True:=⟨⟩
theorem tw1496953738553536005:True:=⟨⟩
theorem tw11792430827791136935:True:=⟨⟩
theorem tw11990742214938102111:True:=⟨⟩
theorem tw15122045160542087769:True:=⟨⟩
theorem tw9106223219311943156:True:=⟨⟩
theorem tw4480701750294160328:True:=⟨⟩
theorem tw10716274569756040090:True:=⟨⟩
theorem tw16958393348509340365:True:=⟨⟩
theorem tw16260681062292619032:True:=⟨⟩
theorem tw10289013513533267208:True:=⟨⟩
theorem tw16749854379785915872:True:=⟨⟩
theorem tw17379086347425971276:True:=⟨⟩
theorem tw5372792189241444841:True:=⟨⟩
theorem tw17535581805745823047:True:=⟨⟩
theorem tw5698438069166211580:True:=⟨⟩
theorem tw5830757509019936624:True:=⟨⟩
theorem tw2428973332612374437:True:=⟨⟩
theorem tw2202870387029215172:True:=⟨⟩
theorem tw7241962640566032341:True:=⟨⟩
theorem tw2121828065856341088:True:=⟨⟩
theorem tw3660838764895981408:True:=⟨⟩
theorem tw11130302808182913539:True:=⟨⟩
theorem tw12044498103034840399:True:=⟨⟩
theorem tw15233039401649340021:True:=⟨⟩
theorem tw3346588493551686092:True:=⟨⟩
theorem tw2209130348000860197:True:=⟨⟩
theorem tw16334670461857689174:True:=⟨⟩
theorem tw3385839539895883251:True:=⟨⟩
theorem tw7964545332927299366:True:=⟨⟩
theorem tw15322155302343826769:True:=⟨⟩
theorem tw2461825452179552332:True:=⟨⟩
theorem tw444446223310232407:True:=⟨⟩
theorem tw8994144186373961774:True:=⟨⟩
theorem tw12328562706126389814:True:=⟨⟩
theorem tw6431286458450705534:True:=⟨⟩
theorem tw16355073340695281475:True:=⟨⟩
theorem tw8175494976866934439:True:=⟨⟩
theorem tw5269557219923237754:True:=⟨⟩
theorem tw774032186678750500:True:=⟨⟩
theorem tw12168189339459115873:True:=⟨⟩
theorem tw1701861152961158478:True:=⟨⟩
theorem tw5139055038919484976:True:=⟨⟩
theorem tw16004476479300108381:True:=⟨⟩
theorem tw13176288859340980997:True:=⟨⟩
theorem tw12162905311095479119:True:=⟨⟩
theorem tw16334487275996585957:True:=⟨⟩
theorem tw9818985549487933074:True:=⟨⟩
theorem tw15123792251404967874:True:=⟨⟩
theorem tw7455048232138721159:True:=⟨⟩
theorem tw9992530092128325018:True:=⟨⟩
theorem tw14220760559296566272:True:=⟨⟩
theorem tw16482731851342434913:True:=⟨⟩
theorem tw17101362100037001943:True:=⟨⟩
theorem tw9212205958816679470:True:=⟨⟩
theorem tw1838628693543824915:True:=⟨⟩
theorem tw14850476492985976919:True:=⟨⟩
theorem tw18197373787156786946:True:=⟨⟩
theorem tw2574295899503271158:True:=⟨⟩
theorem tw15208144297606534489:True:=⟨⟩
theorem tw14430575363745029146:True:=⟨⟩
theorem tw7311242609383496927:True:=⟨⟩
theorem tw12836589629604995667:True:=⟨⟩
theorem tw7925631969293434078:True:=⟨⟩
theorem tw597116190960275081:True:=⟨⟩
theorem tw14112798189116203945:True:=⟨⟩
theorem tw4501822173931920926:True:=⟨⟩
theorem tw4314538653349920032:True:=⟨⟩
theorem tw5624848796932445617:True:=⟨⟩
theorem tw16330560674104893845:True:=⟨⟩
theorem tw9526862755762857999:True:=⟨⟩
theorem tw4834162872576181999:True:=⟨⟩
theorem tw7288416891753351579:True:=⟨⟩
theorem tw6860519858308631824:True:=⟨⟩
theorem tw4859700256141579315:True:=⟨⟩
theorem tw1796042725180787057:True:=⟨⟩
theorem tw2543217105642993752:True:=⟨⟩
theorem tw149697296641639262:True:=⟨⟩
theorem tw3937848572826815555:True:=⟨⟩
theorem tw2260270527559544093:True:=⟨⟩
theorem tw16487183450939508037:True:=⟨⟩
theorem tw1601367380309437428:True:=⟨⟩
theorem tw1568272907285441139:True:=⟨⟩
theorem tw11919779756321894606:True:=⟨⟩
end PySem.W.Fast
open PySem PySem.W PyProof.Rows
set_option maxRecDepth 100000 in
set_option maxHeartbeats 0 in
theorem PySem.Challenge.cw_flaglocker_k27_fewest_lowered_holds : PySem.Challenge.rw_flaglocker_k27_fewest_lowered.Holds := by
  w_on; o_law; k_head; (case hw => w_witness2)
  k_fill
  refine Mine.walk (l:=PySem.Challenge.rw_flaglocker_k27_fewest_lowered) rfl rfl (fun w h Y => PySem.W.kIn_of Y) ?F
  case F =>
    intro w mg fa h KX G hmg
    refine' Mine.all_mk KX G hmg ?a_0 ?l_0 ?c_0 ?k_0 ?a_1 ?l_1 ?c_1 ?k_1 ?a_2 ?l_2 ?c_2 ?k_2 ?a_3 ?l_3 ?c_3 ?k_3 ?a_4 ?l_4 ?c_4 ?k_4 ?a_5 ?l_5 ?c_5 ?k_5 ?a_6 ?l_6 ?c_6 ?k_6 ?a_7 ?l_7 ?c_7 ?k_7 ?a_8 ?l_8 ?c_8 ?k_8 ?a_9 ?l_9 ?c_9 ?k_9 ?a_10 ?l_10 ?c_10 ?k_10 ?a_11 ?l_11 ?c_11 ?k_11 ?y_12 ?a_12 ?l_12 ?c_12 ?k_12 ?a_13 ?l_13 ?c_13 ?k_13 ?a_14 ?l_14 ?c_14 ?k_14 ?a_15 ?l_15 ?c_15 ?k_15 ?a_16 ?l_16 ?c_16 ?k_16 ?a_17 ?l_17 ?c_17 ?k_17 ?a_18 ?l_18 ?c_18 ?k_18 ?a_19 ?l_19 ?c_19 ?k_19 ?a_20 ?l_20 ?c_20 ?k_20 ?a_21 ?l_21 ?c_21 ?k_21 ?a_22 ?l_22 ?c_22 ?k_22 ?a_23 ?l_23 ?c_23 ?k_23 ?a_24 ?l_24 ?c_24 ?k_24 ?a_25 ?l_25 ?c_25 ?k_25 ?a_26 ?l_26 ?c_26 ?k_26 ?a_27 ?l_27 ?c_27 ?k_27 ?a_28 ?l_28 ?c_28 ?k_28 ?y_29 ?a_29 ?l_29 ?c_29 ?k_29 ?a_30 ?l_30 ?c_30 ?k_30 ?a_31 ?l_31 ?c_31 ?k_31 ?a_32 ?l_32 ?c_32 ?k_32 ?a_33 ?l_33 ?c_33 ?k_33 ?a_34 ?l_34 ?c_34 ?k_34 ?a_35 ?l_35 ?c_35 ?k_35 ?a_36 ?l_36 ?c_36 ?k_36 ?a_37 ?l_37 ?c_37 ?k_37 ?a_38 ?l_38 ?c_38 ?k_38 ?a_39 ?l_39 ?c_39 ?k_39 ?a_40 ?l_40 ?c_40 ?k_40 ?a_41 ?l_41 ?c_41 ?k_41 ?a_42 ?l_42 ?c_42 ?k_42 ?a_43 ?l_43 ?c_43 ?k_43 ?z_len ?z_range ?z_min ?z_list ?z_max ?z_enumerate ?z_int ?z_all ?z_zip ?z_sorted ?z_dict ?z_sum ?z_set ?z_isinstance ?z_tuple ?z_bool ?g_FLAGS ?g_SUBSTITUTES ?g_MOST_PLACES ?q_Lack ?q_TowerError ?q_Short ?q_NoHoist ?f_m_Lack ?f_x_NoHoist ?f_m_Short ?f_t1_TowerError ?f_t2_TowerError ?f_t3_TowerError ?f_xo_Lack ?f_xk_Lack ?f_xe1_Lack ?f_xe2_Lack ?f_xe3_Lack ?f_xe4_Lack ?f_xe5_Lack ?f_xe6_Lack ?f_xe7_Lack ?f_xe8_Lack ?f_xs_Lack ?f_xr_Lack ?f_xv_Lack ?f_xn_Lack_wants ?f_xn_Lack_flags ?f_xo_Short ?f_xk_Short ?f_xe1_Short ?f_xe2_Short ?f_xe3_Short ?f_xe4_Short ?f_xe5_Short ?f_xe6_Short ?f_xe7_Short ?f_xe8_Short ?f_xs_Short ?f_xr_Short ?f_xv_Short ?f_xn_Short_flag
    (case q_Lack | q_TowerError | q_Short | q_NoHoist | a_0 | l_0 | c_0 | k_0 | a_1 | l_1 | c_1 | k_1 | a_2 | l_2 | c_2 | k_2 | a_3 | l_3 | c_3 | k_3 | a_4 | l_4 | c_4 | k_4 | a_5 | l_5 | c_5 | k_5 | a_6 | l_6 | c_6 | k_6 | a_7 | l_7 | c_7 | k_7 | a_8 | l_8 | c_8 | k_8 => k_is)
    (case a_9 | l_9 | c_9 | k_9 | a_10 | l_10 | c_10 | k_10 | a_11 | l_11 | c_11 | k_11 | a_12 | l_12 | c_12 | k_12 | a_13 | l_13 | c_13 | k_13 | a_14 | l_14 | c_14 | k_14 | a_15 | l_15 | c_15 | k_15 | a_16 | l_16 | c_16 | k_16 | a_17 | l_17 | c_17 | k_17 | a_18 | l_18 | c_18 | k_18 => k_is)
    (case a_19 | l_19 | c_19 | k_19 | a_20 | l_20 | c_20 | k_20 | a_21 | l_21 | c_21 | k_21 | a_22 | l_22 | c_22 | k_22 | a_23 | l_23 | c_23 | k_23 | a_24 | l_24 | c_24 | k_24 | a_25 | l_25 | c_25 | k_25 | a_26 | l_26 | c_26 | k_26 | a_27 | l_27 | c_27 | k_27 | a_28 | l_28 | c_28 | k_28 => k_is)
    (case a_29 | l_29 | c_29 | k_29 | a_30 | l_30 | c_30 | k_30 | a_31 | l_31 | c_31 | k_31 | a_32 | l_32 | c_32 | k_32 | a_33 | l_33 | c_33 | k_33 | a_34 | l_34 | c_34 | k_34 | a_35 | l_35 | c_35 | k_35 | a_36 | l_36 | c_36 | k_36 | a_37 | l_37 | c_37 | k_37 | a_38 | l_38 | c_38 | k_38 => k_is)
    (case a_39 | l_39 | c_39 | k_39 | a_40 | l_40 | c_40 | k_40 | a_41 | l_41 | c_41 | k_41 | a_42 | l_42 | c_42 | k_42 | a_43 | l_43 | c_43 | k_43 | z_len | z_range | z_min | z_list | z_max | z_enumerate | z_int | z_all | z_zip | z_sorted | z_dict | z_sum | z_set | z_isinstance | z_tuple | z_bool | g_FLAGS | g_SUBSTITUTES | g_MOST_PLACES => k_is)
    (case f_m_Lack => kts_exm)
    (case f_x_NoHoist => k_exc)
    (case f_m_Short => kts_exm)
    (case f_t1_TowerError | f_t2_TowerError | f_t3_TowerError => k_is)
    (case f_xo_Lack => kernel_rfl!)
    (case f_xk_Lack | f_xe1_Lack | f_xe2_Lack | f_xe3_Lack | f_xe4_Lack | f_xe5_Lack | f_xe6_Lack | f_xe7_Lack | f_xe8_Lack | f_xs_Lack => k_is)
    (case f_xr_Lack => kernel_rfl!)
    (case f_xv_Lack | f_xn_Lack_wants | f_xn_Lack_flags => k_is)
    (case f_xo_Short => kernel_rfl!)
    (case f_xk_Short | f_xe1_Short | f_xe2_Short | f_xe3_Short | f_xe4_Short | f_xe5_Short | f_xe6_Short | f_xe7_Short | f_xe8_Short | f_xs_Short => k_is)
    (case f_xr_Short => kernel_rfl!)
    (case f_xv_Short | f_xn_Short_flag | y_12 | y_29 => k_is)
